
import Derived.Test.YtajmlfcbppnpgaaLawPlays
import Derived.Test.YtajmlfcbppnpgaaOpenSha
import Derived.JoinedCond
namespace Go.Proofs.Ytajmlfcbppnpgaa
open Go.ChangeShapes Go.WideShapes Go.ChangeAt Go.RowKit

/-! Opening a slice of Ops, and what the bound gives. -/
theorem bulk_pos {H : Type} (d : DataW H) : 1 ≤ Rows.uptoBulk d := by
  cases d with
  | lit l => cases l <;> simp [Rows.uptoBulk]
  | _ => simp [Rows.uptoBulk]
theorem bulk_len {H : Type} (l : List (DataW H)) : l.length ≤ Rows.uptoBulkAll l := by
  induction l with
  | nil => simp [Rows.uptoBulkAll]
  | cons x r ih => have := bulk_pos x; simp only [Rows.uptoBulkAll, List.length_cons]; omega
theorem bulk_dlen {H : Type} (d : DataW H) : dlen d + 1 ≤ Rows.uptoBulk d := by
  cases d with
  | slice el sp => have := bulk_len el; simp only [dlen, Rows.uptoBulk]; omega
  | _ => exact bulk_pos _
theorem bulk_ops {H : Type} : ∀ (ds : List (DataW H)) (os : List OpV), os.length = ds.length → (∀ i (h : i < os.length) (h' : i < ds.length), (os[i]).l.length + 1 ≤ Rows.uptoBulk ds[i]) → totO os + os.length ≤ Rows.uptoBulkAll ds
  | [], [], _, _ => by simp [Rows.uptoBulkAll, totO]
  | [], _ :: _, h, _ => by simp at h
  | _ :: _, [], h, _ => by simp at h
  | d :: ds, o :: os, h, hi => by
    have h1 := bulk_ops ds os (by simpa using h) (fun i a b => by
      have := hi (i + 1) (by simpa using a) (by simpa using b)
      simpa using this)
    have h3 : o.l.length + 1 ≤ Rows.uptoBulk d := hi 0 (by simp) (by simp)
    simp only [Rows.uptoBulkAll, totO, List.length_cons]
    omega
theorem list_ops {n : Nat} {P : Nat → OpV → Prop} (h : ∀ i, i < n → ∃ l, P i l) : ∃ ls : List OpV, ls.length = n ∧ ∀ i (hi : i < ls.length), P i ls[i] := by
  refine ⟨List.ofFn fun i : Fin n => Classical.choose (h i.1 i.2), by simp, fun i hi => ?_⟩
  have hn : i < n := by simpa using hi
  rw [List.getElem_ofFn]
  exact Classical.choose_spec (h i hn)
theorem cells3 {w : World} {base : Nat} {a : Addr} {cs : List Value} (h : w.cells? base a 3 = some cs) : ∃ c0 c1 c2, cs = [c0, c1, c2] ∧ w.cell? (a.add 0) = some c0 ∧ w.cell? (a.add 1) = some c1 ∧ w.cell? (a.add 2) = some c2 := by
  unfold World.cells? at h
  split at h
  · simp only [show List.range 3 = [0, 1, 2] from rfl, List.mapM_cons, List.mapM_nil, Option.bind_eq_bind, Option.pure_def, Option.bind_eq_some_iff, Option.some.injEq] at h
    obtain ⟨c0, h0, r0, ⟨c1, h1, r1, ⟨c2, h2, r2, rfl, rfl⟩, rfl⟩, rfl⟩ := h
    exact ⟨c0, c1, c2, rfl, h0, h1, h2⟩
  · cases h
theorem cellsOp : Try.prog.cellsOf 40 = 3 := by kernel_rfl
theorem op_of_trod {H : Type} {enc : TypeId × Value → H} {w : World} {base : Nat} {spare : Nat → Bool} {held : Bool} {fuel : Nat} {cs : List Value} {x : DataW H × List MemPlace}
    (h : DataW.trod enc Try.prog w base spare held fuel 40 cs = some x) : ∃ o : OpV, cs = [.int .i64 o.kind, .int .i64 o.on, o.v] ∧ IsB w o.v o.l ∧ (-9223372036854775808 ≤ o.kind ∧ o.kind ≤ 9223372036854775807) ∧ (-9223372036854775808 ≤ o.on ∧ o.on ≤ 9223372036854775807) ∧ o.l.length + 1 ≤ Rows.uptoBulk x.1 := by
  obtain ⟨xs, n, _, hx, hl, hn, hg⟩ := DataW.trod_struct Try.underlying40 h
  have hl3 : cs.length = 3 := by rw [hl]; exact cellsOp
  have hn3 : xs.length = 3 := hn
  obtain ⟨c0, c1, c2, rfl⟩ : ∃ a b c, cs = [a, b, c] := by
    match cs, hl3 with
    | [a, b, c], _ => exact ⟨a, b, c, rfl⟩
  obtain ⟨x0, x1, x2, rfl⟩ : ∃ a b c, xs = [a, b, c] := by
    match xs, hn3 with
    | [a, b, c], _ => exact ⟨a, b, c, rfl⟩
  have g0 : DataW.trod enc Try.prog w base spare held n 3 [c0] = some x0 := by
    have q : DataW.trod enc Try.prog w base spare held n 3 (List.take (Try.prog.cellsOf 3) (List.drop 0 [c0, c1, c2])) = some x0 := hg 0 _ rfl
    rw [cellsInt] at q
    exact q
  have g1 : DataW.trod enc Try.prog w base spare held n 3 [c1] = some x1 := by
    have q : DataW.trod enc Try.prog w base spare held n 3 (List.take (Try.prog.cellsOf 3) (List.drop 1 [c0, c1, c2])) = some x1 := hg 1 _ rfl
    rw [cellsInt] at q
    exact q
  have g2 : DataW.trod enc Try.prog w base spare held n 22 [c2] = some x2 := by
    have q : DataW.trod enc Try.prog w base spare held n 22 (List.take (Try.prog.cellsOf 22) (List.drop 2 [c0, c1, c2])) = some x2 := hg 2 _ rfl
    rw [cells22] at q
    exact q
  obtain ⟨n0, e0, _, w0⟩ := DataW.trod_int Try.underlying3 g0
  obtain ⟨n1, e1, _, w1⟩ := DataW.trod_int Try.underlying3 g1
  obtain ⟨y, c, l, e2, h2, _, _, h4⟩ := bytes_of_trod g2
  simp only [List.cons.injEq, and_true] at e0 e1 e2
  subst e0 e1 e2
  refine ⟨⟨n0, n1, .slice y l.length c, l⟩, rfl, h2, i64_bounds w0, i64_bounds w1, ?_⟩
  have hb := bulk_dlen x2.1
  rw [hx]
  simp only [Rows.uptoBulk, Rows.uptoBulkAll, List.map_cons, List.map_nil]
  omega
theorem open_ops {H : Type} {enc : TypeId × Value → H} {w : World} {base b0 : Nat} {spare : Nat → Bool} {held : Bool} {r : Reach} {v : Value} {d : DataW H} {ps : List MemPlace}
    (hval : Value.okWide Try.prog w r b0 35 v) (hd : DataW.Trod enc Try.prog w base spare held 35 v d ps) :
    ∃ (y : Option Addr) (c : Nat) (os : List OpV), v = .slice y os.length c ∧ IsOps w (.slice y os.length c) os ∧ totO os + os.length ≤ Rows.uptoBulk d := by
  obtain ⟨a, len, cap, rfl⟩ := okWide_slice Try.underlying35 hval
  obtain ⟨fuel, hf⟩ := hd
  rcases DataW.trod_slice Try.underlying35 hf with ⟨he, _⟩ | ⟨a, len, cap, elems, rest, n, _, he, hx, _, hl, hm, hlen, hel, _, _⟩
  · simp only [Value.cells, List.cons.injEq, and_true] at he
    rw [he]
    exact ⟨none, 0, [], rfl, ⟨none, 0, rfl, fun i o h => by simp at h⟩, by simp [totO]⟩
  · simp only [Value.cells, List.cons.injEq, and_true] at he
    rw [he]
    simp only [Prod.mk.injEq] at hx
    have each : ∀ i, i < len → ∃ o : OpV, ∃ y, (∃ b p, a = ⟨b, p, none⟩ ∧ b < w.heap.size ∧ OpAt w b (p + i * 3) o) ∧ elems[i]? = some y ∧ o.l.length + 1 ≤ Rows.uptoBulk y.1 := fun i hi => by
      have h1 := hel i hi
      have h2 : i < elems.length := by omega
      rw [List.getElem?_eq_getElem h2, cellsOp, Option.bind_eq_some_iff] at h1
      obtain ⟨cs, hcs, hy⟩ := h1
      obtain ⟨o, hcs2, hB, hk, ho, hb⟩ := op_of_trod hy
      obtain ⟨c0, c1, c2, e3, k0, k1, k2⟩ := cells3 hcs
      rw [hcs2] at e3
      simp only [List.cons.injEq, and_true] at e3
      obtain ⟨rfl, rfl, rfl⟩ := e3
      obtain ⟨b, p, s⟩ := a
      have hs : s = none := by
        have h3 := hel 0 (by omega)
        rw [List.getElem?_eq_getElem (show 0 < elems.length by omega), cellsOp, Option.bind_eq_some_iff] at h3
        obtain ⟨cs', hcs', _⟩ := h3
        obtain ⟨_, _, _, _, k9, _, _⟩ := cells3 hcs'
        have := World.cell?_spot k9
        simpa [Addr.add] using this
      subst hs
      have hlt := World.block_lt_of_cell? w _ k0
      rw [addr_add, addr_add] at k0 k1 k2 hlt
      exact ⟨o, elems[i], ⟨b, p, rfl, hlt, k0, k1, k2, hB, hk, ho⟩, List.getElem?_eq_getElem h2, hb⟩
    obtain ⟨os, hos, hP⟩ := list_ops each
    refine ⟨some a, cap, os, by rw [hos], ⟨some a, cap, rfl, fun i o hi => ?_⟩, ?_⟩
    · obtain ⟨hi', rfl⟩ := List.getElem?_eq_some_iff.1 hi
      obtain ⟨y, ⟨b, p, rfl, h1, h2⟩, _, _⟩ := hP i hi'
      exact ⟨b, p, rfl, h1, h2⟩
    · have := bulk_ops (elems.map (·.1)) os (by rw [hos, List.length_map, hlen]) (fun i h1 h2 => by
        obtain ⟨y, _, h5, h6⟩ := hP i h1
        have h7 : i < elems.length := by simpa using h2
        rw [List.getElem?_eq_getElem h7] at h5
        cases h5
        rw [List.getElem_map]
        exact h6)
      rw [hx.1]
      simp only [Rows.uptoBulk]
      omega
end Go.Proofs.Ytajmlfcbppnpgaa
