import Derived.Test.YtadnfiikfhdphaaQOpen
import Derived.Test.YtadnfiikfhdphaaQDevO
import Derived.Test.YtadnfiikfhdphaaRows
import Derived.SizedLaws
import Derived.JoinedCond
namespace Go.Proofs.Ytadnfiikfhdphaa
open Go.ChangeShapes Go.WideShapes Go.ChangeAt Go.RowKit

/-! Opening a slice of truths, a slice of assaylaw05's acts; what a bound gives -/
theorem dv_i64 {x : Int} (h : (Lit.int .i64 x).wf = true) : -9223372036854775808 ≤ x ∧ x ≤ 9223372036854775807 := bounds_i64 h
theorem dv_cellsInt : Try.prog.cellsOf 3 = 1 := by kernel_rfl
theorem dv_cellsBool : Try.prog.cellsOf 4 = 1 := by kernel_rfl
theorem dv_cellsBools : Try.prog.cellsOf 44 = 1 := by kernel_rfl
theorem dv_cellsOp : Try.prog.cellsOf 46 = 5 := by kernel_rfl
set_option maxRecDepth 100000 in
theorem dv_bulk_pos {H : Type} (d : DataW H) : 1 ≤ Rows.uptoBulk d := by
  cases d with
  | lit l => cases l <;> simp [Rows.uptoBulk]
  | _ => simp [Rows.uptoBulk]
set_option maxRecDepth 100000 in
theorem dv_bulk_len {H : Type} (l : List (DataW H)) : l.length ≤ Rows.uptoBulkAll l := by
  induction l with
  | nil => simp [Rows.uptoBulkAll]
  | cons x r ih => have := dv_bulk_pos x; simp only [Rows.uptoBulkAll, List.length_cons]; omega
theorem dv_list {α : Type} {n : Nat} {P : Nat → α → Prop} (h : ∀ i, i < n → ∃ l, P i l) : ∃ ls : List α, ls.length = n ∧ ∀ i (hi : i < ls.length), P i ls[i] := by
  refine ⟨List.ofFn fun i : Fin n => Classical.choose (h i.1 i.2), by simp, fun i hi => ?_⟩
  have hn : i < n := by simpa using hi
  rw [List.getElem_ofFn]
  exact Classical.choose_spec (h i hn)
theorem dv_cells {w : World} {base : Nat} {a : Addr} {n : Nat} {cs : List Value} (h : w.cells? base a n = some cs) : cs.length = n ∧ ∀ (j : Nat) (u : Value), cs[j]? = some u → w.cell? (a.add j) = some u := by
  unfold World.cells? at h
  split at h
  · have h2 : ∀ (l : List Nat) (cs : List Value), l.mapM (fun j => w.cell? (a.add j)) = some cs → cs.length = l.length ∧ ∀ (j : Nat) (u : Value), cs[j]? = some u → ∃ i : Nat, l[j]? = some i ∧ w.cell? (a.add i) = some u := by
      intro l
      induction l with
      | nil => intro cs h; simp at h; subst h; simp
      | cons x r ih =>
        intro cs h
        simp only [List.mapM_cons, Option.bind_eq_bind, Option.pure_def, Option.bind_eq_some_iff, Option.some.injEq] at h
        obtain ⟨c0, h0, cs', h1, rfl⟩ := h
        obtain ⟨k1, k2⟩ := ih cs' h1
        refine ⟨by simp [k1], fun j u hj => ?_⟩
        cases j with
        | zero => simp at hj; subst hj; exact ⟨x, rfl, h0⟩
        | succ j => simpa using k2 j u (by simpa using hj)
    obtain ⟨k1, k2⟩ := h2 _ _ h
    refine ⟨by simpa using k1, fun j u hj => ?_⟩
    obtain ⟨i, hi, hc⟩ := k2 j u hj
    have hjl : j < n := by
      have := (List.getElem?_eq_some_iff.1 hi).1
      simpa using this
    rw [List.getElem?_range hjl] at hi
    cases hi
    exact hc
  · cases h
set_option maxRecDepth 100000 in
theorem dv_bools_of {H : Type} {enc : TypeId × Value → H} {w : World} {base : Nat} {spare : Nat → Bool} {held : Bool} {fuel : Nat} {cs : List Value} {x : DataW H × List MemPlace}
    (h : DataW.trod enc Try.prog w base spare held fuel 44 cs = some x) : ∃ (y : Option Addr) (c : Nat) (bs : List Bool), cs = [.slice y bs.length c] ∧ IsG w (.slice y bs.length c) (bs.map Value.bool) ∧ bs.length ≤ c ∧ bs.length ≤ Rows.uptoBulk x.1 := by
  rcases DataW.trod_slice Try.underlying44 h with ⟨he, _⟩ | ⟨a, len, cap, elems, rest, n, _, he, hx, _, hl, hm, hlen, hel, _, _⟩
  · exact ⟨none, 0, [], he, .inl ⟨rfl, rfl⟩, Nat.le_refl _, Nat.zero_le _⟩
  · have each : ∀ i, i < len → ∃ b : Bool, w.cell? (a.add i) = some (.bool b) := fun i hi => by
      have h1 := hel i hi
      have h2 : i < elems.length := by omega
      rw [List.getElem?_eq_getElem h2, dv_cellsBool, Option.bind_eq_some_iff] at h1
      obtain ⟨cs', hcs, hy⟩ := h1
      obtain ⟨b, hb, _⟩ := DataW.trod_bool Try.underlying4 hy
      subst hb
      have := (dv_cells hcs).2 0 (.bool b) rfl
      rw [Nat.mul_one] at this
      exact ⟨b, by simpa [Addr.add] using this⟩
    obtain ⟨bs, hbs, hP⟩ := dv_list each
    refine ⟨some a, cap, bs, by rw [he, hbs], .inr ⟨a, cap, by simp, fun i hi => ?_⟩, by omega, ?_⟩
    · have hi' : i < bs.length := by simpa using hi
      rw [List.getElem_map]
      exact hP i hi'
    · rw [hx]
      have := dv_bulk_len (elems.map (·.1))
      simp only [Rows.uptoBulk, List.length_map] at this ⊢
      omega
set_option maxRecDepth 100000 in
theorem open_bools {H : Type} {enc : TypeId × Value → H} {w : World} {base b0 : Nat} {spare : Nat → Bool} {held : Bool} {r : Reach} {v : Value} {d : DataW H} {ps : List MemPlace}
    (hval : Value.okWide Try.prog w r b0 44 v) (hd : DataW.Trod enc Try.prog w base spare held 44 v d ps) :
    ∃ (y : Option Addr) (c : Nat) (bs : List Bool), v = .slice y bs.length c ∧ IsG w (.slice y bs.length c) (bs.map Value.bool) ∧ bs.length ≤ c ∧ bs.length ≤ Rows.uptoBulk d := by
  obtain ⟨a, len, cap, rfl⟩ := okWide_slice Try.underlying44 hval
  obtain ⟨fuel, hf⟩ := hd
  obtain ⟨y, c, bs, he, h1, h2, h3⟩ := dv_bools_of hf
  simp only [Value.cells, List.cons.injEq, and_true] at he
  exact ⟨y, c, bs, he, h1, h2, h3⟩
/-- An act, whole: with the truths of its restart. -/
structure OpF where
  kind : Int
  on : Int
  at_ : Int
  v : UInt8
  y : Option Addr
  c : Nat
  bs : List Bool
def OpFAt (w : World) (b p : Nat) (o : OpF) : Prop :=
  w.cell? ⟨b, p, none⟩ = some (.int .i64 o.kind) ∧ w.cell? ⟨b, p + 1, none⟩ = some (.int .i64 o.on) ∧ w.cell? ⟨b, p + 2, none⟩ = some (.int .i64 o.at_) ∧ w.cell? ⟨b, p + 3, none⟩ = some (.int .u8 (o.v.toNat : Int)) ∧ w.cell? ⟨b, p + 4, none⟩ = some (.slice o.y o.bs.length o.c) ∧
  IsG w (.slice o.y o.bs.length o.c) (o.bs.map Value.bool) ∧ o.bs.length ≤ o.c ∧
  (-9223372036854775808 ≤ o.kind ∧ o.kind ≤ 9223372036854775807) ∧ (-9223372036854775808 ≤ o.on ∧ o.on ≤ 9223372036854775807) ∧ (-9223372036854775808 ≤ o.at_ ∧ o.at_ ≤ 9223372036854775807)
def IsOpFs (w : World) (v : Value) (os : List OpF) : Prop := ∃ x c, v = .slice x os.length c ∧ ∀ (i : Nat) o, os[i]? = some o → ∃ b p, x = some ⟨b, p, none⟩ ∧ b < w.heap.size ∧ OpFAt w b (p + i * 5) o
set_option maxRecDepth 100000 in
theorem opF_of_trod {H : Type} {enc : TypeId × Value → H} {w : World} {base : Nat} {spare : Nat → Bool} {held : Bool} {fuel : Nat} {cs : List Value} {x : DataW H × List MemPlace}
    (h : DataW.trod enc Try.prog w base spare held fuel 46 cs = some x) : ∃ o : OpF, cs = [.int .i64 o.kind, .int .i64 o.on, .int .i64 o.at_, .int .u8 (o.v.toNat : Int), .slice o.y o.bs.length o.c] ∧ IsG w (.slice o.y o.bs.length o.c) (o.bs.map Value.bool) ∧ o.bs.length ≤ o.c ∧ (-9223372036854775808 ≤ o.kind ∧ o.kind ≤ 9223372036854775807) ∧ (-9223372036854775808 ≤ o.on ∧ o.on ≤ 9223372036854775807) ∧ (-9223372036854775808 ≤ o.at_ ∧ o.at_ ≤ 9223372036854775807) ∧ o.bs.length + 1 ≤ Rows.uptoBulk x.1 := by
  obtain ⟨xs, n, _, hx, hl, hn, hg⟩ := DataW.trod_struct Try.underlying46 h
  have hl5 : cs.length = 5 := by rw [hl]; exact dv_cellsOp
  have hn5 : xs.length = 5 := hn
  obtain ⟨c0, c1, c2, c3, c4, rfl⟩ : ∃ a b c d e, cs = [a, b, c, d, e] := by
    match cs, hl5 with
    | [a, b, c, d, e], _ => exact ⟨a, b, c, d, e, rfl⟩
  obtain ⟨x0, x1, x2, x3, x4, rfl⟩ : ∃ a b c d e, xs = [a, b, c, d, e] := by
    match xs, hn5 with
    | [a, b, c, d, e], _ => exact ⟨a, b, c, d, e, rfl⟩
  have g0 : DataW.trod enc Try.prog w base spare held n 3 [c0] = some x0 := by
    have q : DataW.trod enc Try.prog w base spare held n 3 (List.take (Try.prog.cellsOf 3) (List.drop 0 [c0, c1, c2, c3, c4])) = some x0 := hg 0 _ rfl
    rw [dv_cellsInt] at q
    exact q
  have g1 : DataW.trod enc Try.prog w base spare held n 3 [c1] = some x1 := by
    have q : DataW.trod enc Try.prog w base spare held n 3 (List.take (Try.prog.cellsOf 3) (List.drop 1 [c0, c1, c2, c3, c4])) = some x1 := hg 1 _ rfl
    rw [dv_cellsInt] at q
    exact q
  have g2 : DataW.trod enc Try.prog w base spare held n 3 [c2] = some x2 := by
    have q : DataW.trod enc Try.prog w base spare held n 3 (List.take (Try.prog.cellsOf 3) (List.drop 2 [c0, c1, c2, c3, c4])) = some x2 := hg 2 _ rfl
    rw [dv_cellsInt] at q
    exact q
  have g3 : DataW.trod enc Try.prog w base spare held n 5 [c3] = some x3 := by
    have q : DataW.trod enc Try.prog w base spare held n 5 (List.take (Try.prog.cellsOf 5) (List.drop 3 [c0, c1, c2, c3, c4])) = some x3 := hg 3 _ rfl
    rw [cells5] at q
    exact q
  have g4 : DataW.trod enc Try.prog w base spare held n 44 [c4] = some x4 := by
    have q : DataW.trod enc Try.prog w base spare held n 44 (List.take (Try.prog.cellsOf 44) (List.drop 4 [c0, c1, c2, c3, c4])) = some x4 := hg 4 _ rfl
    rw [dv_cellsBools] at q
    exact q
  obtain ⟨n0, e0, _, w0⟩ := DataW.trod_int Try.underlying3 g0
  obtain ⟨n1, e1, _, w1⟩ := DataW.trod_int Try.underlying3 g1
  obtain ⟨n2, e2, _, w2⟩ := DataW.trod_int Try.underlying3 g2
  obtain ⟨n3, e3, _, w3⟩ := DataW.trod_int Try.underlying5 g3
  obtain ⟨y, c, bs, e4, h4, h5, h6⟩ := dv_bools_of g4
  have b3 := u8_bounds w3
  obtain ⟨u, rfl⟩ : ∃ u : UInt8, n3 = (u.toNat : Int) := ⟨UInt8.ofNat n3.toNat, by rw [UInt8.toNat_ofNat']; omega⟩
  simp only [List.cons.injEq, and_true] at e0 e1 e2 e3 e4
  subst e0 e1 e2 e3 e4
  refine ⟨⟨n0, n1, n2, u, y, c, bs⟩, rfl, h4, h5, dv_i64 w0, dv_i64 w1, dv_i64 w2, ?_⟩
  rw [hx]
  simp only [Rows.uptoBulk, Rows.uptoBulkAll, List.map_cons, List.map_nil]
  omega
def totF : List OpF → Nat
  | [] => 0
  | o :: r => o.bs.length + totF r
set_option maxRecDepth 100000 in
theorem bulk_opFs {H : Type} : ∀ (ds : List (DataW H)) (os : List OpF), os.length = ds.length → (∀ i (h : i < os.length) (h' : i < ds.length), (os[i]).bs.length + 1 ≤ Rows.uptoBulk ds[i]) → totF os + os.length ≤ Rows.uptoBulkAll ds
  | [], [], _, _ => by simp [Rows.uptoBulkAll, totF]
  | [], _ :: _, h, _ => by simp at h
  | _ :: _, [], h, _ => by simp at h
  | d :: ds, o :: os, h, hi => by
    have h1 := bulk_opFs ds os (by simpa using h) (fun i a b => by
      have := hi (i + 1) (by simpa using a) (by simpa using b)
      simpa using this)
    have h3 : o.bs.length + 1 ≤ Rows.uptoBulk d := hi 0 (by simp) (by simp)
    simp only [Rows.uptoBulkAll, totF, List.length_cons]
    omega
set_option maxRecDepth 100000 in
theorem open_opFs {H : Type} {enc : TypeId × Value → H} {w : World} {base b0 : Nat} {spare : Nat → Bool} {held : Bool} {r : Reach} {v : Value} {d : DataW H} {ps : List MemPlace}
    (hval : Value.okWide Try.prog w r b0 23 v) (hd : DataW.Trod enc Try.prog w base spare held 23 v d ps) :
    ∃ (y : Option Addr) (c : Nat) (os : List OpF), v = .slice y os.length c ∧ IsOpFs w (.slice y os.length c) os ∧ totF os + os.length ≤ Rows.uptoBulk d := by
  obtain ⟨a, len, cap, rfl⟩ := okWide_slice Try.underlying23 hval
  obtain ⟨fuel, hf⟩ := hd
  rcases DataW.trod_slice Try.underlying23 hf with ⟨he, _⟩ | ⟨a, len, cap, elems, rest, n, _, he, hx, _, hl, hm, hlen, hel, _, _⟩
  · simp only [Value.cells, List.cons.injEq, and_true] at he
    rw [he]
    exact ⟨none, 0, [], rfl, ⟨none, 0, rfl, fun i o h => by simp at h⟩, by simp [totF]⟩
  · simp only [Value.cells, List.cons.injEq, and_true] at he
    rw [he]
    simp only [Prod.mk.injEq] at hx
    have each : ∀ i, i < len → ∃ o : OpF, ∃ y, (∃ b p, a = ⟨b, p, none⟩ ∧ b < w.heap.size ∧ OpFAt w b (p + i * 5) o) ∧ elems[i]? = some y ∧ o.bs.length + 1 ≤ Rows.uptoBulk y.1 := fun i hi => by
      have h1 := hel i hi
      have h2 : i < elems.length := by omega
      rw [List.getElem?_eq_getElem h2, dv_cellsOp, Option.bind_eq_some_iff] at h1
      obtain ⟨cs, hcs, hy⟩ := h1
      obtain ⟨o, hcs2, hB, hle, hk, ho, ha, hb⟩ := opF_of_trod hy
      have hk' := (dv_cells hcs).2
      rw [hcs2] at hk'
      have k0 := hk' 0 _ rfl
      have k1 := hk' 1 _ rfl
      have k2 := hk' 2 _ rfl
      have k3 := hk' 3 _ rfl
      have k4 := hk' 4 _ rfl
      obtain ⟨b, p, s⟩ := a
      have hs : s = none := by
        have h3 := hel 0 (by omega)
        rw [List.getElem?_eq_getElem (show 0 < elems.length by omega), dv_cellsOp, Option.bind_eq_some_iff] at h3
        obtain ⟨cs', hcs', hy'⟩ := h3
        obtain ⟨o', hcs3, -⟩ := opF_of_trod hy'
        rw [hcs3] at hcs'
        have k9 := (dv_cells hcs').2 0 _ rfl
        have := World.cell?_spot k9
        simpa [Addr.add] using this
      subst hs
      have hlt := World.block_lt_of_cell? w _ k0
      rw [addr_add, addr_add] at k0 k1 k2 k3 k4 hlt
      exact ⟨o, elems[i], ⟨b, p, rfl, hlt, k0, k1, k2, k3, k4, hB, hle, hk, ho, ha⟩, List.getElem?_eq_getElem h2, hb⟩
    obtain ⟨os, hos, hP⟩ := dv_list each
    refine ⟨some a, cap, os, by rw [hos], ⟨some a, cap, rfl, fun i o hi => ?_⟩, ?_⟩
    · obtain ⟨hi', rfl⟩ := List.getElem?_eq_some_iff.1 hi
      obtain ⟨y, ⟨b, p, rfl, h1, h2⟩, _, _⟩ := hP i hi'
      exact ⟨b, p, rfl, h1, h2⟩
    · have := bulk_opFs (elems.map (·.1)) os (by rw [hos, List.length_map, hlen]) (fun i h1 h2 => by
        obtain ⟨y, _, h5, h6⟩ := hP i h1
        have h7 : i < elems.length := by simpa using h2
        rw [List.getElem?_eq_getElem h7] at h5
        cases h5
        rw [List.getElem_map]
        exact h6)
      rw [hx.1]
      simp only [Rows.uptoBulk]
      omega
theorem IsOpFs.plain {w : World} {v : Value} {os : List OpF} (h : IsOpFs w v os) : IsDOps w v (os.map fun o => ⟨o.kind, o.at_, o.v⟩) := by
  obtain ⟨x, c, rfl, hc⟩ := h
  refine ⟨x, c, by simp, fun i o ho => ?_⟩
  rw [List.getElem?_map, Option.map_eq_some_iff] at ho
  obtain ⟨o', ho', rfl⟩ := ho
  obtain ⟨b, p, rfl, hlt, k0, k1, k2, k3, k4, -, -, r1, r2, r3⟩ := hc i o' ho'
  exact ⟨b, p, rfl, hlt, k0, k2, k3, r1, r3⟩
end Go.Proofs.Ytadnfiikfhdphaa
