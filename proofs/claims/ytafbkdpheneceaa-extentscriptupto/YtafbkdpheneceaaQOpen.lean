import Derived.Test.YtafbkdpheneceaaQNum
import Derived.ProofKit
import Derived.OpenShut
import Derived.ChangeOld
import Derived.Below
import Derived.Test.YtafbkdpheneceaaQKel
import Derived.Test.YtafbkdpheneceaaRows
import Derived.SizedLaws
import Derived.JoinedCond
import Derived.Test.YtafbkdpheneceaaQExtC
namespace Go.Proofs.Ytafbkdpheneceaa
open Go.ChangeShapes Go.WideShapes Go.ChangeAt Go.RowKit

/-! Opening a law's arguments. -/
theorem own : ownKnob Try.prog.godebug = none := by kernel_rfl
theorem laidOut : laidOutB Try.prog = true := by kernel_rfl
theorem cells5 : Try.prog.cellsOf 5 = 1 := by kernel_rfl
theorem u8_bounds {x : Int} (h : (Lit.int .u8 x).wf = true) : 0 ≤ x ∧ x ≤ 255 := bounds_u8 h
end Go.Proofs.Ytafbkdpheneceaa
namespace Go.Proofs.Ytafbkdpheneceaa
open Go.ChangeShapes Go.WideShapes Go.ChangeAt Go.RowKit

/-! Opening slices of plain structs: any element whose cells are read -/
def bdlen {H : Type} : DataW H → Nat
  | .slice el sp => el.length + sp.length
  | _ => 0
theorem ob_list {α : Type} {n : Nat} {P : Nat → α → Prop} (h : ∀ i, i < n → ∃ l, P i l) : ∃ ls : List α, ls.length = n ∧ ∀ i (hi : i < ls.length), P i ls[i] := by
  refine ⟨List.ofFn fun i : Fin n => Classical.choose (h i.1 i.2), by simp, fun i hi => ?_⟩
  have hn : i < n := by simpa using hi
  rw [List.getElem_ofFn]
  exact Classical.choose_spec (h i hn)
theorem ob_cells {w : World} {base : Nat} {a : Addr} {n : Nat} {cs : List Value} (h : w.cells? base a n = some cs) : cs.length = n ∧ ∀ (j : Nat) (u : Value), cs[j]? = some u → w.cell? (a.add j) = some u := by
  unfold World.cells? at h
  split at h
  · have h2 : ∀ (l : List Nat) (cs : List Value), l.mapM (fun j => w.cell? (a.add j)) = some cs → cs.length = l.length ∧ ∀ (j : Nat) (u : Value), cs[j]? = some u → ∃ i : Nat, l[j]? = some i ∧ w.cell? (a.add i) = some u := by
      intro l
      induction l with
      | nil => intro cs h; simp at h; subst h; simp
      | cons x r ih =>
        intro cs h
        simp only [List.mapM_cons, Option.bind_eq_bind, Option.pure_def, Option.bind_eq_some_iff, Option.some.injEq] at h
        obtain ⟨c0, h0, cs', h1, rfl⟩ := h
        obtain ⟨k1, k2⟩ := ih cs' h1
        refine ⟨by simp [k1], fun j u hj => ?_⟩
        cases j with
        | zero => simp at hj; subst hj; exact ⟨x, rfl, h0⟩
        | succ j => simpa using k2 j u (by simpa using hj)
    obtain ⟨k1, k2⟩ := h2 _ _ h
    refine ⟨by simpa using k1, fun j u hj => ?_⟩
    obtain ⟨i, hi, hc⟩ := k2 j u hj
    have hjl : j < n := by
      have := (List.getElem?_eq_some_iff.1 hi).1
      simpa using this
    rw [List.getElem?_range hjl] at hi
    cases hi
    exact hc
  · cases h
theorem open_KP {α : Type} {E : EK α} (O : E.Ok) (hcells : Try.prog.cellsOf E.T = E.k) {H : Type} {enc : TypeId × Value → H} {w : World} {base b0 : Nat} {spare : Nat → Bool} {held : Bool}
    {P : α → Prop} (each : ∀ (fuel : Nat) (cs : List Value) (x : DataW H × List MemPlace), DataW.trod enc Try.prog w base spare held fuel E.T cs = some x → ∃ a : α, cs = E.enc a ∧ P a)
    {r : Reach} {v : Value} {d : DataW H} {ps : List MemPlace}
    (hval : Value.okWide Try.prog w r b0 E.S v) (hd : DataW.Trod enc Try.prog w base spare held E.S v d ps) :
    ∃ (y : Option Addr) (c : Nat) (ds : List α), v = .slice y ds.length c ∧ IsK E w (.slice y ds.length c) ds ∧ ds.length ≤ bdlen d ∧ ∀ a ∈ ds, P a := by
  obtain ⟨a, len, cap, rfl⟩ := okWide_slice O.und hval
  obtain ⟨fuel, hf⟩ := hd
  rcases DataW.trod_slice O.und hf with ⟨he, _⟩ | ⟨a, len, cap, elems, rest, n, _, he, hx, _, hl, hm, hlen, hel, _, _⟩
  · simp only [Value.cells, List.cons.injEq, and_true] at he
    rw [he]
    exact ⟨none, 0, [], rfl, ⟨none, 0, rfl, Nat.le_refl _, fun i o h => by simp at h⟩, Nat.zero_le _, fun a h => by simp at h⟩
  · simp only [Value.cells, List.cons.injEq, and_true] at he
    rw [he]
    simp only [Prod.mk.injEq] at hx
    have every : ∀ i, i < len → ∃ q : α, ∃ b o, a = ⟨b, o, none⟩ ∧ b < w.heap.size ∧ w.rangeAt b (o + i * E.k) (E.enc q) ∧ P q := fun i hi => by
      have h1 := hel i hi
      have h2 : i < elems.length := by omega
      rw [List.getElem?_eq_getElem h2, hcells, Option.bind_eq_some_iff] at h1
      obtain ⟨cs, hcs, hy⟩ := h1
      obtain ⟨q, rfl, hPq⟩ := each _ _ _ hy
      have hk := (ob_cells hcs).2
      have hpos : 0 < (E.enc q).length := by rw [O.len]; exact O.kp
      have k0 := hk 0 _ (List.getElem?_eq_getElem hpos)
      obtain ⟨b, p, s⟩ := a
      have hs : s = none := by
        have h3 := hel 0 (by omega)
        rw [List.getElem?_eq_getElem (show 0 < elems.length by omega), hcells, Option.bind_eq_some_iff] at h3
        obtain ⟨cs', hcs', hy'⟩ := h3
        obtain ⟨q', rfl, -⟩ := each _ _ _ hy'
        have k9 := (ob_cells hcs').2 0 _ (List.getElem?_eq_getElem (show 0 < (E.enc q').length by rw [O.len]; exact O.kp))
        have := World.cell?_spot k9
        simpa [Addr.add] using this
      subst hs
      have hlt := World.block_lt_of_cell? w _ k0
      rw [addr_add, addr_add] at hlt
      refine ⟨q, b, p, rfl, hlt, fun j u hu => ?_, hPq⟩
      have k1 := hk j u hu
      rw [addr_add, addr_add] at k1
      exact k1
    obtain ⟨os, hos, hP⟩ := ob_list every
    refine ⟨some a, cap, os, by rw [hos], ⟨some a, cap, rfl, by omega, fun i o hi => ?_⟩, ?_, ?_⟩
    · obtain ⟨hi', rfl⟩ := List.getElem?_eq_some_iff.1 hi
      obtain ⟨b, p, rfl, h1, h2, -⟩ := hP i hi'
      exact ⟨b, p, rfl, h1, h2⟩
    · rw [hx.1]
      simp only [bdlen, List.length_map]
      omega
    · intro q hq
      obtain ⟨i, hi⟩ := List.mem_iff_getElem?.1 hq
      obtain ⟨hi', rfl⟩ := List.getElem?_eq_some_iff.1 hi
      obtain ⟨b, p, -, -, -, h3⟩ := hP i hi'
      exact h3
theorem open_K {α : Type} {E : EK α} (O : E.Ok) (hcells : Try.prog.cellsOf E.T = E.k) {H : Type} {enc : TypeId × Value → H} {w : World} {base b0 : Nat} {spare : Nat → Bool} {held : Bool}
    (each : ∀ (fuel : Nat) (cs : List Value) (x : DataW H × List MemPlace), DataW.trod enc Try.prog w base spare held fuel E.T cs = some x → ∃ a : α, cs = E.enc a)
    {r : Reach} {v : Value} {d : DataW H} {ps : List MemPlace}
    (hval : Value.okWide Try.prog w r b0 E.S v) (hd : DataW.Trod enc Try.prog w base spare held E.S v d ps) :
    ∃ (y : Option Addr) (c : Nat) (ds : List α), v = .slice y ds.length c ∧ IsK E w (.slice y ds.length c) ds ∧ ds.length ≤ bdlen d := by
  obtain ⟨y, c, ds, h1, h2, h3, -⟩ := open_KP (P := fun _ => True) O hcells (fun f cs x h => by obtain ⟨a, ha⟩ := each f cs x h; exact ⟨a, ha, trivial⟩) hval hd
  exact ⟨y, c, ds, h1, h2, h3⟩
end Go.Proofs.Ytafbkdpheneceaa
namespace Go.Proofs.Ytafbkdpheneceaa
open Go.ChangeShapes Go.WideShapes Go.ChangeAt Go.RowKit

/-! Opening []assaylaw08.Op, []int -/
theorem ox_cellsInt : Try.prog.cellsOf 3 = 1 := by kernel_rfl
theorem ox_cellsOp : Try.prog.cellsOf 29 = 4 := by kernel_rfl
theorem ox_bytesInt : Try.prog.bytesOf 3 = 8 := by kernel_rfl
theorem ox_bytesOp : Try.prog.bytesOf 29 = 32 := by kernel_rfl
theorem op8_of_trod {H : Type} {enc : TypeId × Value → H} {w : World} {base : Nat} {spare : Nat → Bool} {held : Bool} (fuel : Nat) (cs : List Value) (x : DataW H × List MemPlace)
    (h : DataW.trod enc Try.prog w base spare held fuel opE8.T cs = some x) : ∃ p : Op8, cs = opE8.enc p ∧ p.Ok := by
  have h' : DataW.trod enc Try.prog w base spare held fuel 29 cs = some x := h
  obtain ⟨xs, n, _, hx, hl, hn, hg⟩ := DataW.trod_struct Try.underlying29 h'
  have hl4 : cs.length = 4 := by rw [hl]; exact ox_cellsOp
  have hn4 : xs.length = 4 := hn
  obtain ⟨c0, c1, c2, c3, rfl⟩ : ∃ a b c d, cs = [a, b, c, d] := by
    match cs, hl4 with
    | [a, b, c, d], _ => exact ⟨a, b, c, d, rfl⟩
  obtain ⟨x0, x1, x2, x3, rfl⟩ : ∃ a b c d, xs = [a, b, c, d] := by
    match xs, hn4 with
    | [a, b, c, d], _ => exact ⟨a, b, c, d, rfl⟩
  have g0 : DataW.trod enc Try.prog w base spare held n 3 [c0] = some x0 := by
    have q : DataW.trod enc Try.prog w base spare held n 3 (List.take (Try.prog.cellsOf 3) (List.drop 0 [c0, c1, c2, c3])) = some x0 := hg 0 _ rfl
    rw [ox_cellsInt] at q
    exact q
  have g1 : DataW.trod enc Try.prog w base spare held n 3 [c1] = some x1 := by
    have q : DataW.trod enc Try.prog w base spare held n 3 (List.take (Try.prog.cellsOf 3) (List.drop 1 [c0, c1, c2, c3])) = some x1 := hg 1 _ rfl
    rw [ox_cellsInt] at q
    exact q
  have g2 : DataW.trod enc Try.prog w base spare held n 3 [c2] = some x2 := by
    have q : DataW.trod enc Try.prog w base spare held n 3 (List.take (Try.prog.cellsOf 3) (List.drop 2 [c0, c1, c2, c3])) = some x2 := hg 2 _ rfl
    rw [ox_cellsInt] at q
    exact q
  have g3 : DataW.trod enc Try.prog w base spare held n 3 [c3] = some x3 := by
    have q : DataW.trod enc Try.prog w base spare held n 3 (List.take (Try.prog.cellsOf 3) (List.drop 3 [c0, c1, c2, c3])) = some x3 := hg 3 _ rfl
    rw [ox_cellsInt] at q
    exact q
  obtain ⟨n0, e0, _, w0⟩ := DataW.trod_int Try.underlying3 g0
  obtain ⟨n1, e1, _, w1⟩ := DataW.trod_int Try.underlying3 g1
  obtain ⟨n2, e2, _, w2⟩ := DataW.trod_int Try.underlying3 g2
  obtain ⟨n3, e3, _, w3⟩ := DataW.trod_int Try.underlying3 g3
  have b0 := bounds_i64 w0
  have b1 := bounds_i64 w1
  have b2 := bounds_i64 w2
  have b3 := bounds_i64 w3
  simp only [List.cons.injEq, and_true] at e0 e1 e2 e3
  subst e0 e1 e2 e3
  exact ⟨⟨n0, n1, n2, n3⟩, by rw [opE8_enc]; rfl, b0, b1, b2, b3⟩
theorem open_zs {H : Type} {enc : TypeId × Value → H} {w : World} {base b0 : Nat} {spare : Nat → Bool} {held : Bool} {r : Reach} {v : Value} {d : DataW H} {ps : List MemPlace}
    (hval : Value.okWide Try.prog w r b0 39 v) (hd : DataW.Trod enc Try.prog w base spare held 39 v d ps) :
    ∃ (y : Option Addr) (c : Nat) (bs : List Int), v = .slice y bs.length c ∧ IsG w (.slice y bs.length c) (zV bs) ∧ bs.length ≤ bdlen d ∧ ∀ a ∈ bs, i64 a := by
  obtain ⟨a, len, cap, rfl⟩ := okWide_slice Try.underlying39 hval
  obtain ⟨fuel, hf⟩ := hd
  rcases DataW.trod_slice Try.underlying39 hf with ⟨he, _⟩ | ⟨a, len, cap, elems, rest, n, _, he, hx, _, hl, hm, hlen, hel, _, _⟩
  · simp only [Value.cells, List.cons.injEq, and_true] at he
    rw [he]
    exact ⟨none, 0, [], rfl, .inl ⟨rfl, rfl⟩, Nat.zero_le _, fun a h => by simp at h⟩
  · simp only [Value.cells, List.cons.injEq, and_true] at he
    rw [he]
    simp only [Prod.mk.injEq] at hx
    have each : ∀ i, i < len → ∃ b : Int, w.cell? (a.add i) = some (.int .i64 b) ∧ i64 b := fun i hi => by
      have h1 := hel i hi
      have h2 : i < elems.length := by omega
      rw [List.getElem?_eq_getElem h2, ox_cellsInt, Option.bind_eq_some_iff] at h1
      obtain ⟨cs', hcs, hy⟩ := h1
      obtain ⟨b, hb, _, wb⟩ := DataW.trod_int Try.underlying3 hy
      subst hb
      have := (ob_cells hcs).2 0 (.int .i64 b) rfl
      rw [Nat.mul_one] at this
      exact ⟨b, by simpa [Addr.add] using this, bounds_i64 wb⟩
    obtain ⟨bs, hbs, hP⟩ := ob_list each
    refine ⟨some a, cap, bs, by rw [hbs], .inr ⟨a, cap, by simp [zV], fun i hi => ?_⟩, ?_, ?_⟩
    · have hi' : i < bs.length := by simpa [zV] using hi
      simp only [zV, List.getElem_map]
      exact (hP i hi').1
    · rw [hx.1]
      simp only [bdlen, List.length_map]
      omega
    · intro q hq
      obtain ⟨i, hi⟩ := List.mem_iff_getElem?.1 hq
      obtain ⟨hi', rfl⟩ := List.getElem?_eq_some_iff.1 hi
      exact (hP i hi').2
theorem zs_sized {H : Type} {ds : List (DataW H)} {ts : List TypeId} {d : DataW H} {j : Nat} (h : (DataW.weightsEach Try.prog ts ds).all (fun x => decide (x ≤ reachBytes)) = true) (ht : ts[j]? = some 39) (hd : ds[j]? = some d) :
    bdlen d ≤ 140737488351232 := by
  cases d with
  | slice el sp =>
    have := List.all_eq_true.1 h _ (DataW.weights_mem_each ht hd ((el.length + sp.length) * Try.prog.bytesOf 3) (by
      simp only [DataW.weights, Try.underlying39]
      simp))
    have h2 := of_decide_eq_true this
    rw [ox_bytesInt] at h2
    simp only [reachBytes] at h2
    simp only [bdlen]
    omega
  | _ => simp [bdlen]
theorem ops8_sized {H : Type} {ds : List (DataW H)} {ts : List TypeId} {d : DataW H} {j : Nat} (h : (DataW.weightsEach Try.prog ts ds).all (fun x => decide (x ≤ reachBytes)) = true) (ht : ts[j]? = some 22) (hd : ds[j]? = some d) :
    bdlen d ≤ 140737488351232 := by
  cases d with
  | slice el sp =>
    have := List.all_eq_true.1 h _ (DataW.weights_mem_each ht hd ((el.length + sp.length) * Try.prog.bytesOf 29) (by
      simp only [DataW.weights, Try.underlying22]
      simp))
    have h2 := of_decide_eq_true this
    rw [ox_bytesOp] at h2
    simp only [reachBytes] at h2
    simp only [bdlen]
    omega
  | _ => simp [bdlen]
end Go.Proofs.Ytafbkdpheneceaa
namespace Go.Proofs.Ytafbkdpheneceaa
open Go.ChangeShapes Go.WideShapes Go.ChangeAt Go.RowKit

/-! What Upto's bound gives of a slice's length -/
theorem bk_pos {H : Type} (d : DataW H) : 1 ≤ Rows.uptoBulk d := by
  cases d with
  | lit l => cases l <;> simp [Rows.uptoBulk]
  | _ => simp [Rows.uptoBulk]
theorem bk_len {H : Type} (l : List (DataW H)) : l.length ≤ Rows.uptoBulkAll l := by
  induction l with
  | nil => simp [Rows.uptoBulkAll]
  | cons x r ih => have := bk_pos x; simp only [Rows.uptoBulkAll, List.length_cons]; omega
theorem bd_bulk {H : Type} (d : DataW H) : bdlen d ≤ Rows.uptoBulk d := by
  cases d with
  | slice el sp =>
    have h1 := bk_len el
    have h2 := bk_len sp
    simp only [bdlen, Rows.uptoBulk]
    omega
  | _ => simp [bdlen]
end Go.Proofs.Ytafbkdpheneceaa
