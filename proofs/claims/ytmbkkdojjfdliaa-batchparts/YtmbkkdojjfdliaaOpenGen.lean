
import Derived.Test.YtmbkkdojjfdliaaOpen
import Derived.Test.YtmbkkdojjfdliaaKel
import Derived.Test.YtmbkkdojjfdliaaRows
import Derived.SizedLaws
import Derived.JoinedCond
namespace Go.Proofs.Ytmbkkdojjfdliaa
open Go.ChangeShapes Go.WideShapes Go.ChangeAt Go.RowKit

/-! Opening slices of plain structs: any element whose cells are read -/
def bdlen {H : Type} : DataW H → Nat
  | .slice el sp => el.length + sp.length
  | _ => 0
theorem ob_list {α : Type} {n : Nat} {P : Nat → α → Prop} (h : ∀ i, i < n → ∃ l, P i l) : ∃ ls : List α, ls.length = n ∧ ∀ i (hi : i < ls.length), P i ls[i] := by
  refine ⟨List.ofFn fun i : Fin n => Classical.choose (h i.1 i.2), by simp, fun i hi => ?_⟩
  have hn : i < n := by simpa using hi
  rw [List.getElem_ofFn]
  exact Classical.choose_spec (h i hn)
theorem ob_cells {w : World} {base : Nat} {a : Addr} {n : Nat} {cs : List Value} (h : w.cells? base a n = some cs) : cs.length = n ∧ ∀ (j : Nat) (u : Value), cs[j]? = some u → w.cell? (a.add j) = some u := by
  unfold World.cells? at h
  split at h
  · have h2 : ∀ (l : List Nat) (cs : List Value), l.mapM (fun j => w.cell? (a.add j)) = some cs → cs.length = l.length ∧ ∀ (j : Nat) (u : Value), cs[j]? = some u → ∃ i : Nat, l[j]? = some i ∧ w.cell? (a.add i) = some u := by
      intro l
      induction l with
      | nil => intro cs h; simp at h; subst h; simp
      | cons x r ih =>
        intro cs h
        simp only [List.mapM_cons, Option.bind_eq_bind, Option.pure_def, Option.bind_eq_some_iff, Option.some.injEq] at h
        obtain ⟨c0, h0, cs', h1, rfl⟩ := h
        obtain ⟨k1, k2⟩ := ih cs' h1
        refine ⟨by simp [k1], fun j u hj => ?_⟩
        cases j with
        | zero => simp at hj; subst hj; exact ⟨x, rfl, h0⟩
        | succ j => simpa using k2 j u (by simpa using hj)
    obtain ⟨k1, k2⟩ := h2 _ _ h
    refine ⟨by simpa using k1, fun j u hj => ?_⟩
    obtain ⟨i, hi, hc⟩ := k2 j u hj
    have hjl : j < n := by
      have := (List.getElem?_eq_some_iff.1 hi).1
      simpa using this
    rw [List.getElem?_range hjl] at hi
    cases hi
    exact hc
  · cases h
set_option maxRecDepth 100000 in
theorem open_KP {α : Type} {E : EK α} (O : E.Ok) (hcells : Try.prog.cellsOf E.T = E.k) {H : Type} {enc : TypeId × Value → H} {w : World} {base b0 : Nat} {spare : Nat → Bool} {held : Bool}
    {P : α → Prop} (each : ∀ (fuel : Nat) (cs : List Value) (x : DataW H × List MemPlace), DataW.trod enc Try.prog w base spare held fuel E.T cs = some x → ∃ a : α, cs = E.enc a ∧ P a)
    {r : Reach} {v : Value} {d : DataW H} {ps : List MemPlace}
    (hval : Value.okWide Try.prog w r b0 E.S v) (hd : DataW.Trod enc Try.prog w base spare held E.S v d ps) :
    ∃ (y : Option Addr) (c : Nat) (ds : List α), v = .slice y ds.length c ∧ IsK E w (.slice y ds.length c) ds ∧ ds.length ≤ bdlen d ∧ ∀ a ∈ ds, P a := by
  obtain ⟨a, len, cap, rfl⟩ := okWide_slice O.und hval
  obtain ⟨fuel, hf⟩ := hd
  rcases DataW.trod_slice O.und hf with ⟨he, _⟩ | ⟨a, len, cap, elems, rest, n, _, he, hx, _, hl, hm, hlen, hel, _, _⟩
  · simp only [Value.cells, List.cons.injEq, and_true] at he
    rw [he]
    exact ⟨none, 0, [], rfl, ⟨none, 0, rfl, Nat.le_refl _, fun i o h => by simp at h⟩, Nat.zero_le _, fun a h => by simp at h⟩
  · simp only [Value.cells, List.cons.injEq, and_true] at he
    rw [he]
    simp only [Prod.mk.injEq] at hx
    have every : ∀ i, i < len → ∃ q : α, ∃ b o, a = ⟨b, o, none⟩ ∧ b < w.heap.size ∧ w.rangeAt b (o + i * E.k) (E.enc q) ∧ P q := fun i hi => by
      have h1 := hel i hi
      have h2 : i < elems.length := by omega
      rw [List.getElem?_eq_getElem h2, hcells, Option.bind_eq_some_iff] at h1
      obtain ⟨cs, hcs, hy⟩ := h1
      obtain ⟨q, rfl, hPq⟩ := each _ _ _ hy
      have hk := (ob_cells hcs).2
      have hpos : 0 < (E.enc q).length := by rw [O.len]; exact O.kp
      have k0 := hk 0 _ (List.getElem?_eq_getElem hpos)
      obtain ⟨b, p, s⟩ := a
      have hs : s = none := by
        have h3 := hel 0 (by omega)
        rw [List.getElem?_eq_getElem (show 0 < elems.length by omega), hcells, Option.bind_eq_some_iff] at h3
        obtain ⟨cs', hcs', hy'⟩ := h3
        obtain ⟨q', rfl, -⟩ := each _ _ _ hy'
        have k9 := (ob_cells hcs').2 0 _ (List.getElem?_eq_getElem (show 0 < (E.enc q').length by rw [O.len]; exact O.kp))
        have := World.cell?_spot k9
        simpa [Addr.add] using this
      subst hs
      have hlt := World.block_lt_of_cell? w _ k0
      rw [addr_add, addr_add] at hlt
      refine ⟨q, b, p, rfl, hlt, fun j u hu => ?_, hPq⟩
      have k1 := hk j u hu
      rw [addr_add, addr_add] at k1
      exact k1
    obtain ⟨os, hos, hP⟩ := ob_list every
    refine ⟨some a, cap, os, by rw [hos], ⟨some a, cap, rfl, by omega, fun i o hi => ?_⟩, ?_, ?_⟩
    · obtain ⟨hi', rfl⟩ := List.getElem?_eq_some_iff.1 hi
      obtain ⟨b, p, rfl, h1, h2, -⟩ := hP i hi'
      exact ⟨b, p, rfl, h1, h2⟩
    · rw [hx.1]
      simp only [bdlen, List.length_map]
      omega
    · intro q hq
      obtain ⟨i, hi⟩ := List.mem_iff_getElem?.1 hq
      obtain ⟨hi', rfl⟩ := List.getElem?_eq_some_iff.1 hi
      obtain ⟨b, p, -, -, -, h3⟩ := hP i hi'
      exact h3
set_option maxRecDepth 100000 in
theorem open_K {α : Type} {E : EK α} (O : E.Ok) (hcells : Try.prog.cellsOf E.T = E.k) {H : Type} {enc : TypeId × Value → H} {w : World} {base b0 : Nat} {spare : Nat → Bool} {held : Bool}
    (each : ∀ (fuel : Nat) (cs : List Value) (x : DataW H × List MemPlace), DataW.trod enc Try.prog w base spare held fuel E.T cs = some x → ∃ a : α, cs = E.enc a)
    {r : Reach} {v : Value} {d : DataW H} {ps : List MemPlace}
    (hval : Value.okWide Try.prog w r b0 E.S v) (hd : DataW.Trod enc Try.prog w base spare held E.S v d ps) :
    ∃ (y : Option Addr) (c : Nat) (ds : List α), v = .slice y ds.length c ∧ IsK E w (.slice y ds.length c) ds ∧ ds.length ≤ bdlen d := by
  obtain ⟨y, c, ds, h1, h2, h3, -⟩ := open_KP (P := fun _ => True) O hcells (fun f cs x h => by obtain ⟨a, ha⟩ := each f cs x h; exact ⟨a, ha, trivial⟩) hval hd
  exact ⟨y, c, ds, h1, h2, h3⟩
end Go.Proofs.Ytmbkkdojjfdliaa
