import Derived.Test.YtklbdhpnbjhgkaaGreatDoorQFi1
import Derived.Test.YtklbdhpnbjhgkaaGreatDoorQFiH
import Derived.Test.YtklbdhpnbjhgkaaGreatDoorQGao
namespace Go.Proofs.YtklbdhpnbjhgkaaGreatDoor
open Go.RowKit Go.Sort

/-! Lists of findings: copied, marked, written into -/
theorem fd_lit_range (w : World) (d : Fd) : (w.alloc (.cells (fdA d) 25)).rangeAt w.heap.size 0 (fdE.enc d) := by
  rw [fdE_enc]; exact row_range (RowC.new w _ _)
theorem setCell_self (w : World) (g o : Nat) (v : Value) (h : w.cell? ⟨g, o, none⟩ = some v) : w.setCell ⟨g, o, none⟩ v = w := by
  have hh : (w.setCell ⟨g, o, none⟩ v).heap = w.heap := by
    apply Array.ext_getElem?
    intro j
    simp only [World.setCell, Array.getElem?_modify]
    split
    · rename_i e
      subst e
      cases hj : w.heap[g]? with
      | none => rfl
      | some ob =>
        cases ob with
        | cells cur t fr =>
          have hc : cur[o]? = some v := by
            simpa [World.cell?, hj] using h
          simp only [Option.map_some, Option.isSome_none]
          congr 2
          apply Array.ext_getElem?
          intro i
          simp only [Bool.false_eq_true, if_false]
          rw [Array.getElem?_setIfInBounds]
          split
          · rename_i e
            subst e
            obtain ⟨hlt, hv⟩ := Array.getElem?_eq_some_iff.1 hc
            simp [hlt, hv]
          · rfl
        | _ => rfl
    · rfl
  show ({ w with heap := (w.setCell ⟨g, o, none⟩ v).heap } : World) = w
  rw [hh]
theorem setF_kind (w : World) (g o : Nat) (a b : Value) (h : w.cell? ⟨g, o + 1, none⟩ = some b) : w.setCells g o [a, b] = w.setCell ⟨g, o, none⟩ a := by
  show ((w.setCell ⟨g, o, none⟩ a).setCell ⟨g, o + 1, none⟩ b) = _
  rw [setCell_self]
  rw [World.cell?_setCell_other _ _ _ _ (by simp)]
  exact h
theorem OwnK.frozen22 {α : Type} {E : EK α} {w : World} {B g n c : Nat} {ds : List α} (h : OwnK E w B (.slice (some ⟨g, 0, none⟩) n c) ds) (j : Nat) : w.frozen? ⟨g, j, none⟩ = false := by
  obtain ⟨cur, -, -, hg, -⟩ := h.heap
  exact frozen_of_row w g j cur _ hg
end Go.Proofs.YtklbdhpnbjhgkaaGreatDoor
