import Derived.Test.YtfdigmlhjjdggaaQNam3
namespace Go.Proofs.Ytfdigmlhjjdggaa
open Go.RowKit

/-! assayref13: Get -/
theorem IsB.front13 {w : World} {b o m c n : Nat} {l : List UInt8} (h : IsB w (.slice (some ⟨b, o, none⟩) n c) l) (hm : m ≤ l.length) : IsB w (.slice (some ⟨b, o, none⟩) m c) (l.take m) := by
  rcases h with ⟨h, _⟩ | ⟨y, d, he, hc⟩
  · cases h
  · simp only [Value.slice.injEq, Option.some.injEq] at he
    obtain ⟨rfl, rfl, rfl⟩ := he
    have hl : (l.take m).length = m := by rw [List.length_take]; omega
    refine .inr ⟨_, c, by rw [hl], fun i hi => ?_⟩
    rw [hc i (by omega), List.getElem_take]
theorem IsB.byte13 {w : World} {b o n c : Nat} {l : List UInt8} (h : IsB w (.slice (some ⟨b, o, none⟩) n c) l) (i : Nat) (hi : i < l.length) : w.cell? ⟨b, o + i, none⟩ = some (.int .u8 ((lB l i).toNat : Int)) := by
  rcases h with ⟨h, _⟩ | ⟨y, d, he, hc⟩
  · cases h
  · simp only [Value.slice.injEq, Option.some.injEq] at he
    obtain ⟨rfl, rfl, rfl⟩ := he
    have := hc i hi
    rw [addr_add] at this
    rw [this]; unfold lB; rw [List.getElem?_eq_getElem hi]; rfl
def GetPost (l : List UInt8) (n : Int) (w : World) (e : Ending) (w' : World) : Prop := e = .returned (.tuple #[.string ⟨(getS l n).toArray⟩, .bool (getB l n)]) ∧ Below w.heap.size w w'
theorem get_no {l : List UInt8} {n : Int} (h : getB l n = false) : getS l n = [] := by unfold getS; rw [h]; rfl
theorem get_yes {l : List UInt8} {n : Int} (h : getB l n = true) : getS l n = l.take n.toNat := by unfold getS; rw [h]; rfl
end Go.Proofs.Ytfdigmlhjjdggaa
