import Derived.Test.YtddmmmfpdmejbaaGreatDoorQNum
import Derived.Test.YtddmmmfpdmejbaaGreatDoorQKel
namespace Go.Proofs.YtddmmmfpdmejbaaGreatDoor
open Go.RowKit

/-! Slices of bytes of the call's own: cells, stores, parts (as in Nam3, Nam4) -/
theorem IsB.byteB {w : World} {b o n c : Nat} {l : List UInt8} (h : IsB w (.slice (some ⟨b, o, none⟩) n c) l) (i : Nat) (hi : i < l.length) : w.cell? ⟨b, o + i, none⟩ = some (.int .u8 ((lB l i).toNat : Int)) := by
  rcases h with ⟨h, _⟩ | ⟨y, d, he, hc⟩
  · cases h
  · simp only [Value.slice.injEq, Option.some.injEq] at he
    obtain ⟨rfl, rfl, rfl⟩ := he
    have := hc i hi
    rw [addr_add] at this
    rw [this]; unfold lB; rw [List.getElem?_eq_getElem hi]; rfl
def bCut (x lo hi : Value) : Sem Next := do pure (.value (← Instr.sliceAt 26 x (some lo) (some hi) none))
section
variable (ρ : Operand → Value) (dst : Option Tmp) (ty : TypeId) (pos : String) (after : Array Edge) (guard : Option (Nat × Bool))
@[go_sem ↓] theorem execOp_bCut (x lo hi : Operand) : execOp ρ { dst, op := .slice 26 x (some lo) (some hi) none, type := ty, pos, after, guard } = bCut (ρ x) (ρ lo) (ρ hi) := rfl
end
end Go.Proofs.YtddmmmfpdmejbaaGreatDoor
