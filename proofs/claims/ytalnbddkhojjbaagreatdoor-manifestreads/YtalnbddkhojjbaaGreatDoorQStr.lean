import Derived.Test.YtalnbddkhojjbaaGreatDoorQNum
namespace Go.Proofs.YtalnbddkhojjbaaGreatDoor
open Go.RowKit

def lS (s : ByteArray) : List UInt8 := s.data.toList
theorem lS_len (s : ByteArray) : (lS s).length = s.size := by unfold lS; rw [Array.length_toList]; rfl
theorem lS_mk (l : List UInt8) : lS ⟨l.toArray⟩ = l := by unfold lS; simp
theorem lS_inj {s t : ByteArray} (h : lS s = lS t) : s = t := by
  unfold lS at h
  cases s; cases t
  simp only [Array.toList_inj] at h
  rw [h]
def sAt (x i : Value) : Sem Next := do pure (.value (← Instr.index 9 x i))
def sCut (x lo hi : Value) : Sem Next := do pure (.value (← Instr.sliceAt 9 x (some lo) (some hi) none))
def sCut0 (x hi : Value) : Sem Next := do pure (.value (← Instr.sliceAt 9 x none (some hi) none))
def sCut1 (x lo : Value) : Sem Next := do pure (.value (← Instr.sliceAt 9 x (some lo) none none))
section
variable (ρ : Operand → Value) (dst : Option Tmp) (ty : TypeId) (pos : String) (after : Array Edge) (guard : Option (Nat × Bool))
@[go_sem ↓] theorem execOp_sAt (x i : Operand) : execOp ρ { dst, op := .index 9 x i, type := ty, pos, after, guard } = sAt (ρ x) (ρ i) := rfl
@[go_sem ↓] theorem execOp_sCut (x lo hi : Operand) : execOp ρ { dst, op := .slice 9 x (some lo) (some hi) none, type := ty, pos, after, guard } = sCut (ρ x) (ρ lo) (ρ hi) := rfl
@[go_sem ↓] theorem execOp_sCut0 (x hi : Operand) : execOp ρ { dst, op := .slice 9 x none (some hi) none, type := ty, pos, after, guard } = sCut0 (ρ x) (ρ hi) := rfl
@[go_sem ↓] theorem execOp_sCut1 (x lo : Operand) : execOp ρ { dst, op := .slice 9 x (some lo) none none, type := ty, pos, after, guard } = sCut1 (ρ x) (ρ lo) := rfl
end
@[go_sem] theorem run_sAt (w : World) (s : ByteArray) (k : Nat) (h : (k : Int) < (s.size : Int)) : (sAt (.string s) (.int .i64 (k : Int))).run Tryz.prog w = .ok (.value (.int .u8 ((lB (lS s) k).toNat : Int))) w := by
  have hk : k < s.size := by omega
  have hg : s[k]? = some (lB (lS s) k) := by
    rw [getElem?_pos s k hk]
    unfold lB lS
    have h2 : k < s.data.size := hk
    rw [Array.getElem?_toList, Array.getElem?_eq_getElem h2]; rfl
  simp [sAt, Instr.index, run_underlying Tryz.underlying9, asIntOf, hg]
@[go_sem] theorem run_sCut (w : World) (s : ByteArray) (lo hi : Nat) (a1 : (lo : Int) ≤ (hi : Int)) (a2 : (hi : Int) ≤ (s.size : Int)) : (sCut (.string s) (.int .i64 (lo : Int)) (.int .i64 (hi : Int))).run Tryz.prog w = .ok (.value (.string (s.extract lo hi))) w := by
  have b1 : ∀ W : World, (Instr.sliceBound (.int .i64 (hi : Int)) s.size BoundsCode.sliceAlen).run Tryz.prog W = .ok hi W := fun W => by
    have := run_sliceBound (P := Tryz.prog) W .i64 (hi : Int) s.size BoundsCode.sliceAlen (by omega) a2
    simpa using this
  have b2 : ∀ W : World, (Instr.sliceBound (.int .i64 (lo : Int)) hi BoundsCode.sliceB).run Tryz.prog W = .ok lo W := fun W => by
    have := run_sliceBound (P := Tryz.prog) W .i64 (lo : Int) hi BoundsCode.sliceB (by omega) a1
    simpa using this
  simp [sCut, Instr.sliceAt, Instr.slice, run_underlying Tryz.underlying9, Instr.sliceBounds, b1, b2]
theorem run_sCut0 (w : World) (s : ByteArray) (hi : Nat) (a2 : hi ≤ s.size) : (sCut0 (.string s) (.int .i64 (hi : Int))).run Tryz.prog w = .ok (.value (.string (s.extract 0 hi))) w := by
  have b1 : ∀ W : World, (Instr.sliceBound (.int .i64 (hi : Int)) s.size BoundsCode.sliceAlen).run Tryz.prog W = .ok hi W := fun W => by
    have := run_sliceBound (P := Tryz.prog) W .i64 (hi : Int) s.size BoundsCode.sliceAlen (by omega) (by omega)
    simpa using this
  simp [sCut0, Instr.sliceAt, Instr.slice, run_underlying Tryz.underlying9, Instr.sliceBounds, b1]
theorem run_sCut1 (w : World) (s : ByteArray) (lo : Nat) (a2 : lo ≤ s.size) : (sCut1 (.string s) (.int .i64 (lo : Int))).run Tryz.prog w = .ok (.value (.string (s.extract lo s.size))) w := by
  have b1 : ∀ W : World, (Instr.sliceBound (.int .i64 (lo : Int)) s.size BoundsCode.sliceB).run Tryz.prog W = .ok lo W := fun W => by
    have := run_sliceBound (P := Tryz.prog) W .i64 (lo : Int) s.size BoundsCode.sliceB (by omega) (by omega)
    simpa using this
  simp [sCut1, Instr.sliceAt, Instr.slice, run_underlying Tryz.underlying9, Instr.sliceBounds, b1]
theorem lS_cut (s : ByteArray) (lo hi : Nat) : lS (s.extract lo hi) = ((lS s).drop lo).take (hi - lo) := by
  unfold lS
  rw [ByteArray.data_extract, Array.toList_extract]
theorem lS_app (s t : ByteArray) : lS (s ++ t) = lS s ++ lS t := by unfold lS; simp [ByteArray.data_append]
end Go.Proofs.YtalnbddkhojjbaaGreatDoor
