
import Derived.Test.YthkjfgncbmpllaaDigK
import Derived.Test.YthkjfgncbmpllaaDsL
namespace Go.Proofs.Ythkjfgncbmpllaa
open Go.RowKit

def dgBS2 (x y : Value) : Sem Next := do pure (.value (← Instr.buildSlice 31 2 #[(0, x), (1, y)]))
@[go_sem ↓] theorem execOp_dgBS2 (ρ : Operand → Value) (dst : Option Tmp) (ty : TypeId) (pos : String) (after : Array Edge) (guard : Option (Nat × Bool)) (x y : Operand) : execOp ρ { dst, op := .buildSlice 31 2 #[(0, x), (1, y)], type := ty, pos, after, guard } = dgBS2 (ρ x) (ρ y) := by simp [execOp, dgBS2]
@[go_sem] theorem run_dgBS2 (w : World) (a b : Dg) : (dgBS2 (.agg (dg_secA a)) (.agg (dg_secA b))).run Try.prog w = .ok (.value (.slice (some ⟨w.heap.size, 0, none⟩) 2 2)) (w.alloc (.cells (flatD [a, b]).toArray 23)) := by
  have h := run_buildDs w [a, b] (by simp) (by simp)
  simp only [dgBS2, Sem.run_bind]
  have e : (dsPs [a, b] 0).toArray = #[(0, .agg (dg_secA a)), (1, .agg (dg_secA b))] := rfl
  rw [e] at h
  rw [show ([a, b] : List Dg).length = 2 from rfl] at h
  rw [h]; rfl
def dgBS3 (x y z : Value) : Sem Next := do pure (.value (← Instr.buildSlice 31 3 #[(0, x), (1, y), (2, z)]))
@[go_sem ↓] theorem execOp_dgBS3 (ρ : Operand → Value) (dst : Option Tmp) (ty : TypeId) (pos : String) (after : Array Edge) (guard : Option (Nat × Bool)) (x y z : Operand) : execOp ρ { dst, op := .buildSlice 31 3 #[(0, x), (1, y), (2, z)], type := ty, pos, after, guard } = dgBS3 (ρ x) (ρ y) (ρ z) := by simp [execOp, dgBS3]
@[go_sem] theorem run_dgBS3 (w : World) (a b c : Dg) : (dgBS3 (.agg (dg_secA a)) (.agg (dg_secA b)) (.agg (dg_secA c))).run Try.prog w = .ok (.value (.slice (some ⟨w.heap.size, 0, none⟩) 3 3)) (w.alloc (.cells (flatD [a, b, c]).toArray 23)) := by
  have h := run_buildDs w [a, b, c] (by simp) (by simp)
  simp only [dgBS3, Sem.run_bind]
  have e : (dsPs [a, b, c] 0).toArray = #[(0, .agg (dg_secA a)), (1, .agg (dg_secA b)), (2, .agg (dg_secA c))] := rfl
  rw [e] at h
  rw [show ([a, b, c] : List Dg).length = 3 from rfl] at h
  rw [h]; rfl
def strCut1 (x lo : Value) : Sem Next := do pure (.value (← Instr.sliceAt 9 x (some lo) none none))
@[go_sem ↓] theorem execOp_strCut1 (ρ : Operand → Value) (dst : Option Tmp) (ty : TypeId) (pos : String) (after : Array Edge) (guard : Option (Nat × Bool)) (x lo : Operand) : execOp ρ { dst, op := .slice 9 x (some lo) none none, type := ty, pos, after, guard } = strCut1 (ρ x) (ρ lo) := rfl
theorem run_strCut1 (w : World) (s : ByteArray) (lo : Nat) (a2 : lo ≤ s.size) : (strCut1 (.string s) (.int .i64 (lo : Int))).run Try.prog w = .ok (.value (.string (s.extract lo s.size))) w := by
  have b1 : ∀ W : World, (Instr.sliceBound (.int .i64 (lo : Int)) s.size BoundsCode.sliceB).run Try.prog W = .ok lo W := fun W => by
    have := run_sliceBound (P := Try.prog) W .i64 (lo : Int) s.size BoundsCode.sliceB (by omega) (by omega)
    simpa using this
  simp [strCut1, Instr.sliceAt, Instr.slice, run_underlying Try.underlying9, Instr.sliceBounds, b1]
def tail60 : ByteArray := ⟨(List.replicate 60 48).toArray⟩
theorem tail60_size : tail60.size = 60 := rfl
theorem cut11 (W : World) : (strCut1 (.string (ByteArray.mk #[115, 104, 97, 50, 53, 54, 58, 48, 48, 48, 48, 48, 48, 48, 48, 48, 48, 48, 48, 48, 48, 48, 48, 48, 48, 48, 48, 48, 48, 48, 48, 48, 48, 48, 48, 48, 48, 48, 48, 48, 48, 48, 48, 48, 48, 48, 48, 48, 48, 48, 48, 48, 48, 48, 48, 48, 48, 48, 48, 48, 48, 48, 48, 48, 48, 48, 48, 48, 48, 48, 48])) (.int .i64 11)).run Try.prog W = .ok (.value (.string tail60)) W := by
  have h := run_strCut1 W (ByteArray.mk #[115, 104, 97, 50, 53, 54, 58, 48, 48, 48, 48, 48, 48, 48, 48, 48, 48, 48, 48, 48, 48, 48, 48, 48, 48, 48, 48, 48, 48, 48, 48, 48, 48, 48, 48, 48, 48, 48, 48, 48, 48, 48, 48, 48, 48, 48, 48, 48, 48, 48, 48, 48, 48, 48, 48, 48, 48, 48, 48, 48, 48, 48, 48, 48, 48, 48, 48, 48, 48, 48, 48]) 11 (by decide)
  have e : (ByteArray.mk #[115, 104, 97, 50, 53, 54, 58, 48, 48, 48, 48, 48, 48, 48, 48, 48, 48, 48, 48, 48, 48, 48, 48, 48, 48, 48, 48, 48, 48, 48, 48, 48, 48, 48, 48, 48, 48, 48, 48, 48, 48, 48, 48, 48, 48, 48, 48, 48, 48, 48, 48, 48, 48, 48, 48, 48, 48, 48, 48, 48, 48, 48, 48, 48, 48, 48, 48, 48, 48, 48, 48]).extract 11 (ByteArray.mk #[115, 104, 97, 50, 53, 54, 58, 48, 48, 48, 48, 48, 48, 48, 48, 48, 48, 48, 48, 48, 48, 48, 48, 48, 48, 48, 48, 48, 48, 48, 48, 48, 48, 48, 48, 48, 48, 48, 48, 48, 48, 48, 48, 48, 48, 48, 48, 48, 48, 48, 48, 48, 48, 48, 48, 48, 48, 48, 48, 48, 48, 48, 48, 48, 48, 48, 48, 48, 48, 48, 48]).size = tail60 := by decide +kernel
  rw [e] at h
  exact h
theorem cat_good : ByteArray.mk #[115, 104, 97, 50, 53, 54, 58, 48, 97, 102, 102] ++ tail60 = ByteArray.mk goodL.toArray := by decide +kernel
theorem cat_bad : ByteArray.mk #[115, 104, 97, 50, 53, 54, 58, 48, 65, 70, 70] ++ tail60 = ByteArray.mk badL.toArray := by decide +kernel
theorem zero_eq : (ByteArray.mk zeroL.toArray) = ByteArray.mk #[115, 104, 97, 50, 53, 54, 58, 48, 48, 48, 48, 48, 48, 48, 48, 48, 48, 48, 48, 48, 48, 48, 48, 48, 48, 48, 48, 48, 48, 48, 48, 48, 48, 48, 48, 48, 48, 48, 48, 48, 48, 48, 48, 48, 48, 48, 48, 48, 48, 48, 48, 48, 48, 48, 48, 48, 48, 48, 48, 48, 48, 48, 48, 48, 48, 48, 48, 48, 48, 48, 48] := by decide +kernel
end Go.Proofs.Ythkjfgncbmpllaa
