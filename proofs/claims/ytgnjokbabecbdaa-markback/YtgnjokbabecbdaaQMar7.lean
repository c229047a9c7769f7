import Derived.Test.YtgnjokbabecbdaaQMar6
namespace Go.Proofs.Ytgnjokbabecbdaa
open Go.RowKit

/-! MarkBack: eight sectors more -/
def s1B9 (x : Value) : Sem Next := do pure (.value (← Instr.build 28 #[(1, x)]))
def s2B9 (x : Value) : Sem Next := do pure (.value (← Instr.build 28 #[(2, x)]))
def s3B9 (x : Value) : Sem Next := do pure (.value (← Instr.build 28 #[(3, x)]))
def s8B9 (x0 x1 x2 x3 x4 x5 x6 x7 : Value) : Sem Next := do pure (.value (← Instr.buildSlice 32 8 #[(0, x0), (1, x1), (2, x2), (3, x3), (4, x4), (5, x5), (6, x6), (7, x7)]))
section
variable (ρ : Operand → Value) (dst : Option Tmp) (ty ty' : TypeId) (pos : String) (after : Array Edge) (guard : Option (Nat × Bool))
@[go_sem ↓] theorem execOp_s1B9 (x : Operand) : execOp ρ { dst, op := .build 28 #[(1, x)], type := ty, pos, after, guard } = s1B9 (ρ x) := by simp [execOp, s1B9]
@[go_sem ↓] theorem execOp_s2B9 (x : Operand) : execOp ρ { dst, op := .build 28 #[(2, x)], type := ty, pos, after, guard } = s2B9 (ρ x) := by simp [execOp, s2B9]
@[go_sem ↓] theorem execOp_s3B9 (x : Operand) : execOp ρ { dst, op := .build 28 #[(3, x)], type := ty, pos, after, guard } = s3B9 (ρ x) := by simp [execOp, s3B9]
@[go_sem ↓] theorem execOp_s8B9 (x0 x1 x2 x3 x4 x5 x6 x7 : Operand) : execOp ρ { dst, op := .buildSlice 32 8 #[(0, x0), (1, x1), (2, x2), (3, x3), (4, x4), (5, x5), (6, x6), (7, x7)], type := ty, pos, after, guard } = s8B9 (ρ x0) (ρ x1) (ρ x2) (ρ x3) (ρ x4) (ρ x5) (ρ x6) (ρ x7) := by simp [execOp, s8B9]
end
def sx1 : Sc := upd secZ 1 9
def sx2 : Sc := upd secZ 2 9
def sx3 : Sc := upd secZ 3 3
@[go_sem] theorem run_s1B9 (w : World) : (s1B9 (.int .u8 9)).run Try.prog w = .ok (.value (.agg (secA sx1))) w := by
  simp only [s1B9, Sem.run_bind]
  rw [run_build w 28 #[(1, .int .u8 9)] (secA sx1) (by kernel_rfl)]; rfl
@[go_sem] theorem run_s2B9 (w : World) : (s2B9 (.int .u8 9)).run Try.prog w = .ok (.value (.agg (secA sx2))) w := by
  simp only [s2B9, Sem.run_bind]
  rw [run_build w 28 #[(2, .int .u8 9)] (secA sx2) (by kernel_rfl)]; rfl
@[go_sem] theorem run_s3B9 (w : World) : (s3B9 (.int .u8 3)).run Try.prog w = .ok (.value (.agg (secA sx3))) w := by
  simp only [s3B9, Sem.run_bind]
  rw [run_build w 28 #[(3, .int .u8 3)] (secA sx3) (by kernel_rfl)]; rfl
def mo8 : List Sc := [sx1, secZ, sx2, secZ, secZ, secZ, secZ, sx3]
def mo8A : Array Value := (flK secE mo8).toArray
theorem fill8 : Instr.fill (fun i => some (i * 64, 64)) ((Array.range (8 * 64)).map ((Value.agg (secA secZ)).cells[· % (Value.agg (secA secZ)).cells.size]!)) [(0, .agg (secA sx1)), (1, .agg (secA secZ)), (2, .agg (secA sx2)), (3, .agg (secA secZ)), (4, .agg (secA secZ)), (5, .agg (secA secZ)), (6, .agg (secA secZ)), (7, .agg (secA sx3))] = some mo8A := by kernel_rfl
@[go_sem] theorem run_s8B9 (w : World) : (s8B9 (.agg (secA sx1)) (.agg (secA secZ)) (.agg (secA sx2)) (.agg (secA secZ)) (.agg (secA secZ)) (.agg (secA secZ)) (.agg (secA secZ)) (.agg (secA sx3))).run Try.prog w = .ok (.value (.slice (some ⟨w.heap.size, 0, none⟩) 8 8)) (w.alloc (.cells mo8A 28)) := by
  obtain ⟨i, hi, hzz⟩ := Option.map_eq_some_iff.1 secE_ok.info
  simp only [Prod.mk.injEq] at hzz
  obtain ⟨hz, hs, hby⟩ := hzz
  have hk : secE.k = 64 := rfl
  rw [hk] at hs
  have hz' : i.zero = some (.agg (secA secZ)) := by rw [hz]; rfl
  have h := run_buildSlice (P := Try.prog) w 32 28 8 #[(0, .agg (secA sx1)), (1, .agg (secA secZ)), (2, .agg (secA sx2)), (3, .agg (secA secZ)), (4, .agg (secA secZ)), (5, .agg (secA secZ)), (6, .agg (secA secZ)), (7, .agg (secA sx3))] mo8A i _ secE_ok.und hi hz' (by rw [hs]; omega) (by rw [hs]; omega) (by rw [hs]; exact fill8)
  simp only [s8B9, Sem.run_bind, h]
  rfl
theorem mo8_is (w : World) : OwnK secE (w.alloc (.cells mo8A 28)) w.heap.size (.slice (some ⟨w.heap.size, 0, none⟩) 8 8) mo8 := OwnK.lit secE_ok w mo8 (by decide)
theorem mo8_len : mo8.length = 8 := rfl
theorem mo8_ne : mo8 ≠ [] := by unfold mo8; simp
end Go.Proofs.Ytgnjokbabecbdaa
