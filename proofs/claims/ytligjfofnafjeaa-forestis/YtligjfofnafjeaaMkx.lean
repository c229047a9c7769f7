
import Derived.Test.YtligjfofnafjeaaGenA
namespace Go.Proofs.Ytligjfofnafjeaa
open Go.RowKit

/-! make([]bool, n) -/
def falses (n : Nat) : List Value := List.replicate n (.bool false)
def mkX (x y : Value) : Sem Next := do pure (.value (← Instr.makeSlice 24 x y))
section
variable (ρ : Operand → Value) (dst : Option Tmp) (ty : TypeId) (pos : String) (after : Array Edge) (guard : Option (Nat × Bool))
@[go_sem ↓] theorem execOp_mkX (x y : Operand) : execOp ρ { dst, op := .makeSlice 24 x y, type := ty, pos, after, guard } = mkX (ρ x) (ρ y) := rfl
end
theorem info_boolX : (Try.prog.info? 4).map (fun i => (i.zero, i.size, i.bytes)) = some (some (.bool false), 1, 1) := by kernel_rfl
theorem made_boolX (n : Nat) : madeCells #[Value.bool false] n = (falses n).toArray := by
  apply Array.ext_getElem?
  intro i
  unfold falses
  by_cases hi : i < n
  · simp [madeCells, hi, Nat.mod_one]
  · rw [Array.getElem?_eq_none (by rw [size_madeCells]; omega), Array.getElem?_eq_none (by simp; omega)]
@[go_sem] theorem run_mkX (w : World) (n : Int) (h0 : 0 ≤ n) (h : n ≤ 281474976710656) : (mkX (.int .i64 n) (.int .i64 n)).run Try.prog w =
    .ok (.value (.slice (some ⟨w.heap.size, 0, none⟩) n.toNat n.toNat)) (w.alloc (.cells (falses n.toNat).toArray 4)) := by
  obtain ⟨i, hi, hzz⟩ := Option.map_eq_some_iff.1 info_boolX
  simp only [Prod.mk.injEq] at hzz
  simp only [mkX, Sem.run_bind]
  rw [run_make (P := Try.prog) w 24 4 i _ Try.underlying24 hi hzz.1 .i64 .i64 n n h0 (Int.le_refl _) (by rw [hzz.2.2]; omega) (by omega)]
  rw [hzz.2.1, Nat.mul_one, show (Value.bool false).cells = #[Value.bool false] from rfl, made_boolX]
  rfl
end Go.Proofs.Ytligjfofnafjeaa
