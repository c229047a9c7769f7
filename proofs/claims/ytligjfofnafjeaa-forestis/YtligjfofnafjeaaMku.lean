
import Derived.Test.YtligjfofnafjeaaGenA
namespace Go.Proofs.Ytligjfofnafjeaa
open Go.RowKit

/-! make([]uint32, n) -/
def zerosU (n : Nat) : List Value := List.replicate n (.int .u32 0)
def mkU (x y : Value) : Sem Next := do pure (.value (← Instr.makeSlice 25 x y))
@[go_sem ↓] theorem execOp_mkU (ρ : Operand → Value) (dst : Option Tmp) (ty : TypeId) (pos : String) (after : Array Edge) (guard : Option (Nat × Bool)) (x y : Operand) : execOp ρ { dst, op := .makeSlice 25 x y, type := ty, pos, after, guard } = mkU (ρ x) (ρ y) := rfl
theorem info_u32U : (Try.prog.info? 33).map (fun i => (i.zero, i.size, i.bytes)) = some (some (.int .u32 0), 1, 4) := by kernel_rfl
theorem made_u32U (n : Nat) : madeCells #[Value.int .u32 0] n = (zerosU n).toArray := by
  apply Array.ext_getElem?
  intro i
  unfold zerosU
  by_cases hi : i < n
  · simp [madeCells, hi, Nat.mod_one]
  · rw [Array.getElem?_eq_none (by rw [size_madeCells]; omega), Array.getElem?_eq_none (by simp; omega)]
@[go_sem] theorem run_mkU (w : World) (n : Int) (h0 : 0 ≤ n) (h : n ≤ 70368744177664) : (mkU (.int .i64 n) (.int .i64 n)).run Try.prog w =
    .ok (.value (.slice (some ⟨w.heap.size, 0, none⟩) n.toNat n.toNat)) (w.alloc (.cells (zerosU n.toNat).toArray 33)) := by
  obtain ⟨i, hi, hzz⟩ := Option.map_eq_some_iff.1 info_u32U
  simp only [Prod.mk.injEq] at hzz
  simp only [mkU, Sem.run_bind]
  rw [run_make (P := Try.prog) w 25 33 i _ Try.underlying25 hi hzz.1 .i64 .i64 n n h0 (Int.le_refl _) (by rw [hzz.2.2]; omega) (by omega)]
  rw [hzz.2.1, Nat.mul_one, show (Value.int .u32 0).cells = #[Value.int .u32 0] from rfl, made_u32U]
  rfl
end Go.Proofs.Ytligjfofnafjeaa
