
import Derived.Test.YtmbkkdojjfdliaaStm
import Derived.Test.YtmbkkdojjfdliaaBat1
import Derived.Test.YtmbkkdojjfdliaaRowg
namespace Go.Proofs.Ytmbkkdojjfdliaa
open Go.RowKit

/-! The comparisons that batch hands to the library -/
section
variable (ρ : Operand → Value) (dst : Option Tmp) (ty ty' : TypeId) (pos : String) (after : Array Edge) (guard : Option (Nat × Bool))
@[go_sem ↓] theorem execOp_wrBox26 (x : Operand) : execOp ρ { dst, op := .box 29 x, type := ty, pos, after, guard } = bigBox 29 (ρ x) := rfl
@[go_sem ↓] theorem execOp_wrAlloc26 : execOp ρ { dst, op := .alloc 29, type := ty, pos, after, guard } = bigAlloc 29 := rfl
end
@[go_sem] theorem run_wrBox26 (w : World) (c : Array Value) : (bigBox 29 (.agg c)).run Try.prog w = .ok (.value (.pointer (some ⟨w.heap.size, 0, none⟩))) (w.alloc (.cells c 29)) := run_bigBox _ c w
theorem zero_wr26 (w : World) : (zeroValue 29).run Try.prog w = .ok (.agg (wrA wrZ)) w := by
  have h : (Try.prog.info? 29).map (fun i => (i.zero, i.size)) = some (some (.agg (wrA wrZ)), 65) := by kernel_rfl
  obtain ⟨i, hi, hzz⟩ := Option.map_eq_some_iff.1 h
  simp only [Prod.mk.injEq] at hzz
  simp [zeroValue, typeInfo, hi, hzz.1]
@[go_sem] theorem run_wrAlloc26 (w : World) : (bigAlloc 29).run Try.prog w = .ok (.value (.pointer (some ⟨w.heap.size, 0, none⟩))) (w.alloc (.cells (wrA wrZ) 29)) := by
  simp [bigAlloc, Instr.alloc, zero_wr26, newVar, newRow, Value.cells]
theorem isNaN26 (a : Int) (w : World) : Calls Try.prog 29 #[.int .i64 a] w fun e w' => e = .returned (.bool false) ∧ Below w.heap.size w w' := by
  go_enter Try.func29, Try.ntmps29
  go_wp2
  go_ret
  exact ⟨by simp, Below.refl _ _⟩
def cmI (a b : Int) : Int := if a < b then -1 else if b < a then 1 else 0
set_option linter.unusedSimpArgs false in
theorem compare26 (a b : Int) (w : World) : Calls Try.prog 24 #[.int .i64 a, .int .i64 b] w fun e w' => e = .returned (.int .i64 (cmI a b)) ∧ Below w.heap.size w w' := by
  go_enter Try.func24, Try.ntmps24
  go_wp2_with fail
  refine (isNaN26 a w).mono ?_
  rintro e w1 ⟨rfl, b1⟩
  go_wp2_with fail
  refine (isNaN26 b w1).mono ?_
  rintro e w2 ⟨rfl, b2⟩
  have b3 : Hid _ := b1.trans (b2.mono b1.size)
  clear b1 b2
  by_cases h1 : a < b
  · have e1 : cmI a b = -1 := by simp [cmI, h1]
    go_wp2
    go_ret
    exact ⟨by rw [e1]; rfl, b3.out⟩
  · by_cases h2 : b < a
    · have e1 : cmI a b = 1 := by simp [cmI, h1, h2]
      have h3 : a > b := h2
      go_wp2
      go_ret
      exact ⟨by rw [e1]; rfl, b3.out⟩
    · have e1 : cmI a b = 0 := by simp [cmI, h1, h2]
      have h3 : ¬ a > b := h2
      go_wp2
      go_ret
      exact ⟨by rw [e1]; rfl, b3.out⟩
theorem cmI_neg (a b : Int) : decide (cmI a b < 0) = decide (a < b) := by
  unfold cmI
  by_cases h1 : a < b
  · simp [h1]
  · by_cases h2 : b < a <;> simp [h1, h2]
theorem cell_wr0 (w : World) (x : Wr) : (w.alloc (.cells (wrA x) 29)).cell? ⟨w.heap.size, 0, none⟩ = some (.int .i64 x.1) := by
  rw [cell_of_row _ _ _ _ _ _ (heap_alloc_new w (.cells (wrA x) 29))]
  exact wrA_at x
theorem cell_wr1 (w : World) (x : Wr) (o : Obj) : ((w.alloc (.cells (wrA x) 29)).alloc o).cell? ⟨w.heap.size, 0, none⟩ = some (.int .i64 x.1) := by
  have := cell_wr0 w x
  exact (below_alloc _ o).cell (World.block_lt_of_cell? _ _ this) ▸ this
set_option linter.unusedSimpArgs false in
theorem cmp26 (a b : Wr) (w : World) : Calls Try.prog 23 #[.agg (wrA a), .agg (wrA b)] w fun e w' => e = .returned (.int .i64 (cmI a.1 b.1)) ∧ Below w.heap.size w w' := by
  have c1 := cell_wr1 w a (.cells (wrA b) 29)
  have c2 := cell_wr0 (w.alloc (.cells (wrA a) 29)) b
  have b1 := below_alloc w (.cells (wrA a) 29)
  have b2 := below_alloc (w.alloc (.cells (wrA a) 29)) (.cells (wrA b) 29)
  have B : Hid _ := b1.trans (b2.mono b1.size)
  clear b1 b2
  simp only [World.size_alloc] at c2
  go_enter Try.func23, Try.ntmps23
  go_wp2_with fail
  refine (compare26 a.1 b.1 _).mono ?_
  rintro e w2 ⟨rfl, b3⟩
  have B2 : Hid _ := B.out.trans (b3.mono B.out.size)
  clear b3 B
  go_wp2
  go_ret
  exact ⟨rfl, B2.out⟩
set_option linter.unusedSimpArgs false in
theorem eq26 (a b : Wr) (w : World) : Calls Try.prog 26 #[.agg (wrA a), .agg (wrA b)] w fun e w' => e = .returned (.bool (decide (a.1 = b.1))) ∧ Below w.heap.size w w' := by
  have c1 := cell_wr1 w a (.cells (wrA b) 29)
  have c2 := cell_wr0 (w.alloc (.cells (wrA a) 29)) b
  have b1 := below_alloc w (.cells (wrA a) 29)
  have b2 := below_alloc (w.alloc (.cells (wrA a) 29)) (.cells (wrA b) 29)
  have B : Hid _ := b1.trans (b2.mono b1.size)
  clear b1 b2
  simp only [World.size_alloc] at c2
  go_enter Try.func26, Try.ntmps26
  go_wp2
  go_ret
  refine ⟨?_, B.out⟩
  rfl
end Go.Proofs.Ytmbkkdojjfdliaa
