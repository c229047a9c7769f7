
import Derived.Test.YtakbapdonngpiaaGeo1
import Derived.Test.YtakbapdonngpiaaRowg
namespace Go.Proofs.Ytakbapdonngpiaa
open Go.RowKit

/-! Geom as a whole: its rows' rules -/
@[go_sem] theorem gA_size (f : Nat → Int) : (gA f).size = 13 := by unfold gA; simp
@[go_sem] theorem gA_one (f : Nat → Int) : OneC (gA f) = true := by simp [OneC, gA, Value.oneCell']
@[go_sem] theorem gA_get0 (f : Nat → Int) : (gA f)[0]? = some (.int .i64 (f 0)) := by unfold gA; simp
@[go_sem] theorem gA_get1 (f : Nat → Int) : (gA f)[1]? = some (.int .i64 (f 1)) := by unfold gA; simp
@[go_sem] theorem gA_get2 (f : Nat → Int) : (gA f)[2]? = some (.int .i64 (f 2)) := by unfold gA; simp
@[go_sem] theorem gA_get3 (f : Nat → Int) : (gA f)[3]? = some (.int .i64 (f 3)) := by unfold gA; simp
@[go_sem] theorem gA_get4 (f : Nat → Int) : (gA f)[4]? = some (.int .i64 (f 4)) := by unfold gA; simp
@[go_sem] theorem gA_get5 (f : Nat → Int) : (gA f)[5]? = some (.int .i64 (f 5)) := by unfold gA; simp
@[go_sem] theorem gA_get6 (f : Nat → Int) : (gA f)[6]? = some (.int .i64 (f 6)) := by unfold gA; simp
@[go_sem] theorem gA_get7 (f : Nat → Int) : (gA f)[7]? = some (.int .i64 (f 7)) := by unfold gA; simp
@[go_sem] theorem gA_get8 (f : Nat → Int) : (gA f)[8]? = some (.int .i64 (f 8)) := by unfold gA; simp
@[go_sem] theorem gA_get9 (f : Nat → Int) : (gA f)[9]? = some (.int .i64 (f 9)) := by unfold gA; simp
@[go_sem] theorem gA_get10 (f : Nat → Int) : (gA f)[10]? = some (.int .i64 (f 10)) := by unfold gA; simp
@[go_sem] theorem gA_get11 (f : Nat → Int) : (gA f)[11]? = some (.int .i64 (f 11)) := by unfold gA; simp
@[go_sem] theorem gA_get12 (f : Nat → Int) : (gA f)[12]? = some (.int .i64 (f 12)) := by unfold gA; simp
@[go_sem] theorem gA_at0 (f : Nat → Int) (h : 0 < (gA f).size) : (gA f)[0] = .int .i64 (f 0) := by unfold gA; simp
@[go_sem] theorem gA_at1 (f : Nat → Int) (h : 1 < (gA f).size) : (gA f)[1] = .int .i64 (f 1) := by unfold gA; simp
@[go_sem] theorem gA_at2 (f : Nat → Int) (h : 2 < (gA f).size) : (gA f)[2] = .int .i64 (f 2) := by unfold gA; simp
@[go_sem] theorem gA_at3 (f : Nat → Int) (h : 3 < (gA f).size) : (gA f)[3] = .int .i64 (f 3) := by unfold gA; simp
@[go_sem] theorem gA_at4 (f : Nat → Int) (h : 4 < (gA f).size) : (gA f)[4] = .int .i64 (f 4) := by unfold gA; simp
@[go_sem] theorem gA_at5 (f : Nat → Int) (h : 5 < (gA f).size) : (gA f)[5] = .int .i64 (f 5) := by unfold gA; simp
@[go_sem] theorem gA_at6 (f : Nat → Int) (h : 6 < (gA f).size) : (gA f)[6] = .int .i64 (f 6) := by unfold gA; simp
@[go_sem] theorem gA_at7 (f : Nat → Int) (h : 7 < (gA f).size) : (gA f)[7] = .int .i64 (f 7) := by unfold gA; simp
@[go_sem] theorem gA_at8 (f : Nat → Int) (h : 8 < (gA f).size) : (gA f)[8] = .int .i64 (f 8) := by unfold gA; simp
@[go_sem] theorem gA_at9 (f : Nat → Int) (h : 9 < (gA f).size) : (gA f)[9] = .int .i64 (f 9) := by unfold gA; simp
@[go_sem] theorem gA_at10 (f : Nat → Int) (h : 10 < (gA f).size) : (gA f)[10] = .int .i64 (f 10) := by unfold gA; simp
@[go_sem] theorem gA_at11 (f : Nat → Int) (h : 11 < (gA f).size) : (gA f)[11] = .int .i64 (f 11) := by unfold gA; simp
@[go_sem] theorem gA_at12 (f : Nat → Int) (h : 12 < (gA f).size) : (gA f)[12] = .int .i64 (f 12) := by unfold gA; simp
section
variable (ρ : Operand → Value) (dst : Option Tmp) (ty : TypeId) (pos : String) (after : Array Edge) (guard : Option (Nat × Bool))
@[go_sem ↓] theorem execOp_load_geo (x : Operand) : execOp ρ { dst, op := .load 37 x, type := ty, pos, after, guard } = bigLoad 37 (ρ x) := rfl
@[go_sem ↓] theorem execOp_store_geo (x y : Operand) : execOp ρ { dst, op := .store 37 x y, type := ty, pos, after, guard } = bigStore 37 (ρ x) (ρ y) := rfl
@[go_sem ↓] theorem execOp_alloc_geo : execOp ρ { dst, op := .alloc 37, type := ty, pos, after, guard } = bigAlloc 37 := rfl
@[go_sem ↓] theorem execOp_box_geo (x : Operand) : execOp ρ { dst, op := .box 37 x, type := ty, pos, after, guard } = bigBox 37 (ρ x) := rfl
end
theorem info_geo : (Try.prog.info? 37).map (fun i => (i.zero, i.size)) = some (some (.agg (gA fun _ => 0)), 13) := by kernel_rfl
theorem sizeT_geo : (Try.prog.info? 37).map (·.size) = some 13 := (zero_of_info info_geo).2
@[go_sem] theorem run_load_geo (w : World) (g : Nat) (h : rowL w g = true) (hs : (rowAt w g).size = 13) : (bigLoad 37 (.pointer (some ⟨g, 0, none⟩))).run Try.prog w = .ok (.value (.agg (rowAt w g))) w := by
  rw [run_bigLoad 37 _ 13 Try.underlying37 rfl sizeT_geo w g 0 h (by omega), Nat.zero_add, Array.extract_eq_self_of_le (by omega)]
@[go_sem] theorem run_store_geo (w : World) (g : Nat) (c : Array Value) (h : rowL w g = true) (hs : (rowAt w g).size = 13) (hc : c.size = 13) (h1 : OneC c = true) : (bigStore 37 (.pointer (some ⟨g, 0, none⟩)) (.agg c)).run Try.prog w = .ok .skip (w.setRow g c) := by
  rw [run_bigStore 37 13 sizeT_geo w g 0 c h hc (by omega) h1, layC_all _ _ (by omega)]
@[go_sem] theorem run_alloc_geo (w : World) : (bigAlloc 37).run Try.prog w = .ok (.value (.pointer (some ⟨w.heap.size, 0, none⟩))) (w.alloc (.cells (gA fun _ => 0) 37)) := by
  simp only [bigAlloc, Instr.alloc, Sem.run_bind, (zero_of_info info_geo).1 w, Result.andThen_ok]
  rfl
@[go_sem] theorem run_box_geo (w : World) (c : Array Value) : (bigBox 37 (.agg c)).run Try.prog w = .ok (.value (.pointer (some ⟨w.heap.size, 0, none⟩))) (w.alloc (.cells c 37)) := run_bigBox _ c w
section
variable (ρ : Operand → Value) (dst : Option Tmp) (ty : TypeId) (pos : String) (after : Array Edge) (guard : Option (Nat × Bool))
end
end Go.Proofs.Ytakbapdonngpiaa
