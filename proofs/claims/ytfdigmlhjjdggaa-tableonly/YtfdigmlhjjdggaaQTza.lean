import Derived.Test.YtfdigmlhjjdggaaQTab7
import Derived.Test.YtfdigmlhjjdggaaQNamZ
import Derived.Test.YtfdigmlhjjdggaaQCrcR2
import Derived.Test.YtfdigmlhjjdggaaQKfr
namespace Go.Proofs.Ytfdigmlhjjdggaa
open Go.RowKit

/-! The rows of table's page and codecs: 64 bytes each -/
def pgP (i : Nat) : Option (Nat × Nat) := ([(0, 64)] : List (Nat × Nat))[i]?
theorem fill_pg (s : Sc) : Instr.fill pgP (secA secZ) [(0, .agg (secA s))] = some (secA s) := by
  obtain ⟨C, hC⟩ : ∃ q, secA s = q := ⟨_, rfl⟩
  have hC2 : C.size = 64 := by rw [← hC]; simp
  obtain ⟨X, hX⟩ : ∃ q, secA secZ = q := ⟨_, rfl⟩
  have hX2 : X.size = 64 := by rw [← hX]; simp
  rw [hC, hX]
  have hc : (Value.agg C).cells = C := rfl
  have hp : pgP 0 = some (0, 64) := rfl
  unfold Instr.fill
  simp only [hc, hp]
  rw [if_neg (by simp [hC2, hX2])]
  unfold Instr.fill
  refine congrArg some ?_
  apply Array.ext_getElem?
  intro i
  rw [blit_get 0 C X i]
  by_cases hi : i < 64
  · rw [if_pos (by omega), Nat.sub_zero]
  · rw [if_neg (by omega), Array.getElem?_eq_none (by omega), Array.getElem?_eq_none (by omega)]
theorem rowL_of_ok {w : World} {g : Nat} (h : rowOk w g = true) : rowL w g = true ∧ (rowAt w g).size = 64 := by
  obtain ⟨t, hg, hs⟩ := row_of_ok h
  refine ⟨?_, hs⟩
  unfold rowL; rw [hg]; rfl
section
variable (ρ : Operand → Value) (dst : Option Tmp) (ty : TypeId) (pos : String) (after : Array Edge) (guard : Option (Nat × Bool))
@[go_sem ↓] theorem execOp_load_pg (x : Operand) : execOp ρ { dst, op := .load 61 x, type := ty, pos, after, guard } = bigLoad 61 (ρ x) := rfl
@[go_sem ↓] theorem execOp_store_pg (x y : Operand) : execOp ρ { dst, op := .store 61 x y, type := ty, pos, after, guard } = bigStore 61 (ρ x) (ρ y) := rfl
@[go_sem ↓] theorem execOp_alloc_pg : execOp ρ { dst, op := .alloc 61, type := ty, pos, after, guard } = bigAlloc 61 := rfl
@[go_sem ↓] theorem execOp_box_pg (x : Operand) : execOp ρ { dst, op := .box 61 x, type := ty, pos, after, guard } = bigBox 61 (ρ x) := rfl
end
theorem info_pg : (Try.prog.info? 61).map (fun i => (i.zero, i.size)) = some (some (.agg (secA secZ)), 64) := by kernel_rfl
theorem sizeT_pg : (Try.prog.info? 61).map (·.size) = some 64 := (zero_of_info info_pg).2
@[go_sem] theorem run_load_pg (w : World) (g : Nat) (h : rowOk w g = true) : (bigLoad 61 (.pointer (some ⟨g, 0, none⟩))).run Try.prog w = .ok (.value (.agg (rowAt w g))) w := by
  obtain ⟨h1, h2⟩ := rowL_of_ok h
  rw [run_bigLoad 61 _ 64 Try.underlying61 rfl sizeT_pg w g 0 h1 (by omega), Nat.zero_add, Array.extract_eq_self_of_le (by omega)]
@[go_sem] theorem run_store_pg (w : World) (g : Nat) (s : Sc) (h : rowOk w g = true) : (bigStore 61 (.pointer (some ⟨g, 0, none⟩)) (.agg (secA s))).run Try.prog w = .ok .skip (w.setRow g (secA s)) := by
  obtain ⟨h1, h2⟩ := rowL_of_ok h
  rw [run_bigStore 61 64 sizeT_pg w g 0 (secA s) h1 (secA_size s) (by omega) (secA_one s), layC_all _ _ (by rw [secA_size]; omega)]
@[go_sem] theorem run_alloc_pg (w : World) : (bigAlloc 61).run Try.prog w = .ok (.value (.pointer (some ⟨w.heap.size, 0, none⟩))) (w.alloc (.cells (secA secZ) 61)) := by
  simp only [bigAlloc, Instr.alloc, Sem.run_bind, (zero_of_info info_pg).1 w, Result.andThen_ok]
  rfl
@[go_sem] theorem run_box_pg (w : World) (c : Array Value) : (bigBox 61 (.agg c)).run Try.prog w = .ok (.value (.pointer (some ⟨w.heap.size, 0, none⟩))) (w.alloc (.cells c 61)) := run_bigBox _ c w
def pgBd (x : Value) : Sem Next := do pure (.value (← Instr.build 61 #[(0, x)]))
@[go_sem ↓] theorem execOp_pgBd (ρ : Operand → Value) (dst : Option Tmp) (ty : TypeId) (pos : String) (after : Array Edge) (guard : Option (Nat × Bool)) (x : Operand) : execOp ρ { dst, op := .build 61 #[(0, x)], type := ty, pos, after, guard } = pgBd (ρ x) := by simp [execOp, pgBd]
theorem built_pg (ps : List (Nat × Value)) : Try.prog.built 61 ps = Instr.fill pgP (secA secZ) ps := by
  obtain ⟨i, hi, hzz⟩ := Option.map_eq_some_iff.1 info_pg
  simp only [Prod.mk.injEq] at hzz
  obtain ⟨i0, h0, s0⟩ := Option.map_eq_some_iff.1 (show (Try.prog.info? 35).map (·.size) = some 64 by kernel_rfl)
  unfold Program.built
  simp only [hi, Try.underlying61, hzz.1]
  simp [h0, s0, Value.cells]
  rfl
@[go_sem] theorem run_pgBd (w : World) (s : Sc) : (pgBd (.agg (secA s))).run Try.prog w = .ok (.value (.agg (secA s))) w := by
  simp only [pgBd, Sem.run_bind]
  rw [run_build w 61 _ (secA s) (by
    rw [built_pg]
    exact fill_pg s)]
  rfl
section
variable (ρ : Operand → Value) (dst : Option Tmp) (ty : TypeId) (pos : String) (after : Array Edge) (guard : Option (Nat × Bool))
@[go_sem ↓] theorem execOp_load_tc (x : Operand) : execOp ρ { dst, op := .load 63 x, type := ty, pos, after, guard } = bigLoad 63 (ρ x) := rfl
@[go_sem ↓] theorem execOp_store_tc (x y : Operand) : execOp ρ { dst, op := .store 63 x y, type := ty, pos, after, guard } = bigStore 63 (ρ x) (ρ y) := rfl
@[go_sem ↓] theorem execOp_alloc_tc : execOp ρ { dst, op := .alloc 63, type := ty, pos, after, guard } = bigAlloc 63 := rfl
@[go_sem ↓] theorem execOp_box_tc (x : Operand) : execOp ρ { dst, op := .box 63 x, type := ty, pos, after, guard } = bigBox 63 (ρ x) := rfl
end
theorem info_tc : (Try.prog.info? 63).map (fun i => (i.zero, i.size)) = some (some (.agg (secA secZ)), 64) := by kernel_rfl
theorem sizeT_tc : (Try.prog.info? 63).map (·.size) = some 64 := (zero_of_info info_tc).2
@[go_sem] theorem run_load_tc (w : World) (g : Nat) (h : rowOk w g = true) : (bigLoad 63 (.pointer (some ⟨g, 0, none⟩))).run Try.prog w = .ok (.value (.agg (rowAt w g))) w := by
  obtain ⟨h1, h2⟩ := rowL_of_ok h
  rw [run_bigLoad 63 _ 64 Try.underlying63 rfl sizeT_tc w g 0 h1 (by omega), Nat.zero_add, Array.extract_eq_self_of_le (by omega)]
@[go_sem] theorem run_store_tc (w : World) (g : Nat) (s : Sc) (h : rowOk w g = true) : (bigStore 63 (.pointer (some ⟨g, 0, none⟩)) (.agg (secA s))).run Try.prog w = .ok .skip (w.setRow g (secA s)) := by
  obtain ⟨h1, h2⟩ := rowL_of_ok h
  rw [run_bigStore 63 64 sizeT_tc w g 0 (secA s) h1 (secA_size s) (by omega) (secA_one s), layC_all _ _ (by rw [secA_size]; omega)]
@[go_sem] theorem run_alloc_tc (w : World) : (bigAlloc 63).run Try.prog w = .ok (.value (.pointer (some ⟨w.heap.size, 0, none⟩))) (w.alloc (.cells (secA secZ) 63)) := by
  simp only [bigAlloc, Instr.alloc, Sem.run_bind, (zero_of_info info_tc).1 w, Result.andThen_ok]
  rfl
@[go_sem] theorem run_box_tc (w : World) (c : Array Value) : (bigBox 63 (.agg c)).run Try.prog w = .ok (.value (.pointer (some ⟨w.heap.size, 0, none⟩))) (w.alloc (.cells c 63)) := run_bigBox _ c w
def tcBd (x : Value) : Sem Next := do pure (.value (← Instr.build 63 #[(0, x)]))
@[go_sem ↓] theorem execOp_tcBd (ρ : Operand → Value) (dst : Option Tmp) (ty : TypeId) (pos : String) (after : Array Edge) (guard : Option (Nat × Bool)) (x : Operand) : execOp ρ { dst, op := .build 63 #[(0, x)], type := ty, pos, after, guard } = tcBd (ρ x) := by simp [execOp, tcBd]
theorem built_tc (ps : List (Nat × Value)) : Try.prog.built 63 ps = Instr.fill pgP (secA secZ) ps := by
  obtain ⟨i, hi, hzz⟩ := Option.map_eq_some_iff.1 info_tc
  simp only [Prod.mk.injEq] at hzz
  obtain ⟨i0, h0, s0⟩ := Option.map_eq_some_iff.1 (show (Try.prog.info? 61).map (·.size) = some 64 by kernel_rfl)
  unfold Program.built
  simp only [hi, Try.underlying63, hzz.1]
  simp [h0, s0, Value.cells]
  rfl
@[go_sem] theorem run_tcBd (w : World) (s : Sc) : (tcBd (.agg (secA s))).run Try.prog w = .ok (.value (.agg (secA s))) w := by
  simp only [tcBd, Sem.run_bind]
  rw [run_build w 63 _ (secA s) (by
    rw [built_tc]
    exact fill_pg s)]
  rfl
section
variable (ρ : Operand → Value) (dst : Option Tmp) (ty : TypeId) (pos : String) (after : Array Edge) (guard : Option (Nat × Bool))
@[go_sem ↓] theorem execOp_load_sc (x : Operand) : execOp ρ { dst, op := .load 66 x, type := ty, pos, after, guard } = bigLoad 66 (ρ x) := rfl
@[go_sem ↓] theorem execOp_store_sc (x y : Operand) : execOp ρ { dst, op := .store 66 x y, type := ty, pos, after, guard } = bigStore 66 (ρ x) (ρ y) := rfl
@[go_sem ↓] theorem execOp_alloc_sc : execOp ρ { dst, op := .alloc 66, type := ty, pos, after, guard } = bigAlloc 66 := rfl
@[go_sem ↓] theorem execOp_box_sc (x : Operand) : execOp ρ { dst, op := .box 66 x, type := ty, pos, after, guard } = bigBox 66 (ρ x) := rfl
end
theorem info_sc : (Try.prog.info? 66).map (fun i => (i.zero, i.size)) = some (some (.agg (secA secZ)), 64) := by kernel_rfl
theorem sizeT_sc : (Try.prog.info? 66).map (·.size) = some 64 := (zero_of_info info_sc).2
@[go_sem] theorem run_load_sc (w : World) (g : Nat) (h : rowOk w g = true) : (bigLoad 66 (.pointer (some ⟨g, 0, none⟩))).run Try.prog w = .ok (.value (.agg (rowAt w g))) w := by
  obtain ⟨h1, h2⟩ := rowL_of_ok h
  rw [run_bigLoad 66 _ 64 Try.underlying66 rfl sizeT_sc w g 0 h1 (by omega), Nat.zero_add, Array.extract_eq_self_of_le (by omega)]
@[go_sem] theorem run_store_sc (w : World) (g : Nat) (s : Sc) (h : rowOk w g = true) : (bigStore 66 (.pointer (some ⟨g, 0, none⟩)) (.agg (secA s))).run Try.prog w = .ok .skip (w.setRow g (secA s)) := by
  obtain ⟨h1, h2⟩ := rowL_of_ok h
  rw [run_bigStore 66 64 sizeT_sc w g 0 (secA s) h1 (secA_size s) (by omega) (secA_one s), layC_all _ _ (by rw [secA_size]; omega)]
@[go_sem] theorem run_alloc_sc (w : World) : (bigAlloc 66).run Try.prog w = .ok (.value (.pointer (some ⟨w.heap.size, 0, none⟩))) (w.alloc (.cells (secA secZ) 66)) := by
  simp only [bigAlloc, Instr.alloc, Sem.run_bind, (zero_of_info info_sc).1 w, Result.andThen_ok]
  rfl
@[go_sem] theorem run_box_sc (w : World) (c : Array Value) : (bigBox 66 (.agg c)).run Try.prog w = .ok (.value (.pointer (some ⟨w.heap.size, 0, none⟩))) (w.alloc (.cells c 66)) := run_bigBox _ c w
def scBd (x : Value) : Sem Next := do pure (.value (← Instr.build 66 #[(0, x)]))
@[go_sem ↓] theorem execOp_scBd (ρ : Operand → Value) (dst : Option Tmp) (ty : TypeId) (pos : String) (after : Array Edge) (guard : Option (Nat × Bool)) (x : Operand) : execOp ρ { dst, op := .build 66 #[(0, x)], type := ty, pos, after, guard } = scBd (ρ x) := by simp [execOp, scBd]
theorem built_sc (ps : List (Nat × Value)) : Try.prog.built 66 ps = Instr.fill pgP (secA secZ) ps := by
  obtain ⟨i, hi, hzz⟩ := Option.map_eq_some_iff.1 info_sc
  simp only [Prod.mk.injEq] at hzz
  obtain ⟨i0, h0, s0⟩ := Option.map_eq_some_iff.1 (show (Try.prog.info? 61).map (·.size) = some 64 by kernel_rfl)
  unfold Program.built
  simp only [hi, Try.underlying66, hzz.1]
  simp [h0, s0, Value.cells]
  rfl
@[go_sem] theorem run_scBd (w : World) (s : Sc) : (scBd (.agg (secA s))).run Try.prog w = .ok (.value (.agg (secA s))) w := by
  simp only [scBd, Sem.run_bind]
  rw [run_build w 66 _ (secA s) (by
    rw [built_sc]
    exact fill_pg s)]
  rfl
section
variable (ρ : Operand → Value) (dst : Option Tmp) (ty : TypeId) (pos : String) (after : Array Edge) (guard : Option (Nat × Bool))
@[go_sem ↓] theorem execOp_load_cc (x : Operand) : execOp ρ { dst, op := .load 68 x, type := ty, pos, after, guard } = bigLoad 68 (ρ x) := rfl
@[go_sem ↓] theorem execOp_store_cc (x y : Operand) : execOp ρ { dst, op := .store 68 x y, type := ty, pos, after, guard } = bigStore 68 (ρ x) (ρ y) := rfl
@[go_sem ↓] theorem execOp_alloc_cc : execOp ρ { dst, op := .alloc 68, type := ty, pos, after, guard } = bigAlloc 68 := rfl
@[go_sem ↓] theorem execOp_box_cc (x : Operand) : execOp ρ { dst, op := .box 68 x, type := ty, pos, after, guard } = bigBox 68 (ρ x) := rfl
end
theorem info_cc : (Try.prog.info? 68).map (fun i => (i.zero, i.size)) = some (some (.agg (secA secZ)), 64) := by kernel_rfl
theorem sizeT_cc : (Try.prog.info? 68).map (·.size) = some 64 := (zero_of_info info_cc).2
@[go_sem] theorem run_load_cc (w : World) (g : Nat) (h : rowOk w g = true) : (bigLoad 68 (.pointer (some ⟨g, 0, none⟩))).run Try.prog w = .ok (.value (.agg (rowAt w g))) w := by
  obtain ⟨h1, h2⟩ := rowL_of_ok h
  rw [run_bigLoad 68 _ 64 Try.underlying68 rfl sizeT_cc w g 0 h1 (by omega), Nat.zero_add, Array.extract_eq_self_of_le (by omega)]
@[go_sem] theorem run_store_cc (w : World) (g : Nat) (s : Sc) (h : rowOk w g = true) : (bigStore 68 (.pointer (some ⟨g, 0, none⟩)) (.agg (secA s))).run Try.prog w = .ok .skip (w.setRow g (secA s)) := by
  obtain ⟨h1, h2⟩ := rowL_of_ok h
  rw [run_bigStore 68 64 sizeT_cc w g 0 (secA s) h1 (secA_size s) (by omega) (secA_one s), layC_all _ _ (by rw [secA_size]; omega)]
@[go_sem] theorem run_alloc_cc (w : World) : (bigAlloc 68).run Try.prog w = .ok (.value (.pointer (some ⟨w.heap.size, 0, none⟩))) (w.alloc (.cells (secA secZ) 68)) := by
  simp only [bigAlloc, Instr.alloc, Sem.run_bind, (zero_of_info info_cc).1 w, Result.andThen_ok]
  rfl
@[go_sem] theorem run_box_cc (w : World) (c : Array Value) : (bigBox 68 (.agg c)).run Try.prog w = .ok (.value (.pointer (some ⟨w.heap.size, 0, none⟩))) (w.alloc (.cells c 68)) := run_bigBox _ c w
def ccBd (x : Value) : Sem Next := do pure (.value (← Instr.build 68 #[(0, x)]))
@[go_sem ↓] theorem execOp_ccBd (ρ : Operand → Value) (dst : Option Tmp) (ty : TypeId) (pos : String) (after : Array Edge) (guard : Option (Nat × Bool)) (x : Operand) : execOp ρ { dst, op := .build 68 #[(0, x)], type := ty, pos, after, guard } = ccBd (ρ x) := by simp [execOp, ccBd]
theorem built_cc (ps : List (Nat × Value)) : Try.prog.built 68 ps = Instr.fill pgP (secA secZ) ps := by
  obtain ⟨i, hi, hzz⟩ := Option.map_eq_some_iff.1 info_cc
  simp only [Prod.mk.injEq] at hzz
  obtain ⟨i0, h0, s0⟩ := Option.map_eq_some_iff.1 (show (Try.prog.info? 61).map (·.size) = some 64 by kernel_rfl)
  unfold Program.built
  simp only [hi, Try.underlying68, hzz.1]
  simp [h0, s0, Value.cells]
  rfl
@[go_sem] theorem run_ccBd (w : World) (s : Sc) : (ccBd (.agg (secA s))).run Try.prog w = .ok (.value (.agg (secA s))) w := by
  simp only [ccBd, Sem.run_bind]
  rw [run_build w 68 _ (secA s) (by
    rw [built_cc]
    exact fill_pg s)]
  rfl
/-! page: sealed, unread, number, begin -/
set_option linter.unusedSimpArgs false in
set_option maxRecDepth 100000 in
set_option maxHeartbeats 1600000 in
theorem sealed17 (s : Sc) (w : World) : Calls Try.prog 24 #[.agg (secA s)] w fun e w' => e = .returned (.agg (secA (sealS s))) ∧ Below w.heap.size w w' := by
  obtain ⟨T, hT⟩ : ∃ q, sealS s = q := ⟨_, rfl⟩
  have k1 := fun W => seal_any s W
  rw [hT] at k1 ⊢
  clear hT
  have h1 : ScR ((w.alloc (.cells (secA s) 61)).alloc (.cells (secA secZ) 35)) w.heap.size s := (ScR.new w s _).kept (below_alloc _ _)
  have h2 : ScR ((w.alloc (.cells (secA s) 61)).alloc (.cells (secA secZ) 35)) (w.heap.size + 1) secZ := by
    have := ScR.new (w.alloc (.cells (secA s) 61)) secZ 35
    rw [World.size_alloc] at this
    exact this
  have hB : Below w.heap.size w ((w.alloc (.cells (secA s) 61)).alloc (.cells (secA secZ) 35)) := (below_alloc w _).alloc (by simp) _
  go_enter Try.func24, Try.ntmps24
  go_upto_region 1 with fail
  obtain ⟨g2, hg2⟩ : ∃ g, w.heap.size + 1 = g := ⟨_, rfl⟩
  obtain ⟨g1, hg1⟩ : ∃ g, w.heap.size = g := ⟨_, rfl⟩
  have hl2 : w.heap.size ≤ g2 := by omega
  rw [hg2] at h2
  rw [hg1] at h1
  simp only [hg2]
  simp only [hg1]
  generalize (w.alloc (.cells (secA s) 61)).alloc (.cells (secA secZ) 35) = X at hB h1 h2 ⊢
  clear hg1 hg2
  obtain ⟨r1, q1⟩ := h1
  go_wp2_with fail
  refine (k1 _).mono ?_
  rintro e w1 ⟨rfl, hb⟩
  have h2' := h2.kept hb
  have HB : Hid _ := below_row (hB.trans (hb.mono hB.size)) hl2 (secA T)
  have HR : Hid _ := h2'.rsame T
  obtain ⟨r2, q2⟩ := h2'
  clear k1 h2 hB hb r1 q1
  go_wp2
  exact bodyPost_sec 2 g2 rfl rfl rfl HR.out.1 ⟨by rw [HR.out.2], HB.out⟩
set_option linter.unusedSimpArgs false in
set_option maxRecDepth 100000 in
set_option maxHeartbeats 1600000 in
theorem unread17 (s : Sc) (w : World) : Calls Try.prog 28 #[.agg (secA s)] w fun e w' => e = .returned (.int .i64 (bif secEq s secZ then 1 else 3)) ∧ Below w.heap.size w w' := by
  have k1 := fun W => zero_any s W
  have h1 := ScR.new w s 61
  have hB : Below w.heap.size w (w.alloc (.cells (secA s) 61)) := below_alloc w _
  obtain ⟨z, hz⟩ : ∃ q, secEq s secZ = q := ⟨_, rfl⟩
  rw [hz] at k1 ⊢
  clear hz
  go_enter Try.func28, Try.ntmps28
  go_upto_region 1 with fail
  obtain ⟨g1, hg1⟩ : ∃ g, w.heap.size = g := ⟨_, rfl⟩
  rw [hg1] at h1
  simp only [hg1]
  generalize w.alloc (.cells (secA s) 61) = X at hB h1 ⊢
  clear hg1
  obtain ⟨r1, q1⟩ := h1
  go_wp2_with fail
  refine (k1 _).mono ?_
  rintro e w1 ⟨rfl, hb⟩
  have HB : Hid _ := hB.trans (hb.mono hB.size)
  clear k1 hB hb r1 q1
  cases z
  · go_wp2
    go_ret
    exact ⟨rfl, HB.out⟩
  · go_wp2
    go_ret
    exact ⟨rfl, HB.out⟩
set_option linter.unusedSimpArgs false in
set_option maxRecDepth 100000 in
set_option maxHeartbeats 1600000 in
theorem number17 (s : Sc) (a : Nat) (h4 : a + 4 ≤ 64) (w : World) : Calls Try.prog 46 #[.agg (secA s), .int .i64 (a : Int)] w fun e w' => e = .returned (.int .u32 (numN s a 4 : Nat)) ∧ Below w.heap.size w w' := by
  have k1 := fun W => u32_any s (a : Int) W (by omega) (by omega)
  have e1 : numI s (a : Int) 4 = numN s a 4 := by
    unfold numI
    rw [if_pos (by simp [inB]; omega)]; rfl
  simp only [e1] at k1
  generalize numN s a 4 = v at k1 ⊢
  clear e1 h4
  have h1 := ScR.new w s 61
  have hB : Below w.heap.size w (w.alloc (.cells (secA s) 61)) := below_alloc w _
  go_enter Try.func46, Try.ntmps46
  go_upto_region 1 with fail
  obtain ⟨g1, hg1⟩ : ∃ g, w.heap.size = g := ⟨_, rfl⟩
  rw [hg1] at h1
  simp only [hg1]
  generalize w.alloc (.cells (secA s) 61) = X at hB h1 ⊢
  clear hg1
  obtain ⟨r1, q1⟩ := h1
  go_wp2_with fail
  refine (k1 _).mono ?_
  rintro e w1 ⟨rfl, hb⟩
  have HB : Hid _ := hB.trans (hb.mono hB.size)
  clear k1 hB hb r1 q1
  go_wp2
  go_ret
  exact ⟨rfl, HB.out⟩
/-- The sector in the row g is T, and no other row has turned. -/
def PgQ (g : Nat) (T : Sc) (w : World) (e : Ending) (w' : World) : Prop := e = .returned (.tuple #[]) ∧ ScR w' g T ∧ Keep [g] w w'
theorem keep_cell (w : World) (g i : Nat) (v : Value) : Keep [g] w (w.setCell ⟨g, i, none⟩ v) :=
  ⟨rfl, rfl, rfl, by simp [World.setCell], fun k _ hn => heap_setCell_ne w g k i v (fun e => hn (by simp [e]))⟩
theorem keep_row (w : World) (g : Nat) (c : Array Value) : Keep [g] w (w.setRow g c) :=
  ⟨rfl, rfl, rfl, by simp, fun k _ hn => setRow_other w g k c (fun e => hn (by simp [e]))⟩
theorem ScR.keep {w w' : World} {g k : Nat} {s : Sc} (h : ScR w k s) (hK : Keep [g] w w') (hn : k ≠ g) : ScR w' k s := by
  have e := hK.block k h.lt (by simpa using hn)
  unfold ScR rowOk rowAt at *
  rw [e]; exact h
theorem RowC.keep1 {w w' : World} {g k : Nat} {c : Array Value} (h : RowC w k c) (hK : Keep [g] w w') (hn : k ≠ g) : RowC w' k c := h.block (hK.block k h.lt (by simpa using hn))
set_option linter.unusedSimpArgs false in
set_option maxRecDepth 100000 in
set_option maxHeartbeats 1600000 in
theorem begin17 (s : Sc) (g : Nat) (b : UInt8) (w : World) (hs : ScR w g s) : Calls Try.prog 37 #[.pointer (some ⟨g, 0, none⟩), .int .u8 (b.toNat : Int)] w fun e w' => PgQ g (upd s 0 b) w e w' := by
  have c0 := hs.cell 0 (by omega)
  have f0 := hs.frozen 0
  have HR : Hid _ := hs.set 0 b (by omega)
  clear hs
  go_enter Try.func37, Try.ntmps37
  go_wp2
  go_end0
  exact ⟨rfl, HR.out, keep_cell _ _ _ _⟩
end Go.Proofs.Ytfdigmlhjjdggaa
