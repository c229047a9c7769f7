import Derived.Test.YtafbkdpheneceaaQExtU
namespace Go.Proofs.Ytafbkdpheneceaa
open Go.RowKit

/-! Spans (as pairs), a heap of them, an Extent: rows as a whole -/
section
variable (ρ : Operand → Value) (dst : Option Tmp) (ty : TypeId) (pos : String) (after : Array Edge) (guard : Option (Nat × Bool))
@[go_sem ↓] theorem execOp_load_sp (x : Operand) : execOp ρ { dst, op := .load 56 x, type := ty, pos, after, guard } = bigLoad 56 (ρ x) := rfl
@[go_sem ↓] theorem execOp_store_sp (x y : Operand) : execOp ρ { dst, op := .store 56 x y, type := ty, pos, after, guard } = bigStore 56 (ρ x) (ρ y) := rfl
@[go_sem ↓] theorem execOp_alloc_sp : execOp ρ { dst, op := .alloc 56, type := ty, pos, after, guard } = bigAlloc 56 := rfl
@[go_sem ↓] theorem execOp_box_sp (x : Operand) : execOp ρ { dst, op := .box 56 x, type := ty, pos, after, guard } = bigBox 56 (ρ x) := rfl
end
theorem info_sp : (Try.prog.info? 56).map (fun i => (i.zero, i.size)) = some (some (.agg (prA prZ)), 2) := by kernel_rfl
theorem sizeT_sp : (Try.prog.info? 56).map (·.size) = some 2 := (zero_of_info info_sp).2
@[go_sem] theorem run_load_sp (w : World) (g : Nat) (h : rowL w g = true) (hs : (rowAt w g).size = 2) : (bigLoad 56 (.pointer (some ⟨g, 0, none⟩))).run Try.prog w = .ok (.value (.agg (rowAt w g))) w := by
  rw [run_bigLoad 56 _ 2 Try.underlying56 rfl sizeT_sp w g 0 h (by omega), Nat.zero_add, Array.extract_eq_self_of_le (by omega)]
@[go_sem] theorem run_store_sp (w : World) (g : Nat) (c : Array Value) (h : rowL w g = true) (hs : (rowAt w g).size = 2) (hc : c.size = 2) (h1 : OneC c = true) : (bigStore 56 (.pointer (some ⟨g, 0, none⟩)) (.agg c)).run Try.prog w = .ok .skip (w.setRow g c) := by
  rw [run_bigStore 56 2 sizeT_sp w g 0 c h hc (by omega) h1, layC_all _ _ (by omega)]
@[go_sem] theorem run_alloc_sp (w : World) : (bigAlloc 56).run Try.prog w = .ok (.value (.pointer (some ⟨w.heap.size, 0, none⟩))) (w.alloc (.cells (prA prZ) 56)) := by
  simp only [bigAlloc, Instr.alloc, Sem.run_bind, (zero_of_info info_sp).1 w, Result.andThen_ok]
  rfl
@[go_sem] theorem run_box_sp (w : World) (c : Array Value) : (bigBox 56 (.agg c)).run Try.prog w = .ok (.value (.pointer (some ⟨w.heap.size, 0, none⟩))) (w.alloc (.cells c 56)) := run_bigBox _ c w
@[go_sem] theorem run_sp_mid (w : World) (b o : Nat) (h : rgOk w b o 2 = true) : (bigLoad 56 (.pointer (some ⟨b, o, none⟩))).run Try.prog w = .ok (.value (.agg (rg w b o 2))) w := by
  simp only [bigLoad, Sem.run_bind]
  rw [run_loadAt_mid w b o 56 _ _ (rangeAt_rg h) Try.underlying56 rfl (by rw [sizeT_sp, Array.length_toList, rg_size])]
  rfl
def spE : EK Pr := { T := 56, S := 57, k := 2, bytes := 16, z := .agg (prA prZ), enc := fun p => (prA p).toList }
theorem spE_enc (p : Pr) : spE.enc p = (prA p).toList := by simp only [spE]
theorem spE_arr (p : Pr) : (spE.enc p).toArray = prA p := by rw [spE_enc, Array.toArray_toList]
theorem spE_k : spE.k = 2 := rfl
theorem spE_ok : spE.Ok where
  len x := by rw [spE_enc, Array.length_toList, prA_size]; rfl
  one x v hv := by
    have h := prA_one x
    unfold OneC at h
    exact Array.all_eq_true_iff_forall_mem.1 h v (by rw [spE_enc] at hv; simpa using hv)
  und := Try.underlying57
  info := by
    have h : (Try.prog.info? 56).map (fun i => (i.zero, i.size, i.bytes)) = some (some (.agg (prA prZ)), 2, 16) := by kernel_rfl
    exact h
  zc := by show (prA prZ).size = 2; simp [prA]
  kp := by show 0 < 2; omega
  row := ⟨_, Try.underlying56, rfl⟩
def spBuild2 (x y : Value) : Sem Next := do pure (.value (← Instr.build 56 #[(0, x), (1, y)]))
def spBuild0 : Sem Next := do pure (.value (← Instr.build 56 #[]))
def heA (v : Value) : Array Value := #[v]
def exA (a b : Int) (v : Value) : Array Value := #[.int .i64 a, .int .i64 b, v]
@[go_sem] theorem heA_size (v : Value) : (heA v).size = 1 := rfl
@[go_sem] theorem exA_size (a b : Int) (v : Value) : (exA a b v).size = 3 := rfl
theorem heA_0 (v : Value) : (heA v)[0]? = some v := rfl
theorem exA_0 (a b : Int) (v : Value) : (exA a b v)[0]? = some (.int .i64 a) := rfl
theorem exA_1 (a b : Int) (v : Value) : (exA a b v)[1]? = some (.int .i64 b) := rfl
theorem exA_2 (a b : Int) (v : Value) : (exA a b v)[2]? = some v := rfl
@[go_sem] theorem heA_one (x : Option Addr) (n c : Nat) : OneC (heA (.slice x n c)) = true := by simp [OneC, heA, Value.oneCell']
@[go_sem] theorem exA_one (a b : Int) (x : Option Addr) (n c : Nat) : OneC (exA a b (.slice x n c)) = true := by simp [OneC, exA, Value.oneCell']
section
variable (ρ : Operand → Value) (dst : Option Tmp) (ty : TypeId) (pos : String) (after : Array Edge) (guard : Option (Nat × Bool))
@[go_sem ↓] theorem execOp_load_he (x : Operand) : execOp ρ { dst, op := .load 59 x, type := ty, pos, after, guard } = bigLoad 59 (ρ x) := rfl
@[go_sem ↓] theorem execOp_store_he (x y : Operand) : execOp ρ { dst, op := .store 59 x y, type := ty, pos, after, guard } = bigStore 59 (ρ x) (ρ y) := rfl
@[go_sem ↓] theorem execOp_alloc_he : execOp ρ { dst, op := .alloc 59, type := ty, pos, after, guard } = bigAlloc 59 := rfl
@[go_sem ↓] theorem execOp_box_he (x : Operand) : execOp ρ { dst, op := .box 59 x, type := ty, pos, after, guard } = bigBox 59 (ρ x) := rfl
end
theorem info_he : (Try.prog.info? 59).map (fun i => (i.zero, i.size)) = some (some (.agg (heA (.slice none 0 0))), 1) := by kernel_rfl
theorem sizeT_he : (Try.prog.info? 59).map (·.size) = some 1 := (zero_of_info info_he).2
@[go_sem] theorem run_load_he (w : World) (g : Nat) (h : rowL w g = true) (hs : (rowAt w g).size = 1) : (bigLoad 59 (.pointer (some ⟨g, 0, none⟩))).run Try.prog w = .ok (.value (.agg (rowAt w g))) w := by
  rw [run_bigLoad 59 _ 1 Try.underlying59 rfl sizeT_he w g 0 h (by omega), Nat.zero_add, Array.extract_eq_self_of_le (by omega)]
@[go_sem] theorem run_store_he (w : World) (g : Nat) (c : Array Value) (h : rowL w g = true) (hs : (rowAt w g).size = 1) (hc : c.size = 1) (h1 : OneC c = true) : (bigStore 59 (.pointer (some ⟨g, 0, none⟩)) (.agg c)).run Try.prog w = .ok .skip (w.setRow g c) := by
  rw [run_bigStore 59 1 sizeT_he w g 0 c h hc (by omega) h1, layC_all _ _ (by omega)]
@[go_sem] theorem run_alloc_he (w : World) : (bigAlloc 59).run Try.prog w = .ok (.value (.pointer (some ⟨w.heap.size, 0, none⟩))) (w.alloc (.cells (heA (.slice none 0 0)) 59)) := by
  simp only [bigAlloc, Instr.alloc, Sem.run_bind, (zero_of_info info_he).1 w, Result.andThen_ok]
  rfl
@[go_sem] theorem run_box_he (w : World) (c : Array Value) : (bigBox 59 (.agg c)).run Try.prog w = .ok (.value (.pointer (some ⟨w.heap.size, 0, none⟩))) (w.alloc (.cells c 59)) := run_bigBox _ c w

section
variable (ρ : Operand → Value) (dst : Option Tmp) (ty : TypeId) (pos : String) (after : Array Edge) (guard : Option (Nat × Bool))
@[go_sem ↓] theorem execOp_load_ex (x : Operand) : execOp ρ { dst, op := .load 61 x, type := ty, pos, after, guard } = bigLoad 61 (ρ x) := rfl
@[go_sem ↓] theorem execOp_store_ex (x y : Operand) : execOp ρ { dst, op := .store 61 x y, type := ty, pos, after, guard } = bigStore 61 (ρ x) (ρ y) := rfl
@[go_sem ↓] theorem execOp_alloc_ex : execOp ρ { dst, op := .alloc 61, type := ty, pos, after, guard } = bigAlloc 61 := rfl
@[go_sem ↓] theorem execOp_box_ex (x : Operand) : execOp ρ { dst, op := .box 61 x, type := ty, pos, after, guard } = bigBox 61 (ρ x) := rfl
end
theorem info_ex : (Try.prog.info? 61).map (fun i => (i.zero, i.size)) = some (some (.agg (exA 0 0 (.slice none 0 0))), 3) := by kernel_rfl
theorem sizeT_ex : (Try.prog.info? 61).map (·.size) = some 3 := (zero_of_info info_ex).2
@[go_sem] theorem run_load_ex (w : World) (g : Nat) (h : rowL w g = true) (hs : (rowAt w g).size = 3) : (bigLoad 61 (.pointer (some ⟨g, 0, none⟩))).run Try.prog w = .ok (.value (.agg (rowAt w g))) w := by
  rw [run_bigLoad 61 _ 3 Try.underlying61 rfl sizeT_ex w g 0 h (by omega), Nat.zero_add, Array.extract_eq_self_of_le (by omega)]
@[go_sem] theorem run_store_ex (w : World) (g : Nat) (c : Array Value) (h : rowL w g = true) (hs : (rowAt w g).size = 3) (hc : c.size = 3) (h1 : OneC c = true) : (bigStore 61 (.pointer (some ⟨g, 0, none⟩)) (.agg c)).run Try.prog w = .ok .skip (w.setRow g c) := by
  rw [run_bigStore 61 3 sizeT_ex w g 0 c h hc (by omega) h1, layC_all _ _ (by omega)]
@[go_sem] theorem run_alloc_ex (w : World) : (bigAlloc 61).run Try.prog w = .ok (.value (.pointer (some ⟨w.heap.size, 0, none⟩))) (w.alloc (.cells (exA 0 0 (.slice none 0 0)) 61)) := by
  simp only [bigAlloc, Instr.alloc, Sem.run_bind, (zero_of_info info_ex).1 w, Result.andThen_ok]
  rfl
@[go_sem] theorem run_box_ex (w : World) (c : Array Value) : (bigBox 61 (.agg c)).run Try.prog w = .ok (.value (.pointer (some ⟨w.heap.size, 0, none⟩))) (w.alloc (.cells c 61)) := run_bigBox _ c w

def heBuild1 (x : Value) : Sem Next := do pure (.value (← Instr.build 59 #[(0, x)]))
def exBuild1 (x : Value) : Sem Next := do pure (.value (← Instr.build 61 #[(0, x)]))
def exBuild2 (x y : Value) : Sem Next := do pure (.value (← Instr.build 61 #[(0, x), (1, y)]))
section
variable (ρ : Operand → Value) (dst : Option Tmp) (ty ty' : TypeId) (pos : String) (after : Array Edge) (guard : Option (Nat × Bool))
@[go_sem ↓] theorem execOp_spBuild2 (x y : Operand) : execOp ρ { dst, op := .build 56 #[(0, x), (1, y)], type := ty, pos, after, guard } = spBuild2 (ρ x) (ρ y) := by simp [execOp, spBuild2]
@[go_sem ↓] theorem execOp_spBuild0 : execOp ρ { dst, op := .build 56 #[], type := ty, pos, after, guard } = spBuild0 := by simp [execOp, spBuild0]
@[go_sem ↓] theorem execOp_heBuild1 (x : Operand) : execOp ρ { dst, op := .build 59 #[(0, x)], type := ty, pos, after, guard } = heBuild1 (ρ x) := by simp [execOp, heBuild1]
@[go_sem ↓] theorem execOp_exBuild1 (x : Operand) : execOp ρ { dst, op := .build 61 #[(0, x)], type := ty, pos, after, guard } = exBuild1 (ρ x) := by simp [execOp, exBuild1]
@[go_sem ↓] theorem execOp_exBuild2 (x y : Operand) : execOp ρ { dst, op := .build 61 #[(0, x), (1, y)], type := ty, pos, after, guard } = exBuild2 (ρ x) (ρ y) := by simp [execOp, exBuild2]
end
@[go_sem] theorem run_spBuild2 (w : World) (a b : Int) : (spBuild2 (.int .i64 a) (.int .i64 b)).run Try.prog w = .ok (.value (.agg (prA (a, b)))) w := by
  simp only [spBuild2, Sem.run_bind]
  rw [run_build w 56 #[(0, .int .i64 a), (1, .int .i64 b)] (prA (a, b)) (by kernel_rfl)]; rfl
@[go_sem] theorem run_spBuild0 (w : World) : (spBuild0).run Try.prog w = .ok (.value (.agg (prA prZ))) w := by
  simp only [spBuild0, Sem.run_bind]
  rw [run_build w 56 #[] (prA prZ) (by kernel_rfl)]; rfl
@[go_sem] theorem run_heBuild1 (w : World) (x : Option Addr) (n c : Nat) : (heBuild1 (.slice x n c)).run Try.prog w = .ok (.value (.agg (heA (.slice x n c)))) w := by
  simp only [heBuild1, Sem.run_bind]
  rw [run_build w 59 #[(0, .slice x n c)] (heA (.slice x n c)) (by kernel_rfl)]; rfl
@[go_sem] theorem run_exBuild1 (w : World) (a b : Int) : (exBuild1 (.agg (prA (a, b)))).run Try.prog w = .ok (.value (.agg (exA a b (.slice none 0 0)))) w := by
  simp only [exBuild1, Sem.run_bind]
  rw [run_build w 61 #[(0, .agg (prA (a, b)))] (exA a b (.slice none 0 0)) (by kernel_rfl)]; rfl
@[go_sem] theorem run_exBuild2 (w : World) (a b : Int) (x : Option Addr) (n c : Nat) : (exBuild2 (.agg (prA (a, b))) (.agg (heA (.slice x n c)))).run Try.prog w = .ok (.value (.agg (exA a b (.slice x n c)))) w := by
  simp only [exBuild2, Sem.run_bind]
  rw [run_build w 61 #[(0, .agg (prA (a, b))), (1, .agg (heA (.slice x n c)))] (exA a b (.slice x n c)) (by kernel_rfl)]; rfl
@[go_sem] theorem prA_g0 (p : Pr) (h : 0 < (prA p).size) : (prA p)[0]'h = .int .i64 p.1 := rfl
@[go_sem] theorem prA_g1 (p : Pr) (h : 1 < (prA p).size) : (prA p)[1]'h = .int .i64 p.2 := rfl
@[go_sem] theorem heA_g0 (v : Value) (h : 0 < (heA v).size) : (heA v)[0]'h = v := rfl
@[go_sem] theorem exA_g0 (a b : Int) (v : Value) (h : 0 < (exA a b v).size) : (exA a b v)[0]'h = .int .i64 a := rfl
@[go_sem] theorem exA_g1 (a b : Int) (v : Value) (h : 1 < (exA a b v).size) : (exA a b v)[1]'h = .int .i64 b := rfl
@[go_sem] theorem exA_g2 (a b : Int) (v : Value) (h : 2 < (exA a b v).size) : (exA a b v)[2]'h = v := rfl
/-! The small ones -/
theorem below_al1 (w : World) (o : Obj) : Below w.heap.size w (w.alloc o) := below_alloc w o
theorem below_al2 (w : World) (o o' : Obj) : Below w.heap.size w ((w.alloc o).alloc o') := (below_alloc w o).trans ((below_alloc _ o').mono (by simp))
theorem before_any (w : World) (s o : Pr) : Calls Try.prog 61 #[.agg (prA s), .agg (prA o)] w fun e w' => e = .returned (.bool (decide (s.1 < o.1))) ∧ Below w.heap.size w w' := by
  go_enter Try.func61, Try.ntmps61
  go_wp2
  go_ret
  exact ⟨rfl, by first | exact below_al1 _ _ | exact below_al2 _ _ _⟩
theorem size_any (w : World) (s : Pr) (h1 : -4611686018427387904 ≤ s.1) (h2 : s.1 ≤ 4611686018427387903) (h3 : -4611686018427387904 ≤ s.2) (h4 : s.2 ≤ 4611686018427387903) : Calls Try.prog 32 #[.agg (prA s)] w fun e w' => e = .returned (.int .i64 (s.2 - s.1)) ∧ Below w.heap.size w w' := by
  have hw : IntKind.i64.wrap (s.2 - s.1) = s.2 - s.1 := by rw [IntKind.wrap_i64]; omega
  go_enter Try.func32, Try.ntmps32
  go_wp2
  go_ret
  exact ⟨by rw [← hw]; rfl, by first | exact below_al1 _ _ | exact below_al2 _ _ _⟩
theorem holds_any (w : World) (s o : Pr) : Calls Try.prog 26 #[.agg (prA s), .agg (prA o)] w fun e w' => e = .returned (.bool (decide (s.1 ≤ o.1 ∧ o.2 ≤ s.2))) ∧ Below w.heap.size w w' := by
  by_cases h1 : s.1 ≤ o.1
  · by_cases h2 : o.2 ≤ s.2
    · go_enter Try.func26, Try.ntmps26
      go_wp2
      go_ret
      exact ⟨by congr 2; simp; omega, by first | exact below_al1 _ _ | exact below_al2 _ _ _⟩
    · go_enter Try.func26, Try.ntmps26
      go_wp2
      go_ret
      exact ⟨by congr 2; simp; omega, by first | exact below_al1 _ _ | exact below_al2 _ _ _⟩
  · go_enter Try.func26, Try.ntmps26
    go_wp2
    go_ret
    exact ⟨by congr 2; simp; omega, by first | exact below_al1 _ _ | exact below_al2 _ _ _⟩
theorem meets_any (w : World) (s o : Pr) : Calls Try.prog 29 #[.agg (prA s), .agg (prA o)] w fun e w' => e = .returned (.bool (decide (s.1 < o.2 ∧ o.1 < s.2))) ∧ Below w.heap.size w w' := by
  by_cases h1 : s.1 < o.2
  · by_cases h2 : o.1 < s.2
    · go_enter Try.func29, Try.ntmps29
      go_wp2
      go_ret
      exact ⟨by congr 2; simp; omega, by first | exact below_al1 _ _ | exact below_al2 _ _ _⟩
    · go_enter Try.func29, Try.ntmps29
      go_wp2
      go_ret
      exact ⟨by congr 2; simp; omega, by first | exact below_al1 _ _ | exact below_al2 _ _ _⟩
  · go_enter Try.func29, Try.ntmps29
    go_wp2
    go_ret
    exact ⟨by congr 2; simp; omega, by first | exact below_al1 _ _ | exact below_al2 _ _ _⟩
end Go.Proofs.Ytafbkdpheneceaa
