import Derived.Test.YtafbkdpheneceaaQNum
import Derived.Test.YtafbkdpheneceaaQKel
import Derived.Test.YtafbkdpheneceaaQDev1
import Derived.Laws.StructEq
namespace Go.Proofs.Ytafbkdpheneceaa
open Go.RowKit

/-! [2]int: pairs of numbers, and slices of them -/
abbrev Pr := Int × Int
def prA (p : Pr) : Array Value := #[.int .i64 p.1, .int .i64 p.2]
def prZ : Pr := (0, 0)
@[go_sem] theorem prA_size (p : Pr) : (prA p).size = 2 := by unfold prA; simp
@[go_sem] theorem prA_one (p : Pr) : OneC (prA p) = true := by simp [OneC, prA, Value.oneCell']
theorem prA_0 (p : Pr) : (prA p)[0]? = some (.int .i64 p.1) := by unfold prA; simp
theorem prA_1 (p : Pr) : (prA p)[1]? = some (.int .i64 p.2) := by unfold prA; simp
section
variable (ρ : Operand → Value) (dst : Option Tmp) (ty : TypeId) (pos : String) (after : Array Edge) (guard : Option (Nat × Bool))
@[go_sem ↓] theorem execOp_load_pr (x : Operand) : execOp ρ { dst, op := .load 33 x, type := ty, pos, after, guard } = bigLoad 33 (ρ x) := rfl
@[go_sem ↓] theorem execOp_store_pr (x y : Operand) : execOp ρ { dst, op := .store 33 x y, type := ty, pos, after, guard } = bigStore 33 (ρ x) (ρ y) := rfl
@[go_sem ↓] theorem execOp_alloc_pr : execOp ρ { dst, op := .alloc 33, type := ty, pos, after, guard } = bigAlloc 33 := rfl
@[go_sem ↓] theorem execOp_box_pr (x : Operand) : execOp ρ { dst, op := .box 33 x, type := ty, pos, after, guard } = bigBox 33 (ρ x) := rfl
end
theorem info_pr : (Try.prog.info? 33).map (fun i => (i.zero, i.size)) = some (some (.agg (prA prZ)), 2) := by kernel_rfl
theorem sizeT_pr : (Try.prog.info? 33).map (·.size) = some 2 := (zero_of_info info_pr).2
@[go_sem] theorem run_load_pr (w : World) (g : Nat) (h : rowL w g = true) (hs : (rowAt w g).size = 2) : (bigLoad 33 (.pointer (some ⟨g, 0, none⟩))).run Try.prog w = .ok (.value (.agg (rowAt w g))) w := by
  rw [run_bigLoad 33 _ 2 Try.underlying33 rfl sizeT_pr w g 0 h (by omega), Nat.zero_add, Array.extract_eq_self_of_le (by omega)]
@[go_sem] theorem run_store_pr (w : World) (g : Nat) (c : Array Value) (h : rowL w g = true) (hs : (rowAt w g).size = 2) (hc : c.size = 2) (h1 : OneC c = true) : (bigStore 33 (.pointer (some ⟨g, 0, none⟩)) (.agg c)).run Try.prog w = .ok .skip (w.setRow g c) := by
  rw [run_bigStore 33 2 sizeT_pr w g 0 c h hc (by omega) h1, layC_all _ _ (by omega)]
@[go_sem] theorem run_alloc_pr (w : World) : (bigAlloc 33).run Try.prog w = .ok (.value (.pointer (some ⟨w.heap.size, 0, none⟩))) (w.alloc (.cells (prA prZ) 33)) := by
  simp only [bigAlloc, Instr.alloc, Sem.run_bind, (zero_of_info info_pr).1 w, Result.andThen_ok]
  rfl
@[go_sem] theorem run_box_pr (w : World) (c : Array Value) : (bigBox 33 (.agg c)).run Try.prog w = .ok (.value (.pointer (some ⟨w.heap.size, 0, none⟩))) (w.alloc (.cells c 33)) := run_bigBox _ c w
@[go_sem] theorem run_pr_mid (w : World) (b o : Nat) (h : rgOk w b o 2 = true) : (bigLoad 33 (.pointer (some ⟨b, o, none⟩))).run Try.prog w = .ok (.value (.agg (rg w b o 2))) w := by
  simp only [bigLoad, Sem.run_bind]
  rw [run_loadAt_mid w b o 33 _ _ (rangeAt_rg h) Try.underlying33 rfl (by rw [sizeT_pr, Array.length_toList, rg_size])]
  rfl
def prE : EK Pr := { T := 33, S := 31, k := 2, bytes := 16, z := .agg (prA prZ), enc := fun p => (prA p).toList }
theorem prE_enc (p : Pr) : prE.enc p = (prA p).toList := by simp only [prE]
theorem prE_arr (p : Pr) : (prE.enc p).toArray = prA p := by rw [prE_enc, Array.toArray_toList]
theorem prE_k : prE.k = 2 := rfl
theorem prE_ok : prE.Ok where
  len x := by rw [prE_enc, Array.length_toList, prA_size]; rfl
  one x v hv := by
    have h := prA_one x
    unfold OneC at h
    exact Array.all_eq_true_iff_forall_mem.1 h v (by rw [prE_enc] at hv; simpa using hv)
  und := Try.underlying31
  info := by
    have h : (Try.prog.info? 33).map (fun i => (i.zero, i.size, i.bytes)) = some (some (.agg (prA prZ)), 2, 16) := by kernel_rfl
    exact h
  zc := by show (prA prZ).size = 2; simp [prA]
  kp := by show 0 < 2; omega
  row := ⟨_, Try.underlying33, rfl⟩
/-! == of pairs; pairs built -/
def prEq (x y : Pr) : Bool := x.1 == y.1 && x.2 == y.2
theorem prEq_dec (x y : Pr) : prEq x y = decide (x = y) := by
  rw [Bool.eq_iff_iff]
  simp [prEq, Prod.ext_iff]
def prBin (op : BinOp) (x y : Operand) (u v : Value) : Sem Next := do pure (.value (← (do eqGuard op 33 x y u v; binOp op 33 u v)))
def prBuild2 (x y : Value) : Sem Next := do pure (.value (← Instr.build 33 #[(0, x), (1, y)]))
section
variable (ρ : Operand → Value) (dst : Option Tmp) (ty ty' : TypeId) (pos : String) (after : Array Edge) (guard : Option (Nat × Bool))
@[go_sem ↓] theorem execOp_prBin (op : BinOp) (x y : Operand) : execOp ρ { dst, op := .binOp op 33 x y ty', type := ty, pos, after, guard } = prBin op x y (ρ x) (ρ y) := rfl
@[go_sem ↓] theorem execOp_prBuild2 (x y : Operand) : execOp ρ { dst, op := .build 33 #[(0, x), (1, y)], type := ty, pos, after, guard } = prBuild2 (ρ x) (ρ y) := by simp [execOp, prBuild2]
end
theorem run_equal_pr (w : World) (x y : Pr) : (Op.equalIn 10000 33 (.agg (prA x)) (.agg (prA y))).run Try.prog w = .ok (prEq x y) w := by
  have p0 : ∀ (x : Pr) (W : World), (part 3 (prA x) 0).run Try.prog W = .ok (.int .i64 x.1) W := fun x W => by
    unfold part
    simp only [Sem.run_bind, Try.isAgg3, Result.andThen_ok, Bool.false_eq_true, if_false, prA_0, Sem.run_pure]
  have p1 : ∀ (x : Pr) (W : World), (part 3 (prA x) 1).run Try.prog W = .ok (.int .i64 x.2) W := fun x W => by
    unfold part
    simp only [Sem.run_bind, Try.isAgg3, Result.andThen_ok, Bool.false_eq_true, if_false, prA_1, Sem.run_pure]
  have p9 : ∀ (a b : Int) (W : World), (Op.equalIn 9999 3 (.int .i64 a) (.int .i64 b)).run Try.prog W = .ok (a == b) W := fun a b W => run_equalIn_int W 9998 3 .i64 .i64 _ _ Try.underlying3
  have hsz : ∀ W, (sizeOf 3).run Try.prog W = .ok 1 W := fun W => by simp [go_sem]
  rw [Op.equalIn]
  simp only [Sem.run_bind, run_underlying Try.underlying33, Result.andThen_ok, hsz, Std.Legacy.Range.forIn_eq_forIn_range', Std.Legacy.Range.size, Nat.sub_zero, Nat.add_sub_cancel, Nat.div_one]
  simp [List.range', p0, p1, p9, prEq]
  by_cases h0 : x.1 = y.1
  · by_cases h1 : x.2 = y.2
    · simp [h0, h1]
    · simp [h0, h1]
  · simp [h0]
theorem eqGuard_pr (w : World) (op : BinOp) (x y : Operand) (xs ys : Array Value) : (eqGuard op 33 x y (.agg xs) (.agg ys)).run Try.prog w = .ok () w :=
  run_eqGuard_agg w op 33 x y xs ys (by kernel_rfl)
@[go_sem] theorem run_prEql (w : World) (x y : Operand) (s t : Pr) : (prBin .eql x y (.agg (prA s)) (.agg (prA t))).run Try.prog w = .ok (.value (.bool (prEq s t))) w := by
  simp only [prBin, Sem.run_bind, eqGuard_pr, Result.andThen_ok]
  rw [run_eql_struct, run_equal_pr]; rfl
@[go_sem] theorem run_prNeq (w : World) (x y : Operand) (s t : Pr) : (prBin .neq x y (.agg (prA s)) (.agg (prA t))).run Try.prog w = .ok (.value (.bool (!prEq s t))) w := by
  simp only [prBin, Sem.run_bind, eqGuard_pr, Result.andThen_ok]
  rw [run_neq_struct, run_equal_pr]; rfl
@[go_sem] theorem run_prBuild2 (w : World) (a b : Int) : (prBuild2 (.int .i64 a) (.int .i64 b)).run Try.prog w = .ok (.value (.agg (prA (a, b)))) w := by
  simp only [prBuild2, Sem.run_bind]
  rw [run_build w 33 #[(0, .int .i64 a), (1, .int .i64 b)] (prA (a, b)) (by kernel_rfl)]; rfl
/-! []([2]int){p}, {p, q} -/
def prLit1 (x : Value) : Sem Next := do pure (.value (← Instr.buildSlice 31 1 #[(0, x)]))
def prLit2 (x y : Value) : Sem Next := do pure (.value (← Instr.buildSlice 31 2 #[(0, x), (1, y)]))
section
variable (ρ : Operand → Value) (dst : Option Tmp) (ty : TypeId) (pos : String) (after : Array Edge) (guard : Option (Nat × Bool))
@[go_sem ↓] theorem execOp_prLit1 (x : Operand) : execOp ρ { dst, op := .buildSlice 31 1 #[(0, x)], type := ty, pos, after, guard } = prLit1 (ρ x) := by simp [execOp, prLit1]
@[go_sem ↓] theorem execOp_prLit2 (x y : Operand) : execOp ρ { dst, op := .buildSlice 31 2 #[(0, x), (1, y)], type := ty, pos, after, guard } = prLit2 (ρ x) (ρ y) := by simp [execOp, prLit2]
end
@[go_sem] theorem run_prLit1 (w : World) (p : Pr) : (prLit1 (.agg (prA p))).run Try.prog w = .ok (.value (.slice (some ⟨w.heap.size, 0, none⟩) 1 1)) (w.alloc (.cells (prA p) 33)) := by
  have h := run_litK1 prE_ok (by show 2 ≤ 1000; omega) w p
  rw [prE_arr] at h
  have h' : (Instr.buildSlice 31 1 #[(0, .agg (prA p))]).run Try.prog w = .ok (.slice (some ⟨w.heap.size, 0, none⟩) 1 1) (w.alloc (.cells (prA p) 33)) := h
  simp only [prLit1, Sem.run_bind, h', Result.andThen_ok]; rfl
def pr2 (p q : Pr) : Array Value := (flK prE [p, q]).toArray
@[go_sem] theorem run_prLit2 (w : World) (p q : Pr) : (prLit2 (.agg (prA p)) (.agg (prA q))).run Try.prog w = .ok (.value (.slice (some ⟨w.heap.size, 0, none⟩) 2 2)) (w.alloc (.cells (pr2 p q) 33)) := by
  obtain ⟨i, hi, hzz⟩ := Option.map_eq_some_iff.1 prE_ok.info
  simp only [Prod.mk.injEq] at hzz
  obtain ⟨hz, hs, hby⟩ := hzz
  have hs2 : i.size = 2 := hs
  have h' : (Instr.buildSlice 31 2 #[(0, .agg (prA p)), (1, .agg (prA q))]).run Try.prog w = .ok (.slice (some ⟨w.heap.size, 0, none⟩) 2 2) (w.alloc (.cells (pr2 p q) 33)) :=
    run_buildSlice (P := Try.prog) w 31 33 2 _ _ i _ Try.underlying31 hi hz (by rw [hs2]; omega) (by rw [hs2]; omega) (by rw [hs2]; kernel_rfl)
  simp only [prLit2, Sem.run_bind, h', Result.andThen_ok]; rfl
theorem own_pr2 (w : World) (p q : Pr) : OwnK prE (w.alloc (.cells (pr2 p q) 33)) w.heap.size (.slice (some ⟨w.heap.size, 0, none⟩) 2 2) [p, q] := OwnK.lit prE_ok w [p, q] (by show 2 ≤ maxLen; decide)
theorem own_pr1 (w : World) (p : Pr) : OwnK prE (w.alloc (.cells (prA p) 33)) w.heap.size (.slice (some ⟨w.heap.size, 0, none⟩) 1 1) [p] := by
  have := OwnK.lit1 prE_ok w p
  rwa [prE_arr] at this
end Go.Proofs.Ytafbkdpheneceaa
