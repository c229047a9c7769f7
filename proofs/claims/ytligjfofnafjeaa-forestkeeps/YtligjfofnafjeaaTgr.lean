
import Derived.Test.YtligjfofnafjeaaRowg
import Derived.Test.YtligjfofnafjeaaDig
import Derived.Test.YtligjfofnafjeaaKel
import Derived.Laws.StructEq
namespace Go.Proofs.Ytligjfofnafjeaa
open Go.RowKit

/-! api.Tag and api.Snap: a head and a digest -/
theorem run_equal_dg9t (w : World) (s t : Nat → UInt8) : (Op.equalIn 9999 35 (.agg (dg_secA s)) (.agg (dg_secA t))).run Try.prog w = .ok (dg_secEq s t) w := by
  rw [dg_secA_cells, dg_secA_cells, run_equalIn_bytes w 9997 35 5 32 Try.underlying35 Try.underlying5 dg_sizeE _ _ (by simp) (by simp), dg_beq_secL]
structure Tg where
  nm : ByteArray
  key : Nat → UInt8
def tgA (e : Tg) : Array Value := #[.string e.nm] ++ dg_secA e.key
def tgZ : Tg := ⟨⟨#[]⟩, dg_secZ⟩
@[go_sem] theorem tgA_size (e : Tg) : (tgA e).size = 33 := by unfold tgA; simp
@[go_sem] theorem tgA_one (e : Tg) : OneC (tgA e) = true := by
  unfold OneC
  rw [Array.all_eq_true_iff_forall_mem]
  intro v hv
  simp only [tgA, Array.mem_append] at hv
  rcases hv with hv | hv
  · simp at hv; subst hv; rfl
  · exact Array.all_eq_true_iff_forall_mem.1 (dg_secA_one e.key) v hv
@[go_sem] theorem tgA_0 (e : Tg) : (tgA e)[0]? = some (.string e.nm) := by simp [tgA]
@[go_sem] theorem tgA_at0 (e : Tg) (h : 0 < (tgA e).size) : (tgA e)[0] = .string e.nm := by simp [tgA]
theorem tgA_key (e : Tg) (i : Nat) (h : i < 32) : (tgA e)[1 + i]? = some (.int .u8 ((e.key i).toNat : Int)) := by
  unfold tgA
  rw [Array.getElem?_append_right (by simp)]
  rw [show 1 + i - #[Value.string e.nm].size = i by simp, dg_secA_get e.key i h]
theorem tgA_dig (e : Tg) : (tgA e).extract 1 (1 + 32) = dg_secA e.key := by
  apply Array.ext_getElem?
  intro i
  by_cases hi : i < 32
  · rw [Array.getElem?_extract, if_pos (by rw [tgA_size]; omega), tgA_key e i hi, dg_secA_get e.key i hi]
  · rw [Array.getElem?_eq_none (by simp [tgA_size]; omega), Array.getElem?_eq_none (by simp; omega)]
section
variable (ρ : Operand → Value) (dst : Option Tmp) (ty : TypeId) (pos : String) (after : Array Edge) (guard : Option (Nat × Bool))
end
def tgEq (x y : Tg) : Bool := x.nm.toList == y.nm.toList && (dg_secEq x.key y.key)
section
variable (ρ : Operand → Value) (dst : Option Tmp) (ty ty' : TypeId) (pos : String) (after : Array Edge) (guard : Option (Nat × Bool))
end
theorem tgEq_refl (x : Tg) : tgEq x x = true := by
  unfold tgEq
  simp [(dg_secEq_iff x.key x.key).2 (fun _ _ => rfl)]
def tgP (i : Nat) : Option (Nat × Nat) := ([(0, 1), (1, 32)] : List (Nat × Nat))[i]?
theorem tgPlaces : (Try.prog.info? 9).map (·.size) = some 1 ∧ (Try.prog.info? 35).map (·.size) = some 32 := ⟨by kernel_rfl, by kernel_rfl⟩
theorem fill_tg0 (X : Array Value) (hs : X.size = 33) (a : ByteArray) (ps : List (Nat × Value)) : Instr.fill tgP X ((0, .string a) :: ps) = Instr.fill tgP (X.setIfInBounds 0 (.string a)) ps := by
  have hc : (Value.string a).cells = #[.string a] := rfl
  have hp : tgP 0 = some (0, 1) := rfl
  rw [Instr.fill]
  simp only [hc, hp]
  rw [if_neg (by simp [hs])]
  congr 1
theorem tgA_set0 (e : Tg) (a : ByteArray) : (tgA e).setIfInBounds 0 (.string a) = tgA { e with nm := a } := by
  unfold tgA; rw [Array.setIfInBounds_append_left (by simp)]; rfl
theorem fill_tgK (e : Tg) (d : Nat → UInt8) : Instr.fill tgP (tgA e) [(1, .agg (dg_secA d))] = some (tgA { e with key := d }) := by
  obtain ⟨C, hC⟩ : ∃ q, dg_secA d = q := ⟨_, rfl⟩
  have hC2 : C.size = 32 := by rw [← hC]; simp
  obtain ⟨X, hX⟩ : ∃ q, tgA e = q := ⟨_, rfl⟩
  have hX2 : X.size = 33 := by rw [← hX]; exact tgA_size e
  rw [hC, hX]
  have hc : (Value.agg C).cells = C := rfl
  have hp : tgP 1 = some (1, 32) := rfl
  unfold Instr.fill
  simp only [hc, hp]
  rw [if_neg (by simp [hC2, hX2])]
  unfold Instr.fill
  refine congrArg some ?_
  apply Array.ext_getElem?
  intro i
  rw [blit_get 1 C X i]
  by_cases hi : 1 ≤ i
  · by_cases hj : i < 33
    · rw [if_pos (by omega), ← hC, show i = 1 + (i - 1) by omega, tgA_key _ _ (by omega), show 1 + (i - 1) - 1 = i - 1 by omega, dg_secA_get d _ (by omega)]
    · rw [if_neg (by omega), Array.getElem?_eq_none (by omega), Array.getElem?_eq_none (by rw [tgA_size]; omega)]
  · rw [if_neg (by omega), ← hX]
    obtain rfl : i = 0 := by omega
    rw [tgA_0, tgA_0]
structure Sn where
  id : Int
  pa : Int
  key : Nat → UInt8
def snA (e : Sn) : Array Value := #[.int .u32 e.id, .int .u32 e.pa] ++ dg_secA e.key
def snZ : Sn := ⟨0, 0, dg_secZ⟩
@[go_sem] theorem snA_size (e : Sn) : (snA e).size = 34 := by unfold snA; simp
@[go_sem] theorem snA_one (e : Sn) : OneC (snA e) = true := by
  unfold OneC
  rw [Array.all_eq_true_iff_forall_mem]
  intro v hv
  simp only [snA, Array.mem_append] at hv
  rcases hv with hv | hv
  · simp at hv; rcases hv with rfl | rfl <;> rfl
  · exact Array.all_eq_true_iff_forall_mem.1 (dg_secA_one e.key) v hv
@[go_sem] theorem snA_0 (e : Sn) : (snA e)[0]? = some (.int .u32 e.id) := by simp [snA]
@[go_sem] theorem snA_at0 (e : Sn) (h : 0 < (snA e).size) : (snA e)[0] = .int .u32 e.id := by simp [snA]
@[go_sem] theorem snA_1 (e : Sn) : (snA e)[1]? = some (.int .u32 e.pa) := by simp [snA]
@[go_sem] theorem snA_at1 (e : Sn) (h : 1 < (snA e).size) : (snA e)[1] = .int .u32 e.pa := by simp [snA]
theorem snA_key (e : Sn) (i : Nat) (h : i < 32) : (snA e)[2 + i]? = some (.int .u8 ((e.key i).toNat : Int)) := by
  unfold snA
  rw [Array.getElem?_append_right (by simp)]
  rw [show 2 + i - #[Value.int .u32 e.id, Value.int .u32 e.pa].size = i by simp, dg_secA_get e.key i h]
theorem snA_dig (e : Sn) : (snA e).extract 2 (2 + 32) = dg_secA e.key := by
  apply Array.ext_getElem?
  intro i
  by_cases hi : i < 32
  · rw [Array.getElem?_extract, if_pos (by rw [snA_size]; omega), snA_key e i hi, dg_secA_get e.key i hi]
  · rw [Array.getElem?_eq_none (by simp [snA_size]; omega), Array.getElem?_eq_none (by simp; omega)]
section
variable (ρ : Operand → Value) (dst : Option Tmp) (ty : TypeId) (pos : String) (after : Array Edge) (guard : Option (Nat × Bool))
@[go_sem ↓] theorem execOp_load_sn (x : Operand) : execOp ρ { dst, op := .load 37 x, type := ty, pos, after, guard } = bigLoad 37 (ρ x) := rfl
@[go_sem ↓] theorem execOp_store_sn (x y : Operand) : execOp ρ { dst, op := .store 37 x y, type := ty, pos, after, guard } = bigStore 37 (ρ x) (ρ y) := rfl
@[go_sem ↓] theorem execOp_alloc_sn : execOp ρ { dst, op := .alloc 37, type := ty, pos, after, guard } = bigAlloc 37 := rfl
@[go_sem ↓] theorem execOp_box_sn (x : Operand) : execOp ρ { dst, op := .box 37 x, type := ty, pos, after, guard } = bigBox 37 (ρ x) := rfl
end
theorem info_sn : (Try.prog.info? 37).map (fun i => (i.zero, i.size)) = some (some (.agg (snA snZ)), 34) := by kernel_rfl
theorem sizeT_sn : (Try.prog.info? 37).map (·.size) = some 34 := (zero_of_info info_sn).2
@[go_sem] theorem run_load_sn (w : World) (g : Nat) (h : rowL w g = true) (hs : (rowAt w g).size = 34) : (bigLoad 37 (.pointer (some ⟨g, 0, none⟩))).run Try.prog w = .ok (.value (.agg (rowAt w g))) w := by
  rw [run_bigLoad 37 _ 34 Try.underlying37 rfl sizeT_sn w g 0 h (by omega), Nat.zero_add, Array.extract_eq_self_of_le (by omega)]
@[go_sem] theorem run_store_sn (w : World) (g : Nat) (c : Array Value) (h : rowL w g = true) (hs : (rowAt w g).size = 34) (hc : c.size = 34) (h1 : OneC c = true) : (bigStore 37 (.pointer (some ⟨g, 0, none⟩)) (.agg c)).run Try.prog w = .ok .skip (w.setRow g c) := by
  rw [run_bigStore 37 34 sizeT_sn w g 0 c h hc (by omega) h1, layC_all _ _ (by omega)]
@[go_sem] theorem run_alloc_sn (w : World) : (bigAlloc 37).run Try.prog w = .ok (.value (.pointer (some ⟨w.heap.size, 0, none⟩))) (w.alloc (.cells (snA snZ) 37)) := by
  simp only [bigAlloc, Instr.alloc, Sem.run_bind, (zero_of_info info_sn).1 w, Result.andThen_ok]
  rfl
@[go_sem] theorem run_box_sn (w : World) (c : Array Value) : (bigBox 37 (.agg c)).run Try.prog w = .ok (.value (.pointer (some ⟨w.heap.size, 0, none⟩))) (w.alloc (.cells c 37)) := run_bigBox _ c w
def snEq (x y : Sn) : Bool := x.id == y.id && (x.pa == y.pa && (dg_secEq x.key y.key))
def snBin (op : BinOp) (x y : Operand) (u v : Value) : Sem Next := do pure (.value (← (do eqGuard op 37 x y u v; binOp op 37 u v)))
def snBd_none : Sem Next := do pure (.value (← Instr.build 37 #[]))
def snBd_1 (x : Value) : Sem Next := do pure (.value (← Instr.build 37 #[(1, x)]))
def snBd_012 (x y z : Value) : Sem Next := do pure (.value (← Instr.build 37 #[(0, x), (1, y), (2, z)]))
section
variable (ρ : Operand → Value) (dst : Option Tmp) (ty ty' : TypeId) (pos : String) (after : Array Edge) (guard : Option (Nat × Bool))
@[go_sem ↓] theorem execOp_snBin (op : BinOp) (x y : Operand) : execOp ρ { dst, op := .binOp op 37 x y ty', type := ty, pos, after, guard } = snBin op x y (ρ x) (ρ y) := rfl
@[go_sem ↓] theorem execOp_snBd_none : execOp ρ { dst, op := .build 37 #[], type := ty, pos, after, guard } = snBd_none := by simp [execOp, snBd_none]
@[go_sem ↓] theorem execOp_snBd_1 (x : Operand) : execOp ρ { dst, op := .build 37 #[(1, x)], type := ty, pos, after, guard } = snBd_1 (ρ x) := by simp [execOp, snBd_1]
@[go_sem ↓] theorem execOp_snBd_012 (x y z : Operand) : execOp ρ { dst, op := .build 37 #[(0, x), (1, y), (2, z)], type := ty, pos, after, guard } = snBd_012 (ρ x) (ρ y) (ρ z) := by simp [execOp, snBd_012]
end
theorem run_equal_sn (w : World) (x y : Sn) : (Op.equalIn 10000 37 (.agg (snA x)) (.agg (snA y))).run Try.prog w = .ok (snEq x y) w := by
  have p0 : ∀ (x : Sn) (W : World), (part 33 (snA x) 0).run Try.prog W = .ok (.int .u32 x.id) W := fun x W => by
    unfold part
    simp only [Sem.run_bind, Try.isAgg33, Result.andThen_ok, Bool.false_eq_true, if_false, snA_0, Sem.run_pure]
  have p1 : ∀ (x : Sn) (W : World), (part 33 (snA x) 1).run Try.prog W = .ok (.int .u32 x.pa) W := fun x W => by
    unfold part
    simp only [Sem.run_bind, Try.isAgg33, Result.andThen_ok, Bool.false_eq_true, if_false, snA_1, Sem.run_pure]
  have pk : ∀ (x : Sn) (W : World), (part 35 (snA x) 2).run Try.prog W = .ok (.agg (dg_secA x.key)) W := fun x W => by
    unfold part
    simp only [Sem.run_bind, Try.isAgg35, Result.andThen_ok, if_true, Try.sizeOf35, Sem.run_pure, snA_dig]
  have qu32 : ∀ (a b : Int) (W : World), (Op.equalIn 9999 33 (.int .u32 a) (.int .u32 b)).run Try.prog W = .ok (a == b) W := fun a b W => run_equalIn_int W 9998 33 .u32 .u32 _ _ Try.underlying33
  rw [run_equalIn_struct w 9999 37 _ _ (by kernel_rfl) (by kernel_rfl)]
  simp only [Program.fieldsOf, Try.underlying37]
  simp [Op.eqFields, p0, p1, pk, qu32, run_equal_dg9t, snEq]
  by_cases h0 : x.id = y.id
  · by_cases h1 : x.pa = y.pa
    · cases hk : dg_secEq x.key y.key <;> simp [h0, h1]
    · simp [h0, h1]
  · simp [h0]
theorem eqGuard_sn (w : World) (op : BinOp) (x y : Operand) (xs ys : Array Value) : (eqGuard op 37 x y (.agg xs) (.agg ys)).run Try.prog w = .ok () w :=
  run_eqGuard_agg w op 37 x y xs ys (by kernel_rfl)
@[go_sem] theorem run_snEql (w : World) (x y : Operand) (s t : Sn) : (snBin .eql x y (.agg (snA s)) (.agg (snA t))).run Try.prog w = .ok (.value (.bool (snEq s t))) w := by
  simp only [snBin, Sem.run_bind, eqGuard_sn, Result.andThen_ok]
  rw [run_eql_struct, run_equal_sn]; rfl
@[go_sem] theorem run_snNeq (w : World) (x y : Operand) (s t : Sn) : (snBin .neq x y (.agg (snA s)) (.agg (snA t))).run Try.prog w = .ok (.value (.bool (!snEq s t))) w := by
  simp only [snBin, Sem.run_bind, eqGuard_sn, Result.andThen_ok]
  rw [run_neq_struct, run_equal_sn]; rfl
theorem snEq_refl (x : Sn) : snEq x x = true := by
  unfold snEq
  simp [(dg_secEq_iff x.key x.key).2 (fun _ _ => rfl)]
def snP (i : Nat) : Option (Nat × Nat) := ([(0, 1), (1, 1), (2, 32)] : List (Nat × Nat))[i]?
theorem snPlaces : (Try.prog.info? 33).map (·.size) = some 1 ∧ (Try.prog.info? 35).map (·.size) = some 32 := ⟨by kernel_rfl, by kernel_rfl⟩
theorem built_sn (ps : List (Nat × Value)) : Try.prog.built 37 ps = Instr.fill snP (snA snZ) ps := by
  obtain ⟨i, hi, hzz⟩ := Option.map_eq_some_iff.1 info_sn
  simp only [Prod.mk.injEq] at hzz
  obtain ⟨i0, h0, s0⟩ := Option.map_eq_some_iff.1 snPlaces.1
  obtain ⟨i1, h1, s1⟩ := Option.map_eq_some_iff.1 snPlaces.2
  unfold Program.built
  simp only [hi, Try.underlying37, hzz.1]
  simp [h0, s0, h1, s1, Value.cells]
  rfl
theorem fill_sn0 (X : Array Value) (hs : X.size = 34) (a : Int) (ps : List (Nat × Value)) : Instr.fill snP X ((0, .int .u32 a) :: ps) = Instr.fill snP (X.setIfInBounds 0 (.int .u32 a)) ps := by
  have hc : (Value.int .u32 a).cells = #[.int .u32 a] := rfl
  have hp : snP 0 = some (0, 1) := rfl
  rw [Instr.fill]
  simp only [hc, hp]
  rw [if_neg (by simp [hs])]
  congr 1
theorem snA_set0 (e : Sn) (a : Int) : (snA e).setIfInBounds 0 (.int .u32 a) = snA { e with id := a } := by
  unfold snA; rw [Array.setIfInBounds_append_left (by simp)]; rfl
theorem fill_sn1 (X : Array Value) (hs : X.size = 34) (a : Int) (ps : List (Nat × Value)) : Instr.fill snP X ((1, .int .u32 a) :: ps) = Instr.fill snP (X.setIfInBounds 1 (.int .u32 a)) ps := by
  have hc : (Value.int .u32 a).cells = #[.int .u32 a] := rfl
  have hp : snP 1 = some (1, 1) := rfl
  rw [Instr.fill]
  simp only [hc, hp]
  rw [if_neg (by simp [hs])]
  congr 1
theorem snA_set1 (e : Sn) (a : Int) : (snA e).setIfInBounds 1 (.int .u32 a) = snA { e with pa := a } := by
  unfold snA; rw [Array.setIfInBounds_append_left (by simp)]; rfl
theorem fill_snK (e : Sn) (d : Nat → UInt8) : Instr.fill snP (snA e) [(2, .agg (dg_secA d))] = some (snA { e with key := d }) := by
  obtain ⟨C, hC⟩ : ∃ q, dg_secA d = q := ⟨_, rfl⟩
  have hC2 : C.size = 32 := by rw [← hC]; simp
  obtain ⟨X, hX⟩ : ∃ q, snA e = q := ⟨_, rfl⟩
  have hX2 : X.size = 34 := by rw [← hX]; exact snA_size e
  rw [hC, hX]
  have hc : (Value.agg C).cells = C := rfl
  have hp : snP 2 = some (2, 32) := rfl
  unfold Instr.fill
  simp only [hc, hp]
  rw [if_neg (by simp [hC2, hX2])]
  unfold Instr.fill
  refine congrArg some ?_
  apply Array.ext_getElem?
  intro i
  rw [blit_get 2 C X i]
  by_cases hi : 2 ≤ i
  · by_cases hj : i < 34
    · rw [if_pos (by omega), ← hC, show i = 2 + (i - 2) by omega, snA_key _ _ (by omega), show 2 + (i - 2) - 2 = i - 2 by omega, dg_secA_get d _ (by omega)]
    · rw [if_neg (by omega), Array.getElem?_eq_none (by omega), Array.getElem?_eq_none (by rw [snA_size]; omega)]
  · rw [if_neg (by omega), ← hX]
    rcases (by omega : i = 0 ∨ i = 1) with rfl | rfl
    · rw [snA_0, snA_0]
    · rw [snA_1, snA_1]
@[go_sem] theorem run_snBd_none (w : World) : (snBd_none ).run Try.prog w = .ok (.value (.agg (snA ⟨0, 0, dg_secZ⟩))) w := by
  simp only [snBd_none, Sem.run_bind]
  rw [run_build w 37 _ (snA ⟨0, 0, dg_secZ⟩) (by
    rw [built_sn]
    show Instr.fill snP _ [] = _
    skip
    rfl)]
  rfl
@[go_sem] theorem run_snBd_1 (w : World) (a : Int) : (snBd_1 (.int .u32 a)).run Try.prog w = .ok (.value (.agg (snA ⟨0, a, dg_secZ⟩))) w := by
  simp only [snBd_1, Sem.run_bind]
  rw [run_build w 37 _ (snA ⟨0, a, dg_secZ⟩) (by
    rw [built_sn]
    show Instr.fill snP _ [(1, .int .u32 a)] = _
    rw [fill_sn1 _ (snA_size _), snA_set1]
    rfl)]
  rfl
@[go_sem] theorem run_snBd_012 (w : World) (a : Int) (b : Int) (d : Nat → UInt8) : (snBd_012 (.int .u32 a) (.int .u32 b) (.agg (dg_secA d))).run Try.prog w = .ok (.value (.agg (snA ⟨a, b, d⟩))) w := by
  simp only [snBd_012, Sem.run_bind]
  rw [run_build w 37 _ (snA ⟨a, b, d⟩) (by
    rw [built_sn]
    show Instr.fill snP _ [(0, .int .u32 a), (1, .int .u32 b), (2, .agg (dg_secA d))] = _
    rw [fill_sn0 _ (snA_size _), snA_set0, fill_sn1 _ (snA_size _), snA_set1]
    rw [fill_snK])]
  rfl
end Go.Proofs.Ytligjfofnafjeaa
