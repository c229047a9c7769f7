import Derived.Test.YtalnbddkhojjbaaGreatDoorQNum
import Derived.Test.YtalnbddkhojjbaaGreatDoorQApp
import Derived.Laws.StructEq
namespace Go.Proofs.YtalnbddkhojjbaaGreatDoor
open Go.RowKit

theorem run_equal_dg9d (w : World) (s t : Nat → UInt8) : (Op.equalIn 9999 33 (.agg (dg_secA s)) (.agg (dg_secA t))).run Tryz.prog w = .ok (dg_secEq s t) w := by
  rw [dg_secA_cells, dg_secA_cells, run_equalIn_bytes w 9997 33 5 32 Tryz.underlying33 Tryz.underlying5 dg_sizeE _ _ (by simp) (by simp), dg_beq_secL]
structure Dc where
  key : Nat → UInt8
  size : Int
def dcA (e : Dc) : Array Value := dg_secA e.key ++ #[.int .i64 e.size]
def dcZ : Dc := ⟨dg_secZ, 0⟩
@[go_sem] theorem dcA_size (e : Dc) : (dcA e).size = 33 := by unfold dcA; simp
@[go_sem] theorem dcA_one (e : Dc) : OneC (dcA e) = true := by
  unfold OneC
  rw [Array.all_eq_true_iff_forall_mem]
  intro v hv
  simp only [dcA, Array.mem_append] at hv
  rcases hv with hv | hv
  · exact Array.all_eq_true_iff_forall_mem.1 (dg_secA_one e.key) v hv
  · simp at hv; subst hv; rfl
@[go_sem] theorem dcA_32 (e : Dc) : (dcA e)[32]? = some (.int .i64 e.size) := by
  unfold dcA
  rw [Array.getElem?_append_right (by simp)]
  simp
theorem dcA_key (e : Dc) (i : Nat) (h : i < 32) : (dcA e)[i]? = some (.int .u8 ((e.key i).toNat : Int)) := by
  unfold dcA
  rw [Array.getElem?_append_left (by simp; omega), dg_secA_get e.key i h]
theorem dcA_dig (e : Dc) : (dcA e).extract 0 (0 + 32) = dg_secA e.key := by
  apply Array.ext_getElem?
  intro i
  by_cases hi : i < 32
  · rw [Array.getElem?_extract, if_pos (by rw [dcA_size]; omega), Nat.zero_add, dcA_key e i hi, dg_secA_get e.key i hi]
  · rw [Array.getElem?_eq_none (by simp [dcA_size]; omega), Array.getElem?_eq_none (by simp; omega)]
section
variable (ρ : Operand → Value) (dst : Option Tmp) (ty : TypeId) (pos : String) (after : Array Edge) (guard : Option (Nat × Bool))
@[go_sem ↓] theorem execOp_load_dc (x : Operand) : execOp ρ { dst, op := .load 35 x, type := ty, pos, after, guard } = bigLoad 35 (ρ x) := rfl
@[go_sem ↓] theorem execOp_store_dc (x y : Operand) : execOp ρ { dst, op := .store 35 x y, type := ty, pos, after, guard } = bigStore 35 (ρ x) (ρ y) := rfl
@[go_sem ↓] theorem execOp_alloc_dc : execOp ρ { dst, op := .alloc 35, type := ty, pos, after, guard } = bigAlloc 35 := rfl
@[go_sem ↓] theorem execOp_box_dc (x : Operand) : execOp ρ { dst, op := .box 35 x, type := ty, pos, after, guard } = bigBox 35 (ρ x) := rfl
end
theorem info_dc : (Tryz.prog.info? 35).map (fun i => (i.zero, i.size)) = some (some (.agg (dcA dcZ)), 33) := by kernel_rfl
theorem sizeT_dc : (Tryz.prog.info? 35).map (·.size) = some 33 := (zero_of_info info_dc).2
@[go_sem] theorem run_load_dc (w : World) (g : Nat) (h : rowL w g = true) (hs : (rowAt w g).size = 33) : (bigLoad 35 (.pointer (some ⟨g, 0, none⟩))).run Tryz.prog w = .ok (.value (.agg (rowAt w g))) w := by
  rw [run_bigLoad 35 _ 33 Tryz.underlying35 rfl sizeT_dc w g 0 h (by omega), Nat.zero_add, Array.extract_eq_self_of_le (by omega)]
@[go_sem] theorem run_store_dc (w : World) (g : Nat) (c : Array Value) (h : rowL w g = true) (hs : (rowAt w g).size = 33) (hc : c.size = 33) (h1 : OneC c = true) : (bigStore 35 (.pointer (some ⟨g, 0, none⟩)) (.agg c)).run Tryz.prog w = .ok .skip (w.setRow g c) := by
  rw [run_bigStore 35 33 sizeT_dc w g 0 c h hc (by omega) h1, layC_all _ _ (by omega)]
@[go_sem] theorem run_alloc_dc (w : World) : (bigAlloc 35).run Tryz.prog w = .ok (.value (.pointer (some ⟨w.heap.size, 0, none⟩))) (w.alloc (.cells (dcA dcZ) 35)) := by
  simp only [bigAlloc, Instr.alloc, Sem.run_bind, (zero_of_info info_dc).1 w, Result.andThen_ok]
  rfl
@[go_sem] theorem run_box_dc (w : World) (c : Array Value) : (bigBox 35 (.agg c)).run Tryz.prog w = .ok (.value (.pointer (some ⟨w.heap.size, 0, none⟩))) (w.alloc (.cells c 35)) := run_bigBox _ c w
def dcEq (x y : Dc) : Bool := dg_secEq x.key y.key && x.size == y.size
def dcBin (op : BinOp) (x y : Operand) (u v : Value) : Sem Next := do pure (.value (← (do eqGuard op 35 x y u v; binOp op 35 u v)))
def dcBd_none : Sem Next := do pure (.value (← Instr.build 35 #[]))
def dcBd_1 (x : Value) : Sem Next := do pure (.value (← Instr.build 35 #[(1, x)]))
def dcBd_01 (x y : Value) : Sem Next := do pure (.value (← Instr.build 35 #[(0, x), (1, y)]))
section
variable (ρ : Operand → Value) (dst : Option Tmp) (ty ty' : TypeId) (pos : String) (after : Array Edge) (guard : Option (Nat × Bool))
@[go_sem ↓] theorem execOp_dcBin (op : BinOp) (x y : Operand) : execOp ρ { dst, op := .binOp op 35 x y ty', type := ty, pos, after, guard } = dcBin op x y (ρ x) (ρ y) := rfl
@[go_sem ↓] theorem execOp_dcBd_none : execOp ρ { dst, op := .build 35 #[], type := ty, pos, after, guard } = dcBd_none := by simp [execOp, dcBd_none]
@[go_sem ↓] theorem execOp_dcBd_1 (x : Operand) : execOp ρ { dst, op := .build 35 #[(1, x)], type := ty, pos, after, guard } = dcBd_1 (ρ x) := by simp [execOp, dcBd_1]
@[go_sem ↓] theorem execOp_dcBd_01 (x y : Operand) : execOp ρ { dst, op := .build 35 #[(0, x), (1, y)], type := ty, pos, after, guard } = dcBd_01 (ρ x) (ρ y) := by simp [execOp, dcBd_01]
end
theorem run_equal_dc (w : World) (x y : Dc) : (Op.equalIn 10000 35 (.agg (dcA x)) (.agg (dcA y))).run Tryz.prog w = .ok (dcEq x y) w := by
  have p1 : ∀ (x : Dc) (W : World), (part 3 (dcA x) 32).run Tryz.prog W = .ok (.int .i64 x.size) W := fun x W => by
    unfold part
    simp only [Sem.run_bind, Tryz.isAgg3, Result.andThen_ok, Bool.false_eq_true, if_false, dcA_32, Sem.run_pure]
  have pk : ∀ (x : Dc) (W : World), (part 33 (dcA x) 0).run Tryz.prog W = .ok (.agg (dg_secA x.key)) W := fun x W => by
    unfold part
    simp only [Sem.run_bind, Tryz.isAgg33, Result.andThen_ok, if_true, Tryz.sizeOf33, Sem.run_pure, dcA_dig]
  have qint : ∀ (a b : Int) (W : World), (Op.equalIn 9999 3 (.int .i64 a) (.int .i64 b)).run Tryz.prog W = .ok (a == b) W := fun a b W => run_equalIn_int W 9998 3 .i64 .i64 _ _ Tryz.underlying3
  rw [run_equalIn_struct w 9999 35 _ _ (by kernel_rfl) (by kernel_rfl)]
  simp only [Program.fieldsOf, Tryz.underlying35]
  simp [Op.eqFields, p1, pk, qint, run_equal_dg9d, dcEq]
  cases hk : dg_secEq x.key y.key
  · simp
  · by_cases h1 : x.size = y.size
    · simp [h1]
    · simp [h1]
theorem eqGuard_dc (w : World) (op : BinOp) (x y : Operand) (xs ys : Array Value) : (eqGuard op 35 x y (.agg xs) (.agg ys)).run Tryz.prog w = .ok () w :=
  run_eqGuard_agg w op 35 x y xs ys (by kernel_rfl)
@[go_sem] theorem run_dcNeq (w : World) (x y : Operand) (s t : Dc) : (dcBin .neq x y (.agg (dcA s)) (.agg (dcA t))).run Tryz.prog w = .ok (.value (.bool (!dcEq s t))) w := by
  simp only [dcBin, Sem.run_bind, eqGuard_dc, Result.andThen_ok]
  rw [run_neq_struct, run_equal_dc]; rfl
theorem dcEq_refl (x : Dc) : dcEq x x = true := by
  unfold dcEq
  simp [(dg_secEq_iff x.key x.key).2 (fun _ _ => rfl)]
def dcP (i : Nat) : Option (Nat × Nat) := ([(0, 32), (32, 1)] : List (Nat × Nat))[i]?
theorem dcPlaces : (Tryz.prog.info? 3).map (·.size) = some 1 ∧ (Tryz.prog.info? 33).map (·.size) = some 32 := ⟨by kernel_rfl, by kernel_rfl⟩
theorem built_dc (ps : List (Nat × Value)) : Tryz.prog.built 35 ps = Instr.fill dcP (dcA dcZ) ps := by
  obtain ⟨i, hi, hzz⟩ := Option.map_eq_some_iff.1 info_dc
  simp only [Prod.mk.injEq] at hzz
  obtain ⟨i0, h0, s0⟩ := Option.map_eq_some_iff.1 dcPlaces.1
  obtain ⟨i1, h1, s1⟩ := Option.map_eq_some_iff.1 dcPlaces.2
  unfold Program.built
  simp only [hi, Tryz.underlying35, hzz.1]
  simp [h0, s0, h1, s1, Value.cells]
  rfl
theorem fill_dc1 (X : Array Value) (hs : X.size = 33) (a : Int) (ps : List (Nat × Value)) : Instr.fill dcP X ((1, .int .i64 a) :: ps) = Instr.fill dcP (X.setIfInBounds 32 (.int .i64 a)) ps := by
  have hc : (Value.int .i64 a).cells = #[.int .i64 a] := rfl
  have hp : dcP 1 = some (32, 1) := rfl
  rw [Instr.fill]
  simp only [hc, hp]
  rw [if_neg (by simp [hs])]
  congr 1
theorem dcA_set1 (e : Dc) (a : Int) : (dcA e).setIfInBounds 32 (.int .i64 a) = dcA { e with size := a } := by
  unfold dcA
  rw [Array.setIfInBounds_append_right (by simp)]
  simp
theorem fill_dcK (e : Dc) (d : Nat → UInt8) (ps : List (Nat × Value)) : Instr.fill dcP (dcA e) ((0, .agg (dg_secA d)) :: ps) = Instr.fill dcP (dcA { e with key := d }) ps := by
  obtain ⟨C, hC⟩ : ∃ q, dg_secA d = q := ⟨_, rfl⟩
  have hC2 : C.size = 32 := by rw [← hC]; simp
  obtain ⟨X, hX⟩ : ∃ q, dcA e = q := ⟨_, rfl⟩
  have hX2 : X.size = 33 := by rw [← hX]; exact dcA_size e
  rw [hC, hX]
  have hc : (Value.agg C).cells = C := rfl
  have hp : dcP 0 = some (0, 32) := rfl
  rw [Instr.fill]
  simp only [hc, hp]
  rw [if_neg (by simp [hC2, hX2])]
  refine congrArg (fun q => Instr.fill dcP q ps) ?_
  apply Array.ext_getElem?
  intro i
  rw [blit_get 0 C X i]
  by_cases hj : i < 32
  · rw [if_pos (by omega), Nat.sub_zero, ← hC, dcA_key _ _ hj, dg_secA_get d _ hj]
  · rw [if_neg (by omega), ← hX]
    by_cases h3 : i = 32
    · subst h3; rw [dcA_32, dcA_32]
    · rw [Array.getElem?_eq_none (by rw [dcA_size]; omega), Array.getElem?_eq_none (by rw [dcA_size]; omega)]
@[go_sem] theorem run_dcBd_none (w : World) : dcBd_none.run Tryz.prog w = .ok (.value (.agg (dcA dcZ))) w := by
  simp only [dcBd_none, Sem.run_bind]
  rw [run_build w 35 _ (dcA dcZ) (by
    rw [built_dc]
    show Instr.fill dcP _ [] = _
    rfl)]
  rfl
@[go_sem] theorem run_dcBd_1 (w : World) (a : Int) : (dcBd_1 (.int .i64 a)).run Tryz.prog w = .ok (.value (.agg (dcA ⟨dg_secZ, a⟩))) w := by
  simp only [dcBd_1, Sem.run_bind]
  rw [run_build w 35 _ (dcA ⟨dg_secZ, a⟩) (by
    rw [built_dc]
    show Instr.fill dcP _ [(1, .int .i64 a)] = _
    rw [fill_dc1 _ (dcA_size _), dcA_set1]
    rfl)]
  rfl
@[go_sem] theorem run_dcBd_01 (w : World) (d : Nat → UInt8) (a : Int) : (dcBd_01 (.agg (dg_secA d)) (.int .i64 a)).run Tryz.prog w = .ok (.value (.agg (dcA ⟨d, a⟩))) w := by
  simp only [dcBd_01, Sem.run_bind]
  rw [run_build w 35 _ (dcA ⟨d, a⟩) (by
    rw [built_dc]
    show Instr.fill dcP _ [(0, .agg (dg_secA d)), (1, .int .i64 a)] = _
    rw [fill_dcK, fill_dc1 _ (dcA_size _), dcA_set1]
    rfl)]
  rfl
def dcE : EK Dc := { T := 35, S := 22, k := 33, bytes := 40, z := .agg (dcA dcZ), enc := fun e => (dcA e).toList }
theorem dcE_ok : dcE.Ok where
  len x := by simp [dcE, dcA_size]
  one x v hv := Array.all_eq_true_iff_forall_mem.1 (dcA_one x) v (by simpa [dcE] using hv)
  und := Tryz.underlying22
  info := by
    have h : (Tryz.prog.info? 35).map (fun i => (i.zero, i.size, i.bytes)) = some (some (.agg (dcA dcZ)), 33, 40) := by kernel_rfl
    exact h
  zc := by show (dcA dcZ).size = 33; rw [dcA_size]
  kp := by show 0 < 33; omega
  row := ⟨_, Tryz.underlying35, rfl⟩
@[go_sem] theorem run_dc_mid (w : World) (b o : Nat) (h : rgOk w b o 33 = true) : (bigLoad 35 (.pointer (some ⟨b, o, none⟩))).run Tryz.prog w = .ok (.value (.agg (rg w b o 33))) w := by
  simp only [bigLoad, Sem.run_bind]
  rw [run_loadAt_mid w b o 35 _ _ (rangeAt_rg h) Tryz.underlying35 rfl (by rw [sizeT_dc, Array.length_toList, rg_size])]
  rfl
theorem sizeT_dgd : (Tryz.prog.info? 33).map (·.size) = some 32 := by kernel_rfl
@[go_sem] theorem run_dgd_mid (w : World) (b o : Nat) (h : rgOk w b o 32 = true) : (dg_secLoad (.pointer (some ⟨b, o, none⟩))).run Tryz.prog w = .ok (.value (.agg (rg w b o 32))) w := by
  simp only [dg_secLoad, Sem.run_bind]
  rw [run_loadAt_mid w b o 33 _ _ (rangeAt_rg h) Tryz.underlying33 rfl (by rw [sizeT_dgd, Array.length_toList, rg_size])]
  rfl
theorem dcCells {w : World} {x : Option Addr} {n c : Nat} {l : List Dc} (h : IsK dcE w (.slice x n c) l) (i : Nat) (d : Dc) (hi : l[i]? = some d) : ∃ g o, x = some ⟨g, o, none⟩ ∧ g < w.heap.size ∧ rgOk w g (o + i * 33) 33 = true ∧ rg w g (o + i * 33) 33 = dcA d ∧ rgOk w g (o + i * 33) 32 = true ∧ rg w g (o + i * 33) 32 = dg_secA d.key ∧ w.cell? ⟨g, o + i * 33 + 32, none⟩ = some (.int .i64 d.size) := by
  obtain ⟨g, o, e, hg, hr⟩ := h.at i d hi
  have e1 : dcE.enc d = (dcA d).toList := by simp only [dcE]
  have e2 : dcE.k = 33 := rfl
  rw [e2, e1] at hr
  have h1 := rg_of hr (by rw [Array.length_toList, dcA_size] : (dcA d).toList.length = 33)
  have hr2 : w.rangeAt g (o + i * 33) (dg_secA d.key).toList := fun j v hv => hr j v (by
    rw [Array.getElem?_toList] at hv ⊢
    have hj : j < 32 := by
      have := (Array.getElem?_eq_some_iff.1 hv).1
      simpa using this
    rw [dg_secA_get d.key j hj] at hv
    rw [dcA_key d j hj, hv])
  have h2 := rg_of hr2 (by rw [Array.length_toList]; simp : (dg_secA d.key).toList.length = 32)
  refine ⟨g, o, e, hg, h1.1, by rw [h1.2, Array.toArray_toList], h2.1, by rw [h2.2, Array.toArray_toList], ?_⟩
  exact hr 32 _ (by rw [Array.getElem?_toList, dcA_32])
def dcBS (x : Value) : Sem Next := do pure (.value (← Instr.buildSlice 22 1 #[(0, x)]))
section
variable (ρ : Operand → Value) (dst : Option Tmp) (ty : TypeId) (pos : String) (after : Array Edge) (guard : Option (Nat × Bool))
@[go_sem ↓] theorem execOp_dcBS (x : Operand) : execOp ρ { dst, op := .buildSlice 22 1 #[(0, x)], type := ty, pos, after, guard } = dcBS (ρ x) := by simp [execOp, dcBS]
end
theorem dcE_enc (d : Dc) : (dcE.enc d).toArray = dcA d := by simp only [dcE, Array.toArray_toList]
@[go_sem] theorem run_dcBS (w : World) (d : Dc) : (dcBS (.agg (dcA d))).run Tryz.prog w = .ok (.value (.slice (some ⟨w.heap.size, 0, none⟩) 1 1)) (w.alloc (.cells (dcA d) 35)) := by
  have h := run_litK1 dcE_ok (by show 33 ≤ 1000; omega) w d
  rw [dcE_enc] at h
  simp only [dcBS, Sem.run_bind]
  rw [show 22 = dcE.S from rfl, h]
  rfl
theorem dc_lit (w : World) (d : Dc) : OwnK dcE (w.alloc (.cells (dcA d) 35)) w.heap.size (.slice (some ⟨w.heap.size, 0, none⟩) 1 1) [d] := by
  have h := OwnK.lit1 dcE_ok w d
  rw [dcE_enc] at h
  exact h
theorem dc_lit_range (w : World) (d : Dc) : (w.alloc (.cells (dcA d) 35)).rangeAt w.heap.size 0 (dcE.enc d) := by
  obtain ⟨b, o, e, -, hr⟩ := ((dc_lit w d).isK dcE_ok).at 0 d rfl
  cases e
  simpa using hr
end Go.Proofs.YtalnbddkhojjbaaGreatDoor
