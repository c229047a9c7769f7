
import Derived.Test.YtligjfofnafjeaaFor5
import Derived.Test.YtligjfofnafjeaaLit
namespace Go.Proofs.Ytligjfofnafjeaa
open Go.RowKit

/-! Whole rows and snapshots: builds, literals, loads in the middle of a list -/
def snBd_0 (x : Value) : Sem Next := do pure (.value (← Instr.build 37 #[(0, x)]))
def snBd_01 (x y : Value) : Sem Next := do pure (.value (← Instr.build 37 #[(0, x), (1, y)]))
section
variable (ρ : Operand → Value) (dst : Option Tmp) (ty : TypeId) (pos : String) (after : Array Edge) (guard : Option (Nat × Bool))
@[go_sem ↓] theorem execOp_snBd_0 (x : Operand) : execOp ρ { dst, op := .build 37 #[(0, x)], type := ty, pos, after, guard } = snBd_0 (ρ x) := by simp [execOp, snBd_0]
@[go_sem ↓] theorem execOp_snBd_01 (x y : Operand) : execOp ρ { dst, op := .build 37 #[(0, x), (1, y)], type := ty, pos, after, guard } = snBd_01 (ρ x) (ρ y) := by simp [execOp, snBd_01]
end
@[go_sem] theorem run_snBd_0 (w : World) (a : Int) : (snBd_0 (.int .u32 a)).run Try.prog w = .ok (.value (.agg (snA ⟨a, 0, dg_secZ⟩))) w := by
  simp only [snBd_0, Sem.run_bind]
  rw [run_build w 37 _ (snA ⟨a, 0, dg_secZ⟩) (by
    rw [built_sn]
    show Instr.fill snP _ [(0, .int .u32 a)] = _
    rw [fill_sn0 _ (snA_size _), snA_set0]
    rfl)]
  rfl
@[go_sem] theorem run_snBd_01 (w : World) (a b : Int) : (snBd_01 (.int .u32 a) (.int .u32 b)).run Try.prog w = .ok (.value (.agg (snA ⟨a, b, dg_secZ⟩))) w := by
  simp only [snBd_01, Sem.run_bind]
  rw [run_build w 37 _ (snA ⟨a, b, dg_secZ⟩) (by
    rw [built_sn]
    show Instr.fill snP _ [(0, .int .u32 a), (1, .int .u32 b)] = _
    rw [fill_sn0 _ (snA_size _), snA_set0, fill_sn1 _ (snA_size _), snA_set1]
    rfl)]
  rfl
def snE : EK Sn := { T := 37, S := 32, k := 34, bytes := 40, z := .agg (snA snZ), enc := fun e => (snA e).toList }
theorem snE_ok : snE.Ok where
  len x := by simp [snE, snA_size]
  one x v hv := Array.all_eq_true_iff_forall_mem.1 (snA_one x) v (by simpa [snE] using hv)
  und := Try.underlying32
  info := by
    have h : (Try.prog.info? 37).map (fun i => (i.zero, i.size, i.bytes)) = some (some (.agg (snA snZ)), 34, 40) := by kernel_rfl
    exact h
  zc := by show (snA snZ).size = 34; rw [snA_size]
  kp := by show 0 < 34; omega
  row := ⟨_, Try.underlying37, rfl⟩
@[go_sem] theorem run_sn_mid (w : World) (b o : Nat) (h : rgOk w b o 34 = true) : (bigLoad 37 (.pointer (some ⟨b, o, none⟩))).run Try.prog w = .ok (.value (.agg (rg w b o 34))) w := by
  simp only [bigLoad, Sem.run_bind]
  rw [run_loadAt_mid w b o 37 _ _ (rangeAt_rg h) Try.underlying37 rfl (by rw [sizeT_sn, Array.length_toList, rg_size])]
  rfl
theorem snE_cells {w : World} {x : Option Addr} {n c : Nat} {l : List Sn} (h : IsK snE w (.slice x n c) l) (i : Nat) (d : Sn) (hi : l[i]? = some d) : ∃ g o, x = some ⟨g, o, none⟩ ∧ g < w.heap.size ∧ w.cell? ⟨g, o + i * 34, none⟩ = some (.int .u32 d.id) ∧ w.cell? ⟨g, o + i * 34 + 1, none⟩ = some (.int .u32 d.pa) ∧ rgOk w g (o + i * 34) 34 = true ∧ rg w g (o + i * 34) 34 = snA d := by
  obtain ⟨g, o, e, hg, hr⟩ := h.at i d hi
  have e1 : snE.enc d = (snA d).toList := by simp only [snE]
  have e2 : snE.k = 34 := rfl
  rw [e2, e1] at hr
  have h1 := rg_of hr (by rw [Array.length_toList, snA_size] : (snA d).toList.length = 34)
  exact ⟨g, o, e, hg, hr 0 _ (by rw [Array.getElem?_toList, snA_0]), hr 1 _ (by rw [Array.getElem?_toList, snA_1]), h1.1, by rw [h1.2, Array.toArray_toList]⟩
def snBS (x : Value) : Sem Next := do pure (.value (← Instr.buildSlice 32 1 #[(0, x)]))
@[go_sem ↓] theorem execOp_snBS (ρ : Operand → Value) (dst : Option Tmp) (ty : TypeId) (pos : String) (after : Array Edge) (guard : Option (Nat × Bool)) (x : Operand) : execOp ρ { dst, op := .buildSlice 32 1 #[(0, x)], type := ty, pos, after, guard } = snBS (ρ x) := by simp [execOp, snBS]
theorem snE_enc (d : Sn) : (snE.enc d).toArray = snA d := by simp only [snE, Array.toArray_toList]
@[go_sem] theorem run_snBS (w : World) (d : Sn) : (snBS (.agg (snA d))).run Try.prog w = .ok (.value (.slice (some ⟨w.heap.size, 0, none⟩) 1 1)) (w.alloc (.cells (snA d) 37)) := by
  have h := run_litK1 snE_ok (by show 34 ≤ 1000; omega) w d
  rw [snE_enc] at h
  simp only [snBS, Sem.run_bind]
  rw [show 32 = snE.S from rfl, h]
  rfl
theorem sn_lit (w : World) (d : Sn) : OwnK snE (w.alloc (.cells (snA d) 37)) w.heap.size (.slice (some ⟨w.heap.size, 0, none⟩) 1 1) [d] := by
  have h := OwnK.lit1 snE_ok w d
  rw [snE_enc] at h
  exact h
theorem sn_litr (w : World) (d : Sn) : (w.alloc (.cells (snA d) 37)).rangeAt w.heap.size 0 (snE.enc d) := by
  obtain ⟨b, o, e, -, hr⟩ := ((sn_lit w d).isK snE_ok).at 0 d rfl
  cases e
  simpa using hr
def rwP (i : Nat) : Option (Nat × Nat) := ([(0, 1), (1, 1), (2, 34)] : List (Nat × Nat))[i]?
theorem fill_rwB (X : Array Value) (hs : X.size = 36) (k : Nat) (hk : k < 2) (b : Bool) (ps : List (Nat × Value)) : Instr.fill rwP X ((k, .bool b) :: ps) = Instr.fill rwP (X.setIfInBounds k (.bool b)) ps := by
  have hc : (Value.bool b).cells = #[.bool b] := rfl
  have hp : rwP k = some (k, 1) := by
    rcases k with _ | _ | k
    · rfl
    · rfl
    · omega
  rw [Instr.fill]
  simp only [hc, hp]
  rw [if_neg (by simp [hs]; omega)]
  congr 1
theorem rwA_set0 (e : Rw) (b : Bool) : (rwA e).setIfInBounds 0 (.bool b) = rwA { e with th := b } := by
  unfold rwA; rw [Array.setIfInBounds_append_left (by simp)]; rfl
theorem rwA_set1 (e : Rw) (b : Bool) : (rwA e).setIfInBounds 1 (.bool b) = rwA { e with la := b } := by
  unfold rwA; rw [Array.setIfInBounds_append_left (by simp)]; rfl
theorem fill_rwS (e : Rw) (s : Sn) : Instr.fill rwP (rwA e) [(2, .agg (snA s))] = some (rwA { e with sn := s }) := by
  obtain ⟨C, hC⟩ : ∃ q, snA s = q := ⟨_, rfl⟩
  have hC2 : C.size = 34 := by rw [← hC]; exact snA_size s
  obtain ⟨X, hX⟩ : ∃ q, rwA e = q := ⟨_, rfl⟩
  have hX2 : X.size = 36 := by rw [← hX]; exact rwA_size e
  rw [hC, hX]
  have hc : (Value.agg C).cells = C := rfl
  have hp : rwP 2 = some (2, 34) := rfl
  unfold Instr.fill
  simp only [hc, hp]
  rw [if_neg (by simp [hC2, hX2])]
  unfold Instr.fill
  refine congrArg some ?_
  apply Array.ext_getElem?
  intro i
  rw [blit_get 2 C X i]
  by_cases hi : 2 ≤ i
  · by_cases hj : i < 36
    · rw [if_pos (by omega), ← hC, show i = 2 + (i - 2) by omega, rwA_sn, show 2 + (i - 2) - 2 = i - 2 by omega]
    · rw [if_neg (by omega), Array.getElem?_eq_none (by omega), Array.getElem?_eq_none (by rw [rwA_size]; omega)]
  · rw [if_neg (by omega), ← hX]
    rcases i with _ | _ | i
    · rw [rwA_0, rwA_0]
    · rw [rwA_1, rwA_1]
    · omega
section
variable (ρ : Operand → Value) (dst : Option Tmp) (ty : TypeId) (pos : String) (after : Array Edge) (guard : Option (Nat × Bool))
@[go_sem ↓] theorem execOp_load_re (x : Operand) : execOp ρ { dst, op := .load 39 x, type := ty, pos, after, guard } = bigLoad 39 (ρ x) := rfl
@[go_sem ↓] theorem execOp_store_re (x y : Operand) : execOp ρ { dst, op := .store 39 x y, type := ty, pos, after, guard } = bigStore 39 (ρ x) (ρ y) := rfl
@[go_sem ↓] theorem execOp_alloc_re : execOp ρ { dst, op := .alloc 39, type := ty, pos, after, guard } = bigAlloc 39 := rfl
@[go_sem ↓] theorem execOp_box_re (x : Operand) : execOp ρ { dst, op := .box 39 x, type := ty, pos, after, guard } = bigBox 39 (ρ x) := rfl
end
theorem info_re : (Try.prog.info? 39).map (fun i => (i.zero, i.size)) = some (some (.agg (rwA rwZ)), 36) := by kernel_rfl
theorem sizeT_re : (Try.prog.info? 39).map (·.size) = some 36 := (zero_of_info info_re).2
@[go_sem] theorem run_load_re (w : World) (g : Nat) (h : rowL w g = true) (hs : (rowAt w g).size = 36) : (bigLoad 39 (.pointer (some ⟨g, 0, none⟩))).run Try.prog w = .ok (.value (.agg (rowAt w g))) w := by
  rw [run_bigLoad 39 _ 36 Try.underlying39 rfl sizeT_re w g 0 h (by omega), Nat.zero_add, Array.extract_eq_self_of_le (by omega)]
@[go_sem] theorem run_store_re (w : World) (g : Nat) (c : Array Value) (h : rowL w g = true) (hs : (rowAt w g).size = 36) (hc : c.size = 36) (h1 : OneC c = true) : (bigStore 39 (.pointer (some ⟨g, 0, none⟩)) (.agg c)).run Try.prog w = .ok .skip (w.setRow g c) := by
  rw [run_bigStore 39 36 sizeT_re w g 0 c h hc (by omega) h1, layC_all _ _ (by omega)]
@[go_sem] theorem run_alloc_re (w : World) : (bigAlloc 39).run Try.prog w = .ok (.value (.pointer (some ⟨w.heap.size, 0, none⟩))) (w.alloc (.cells (rwA rwZ) 39)) := by
  simp only [bigAlloc, Instr.alloc, Sem.run_bind, (zero_of_info info_re).1 w, Result.andThen_ok]
  rfl
@[go_sem] theorem run_box_re (w : World) (c : Array Value) : (bigBox 39 (.agg c)).run Try.prog w = .ok (.value (.pointer (some ⟨w.heap.size, 0, none⟩))) (w.alloc (.cells c 39)) := run_bigBox _ c w
def reBd_012 (x y z : Value) : Sem Next := do pure (.value (← Instr.build 39 #[(0, x), (1, y), (2, z)]))
def reBd_2 (z : Value) : Sem Next := do pure (.value (← Instr.build 39 #[(2, z)]))
section
variable (ρ : Operand → Value) (dst : Option Tmp) (ty : TypeId) (pos : String) (after : Array Edge) (guard : Option (Nat × Bool))
@[go_sem ↓] theorem execOp_reBd_012 (x y z : Operand) : execOp ρ { dst, op := .build 39 #[(0, x), (1, y), (2, z)], type := ty, pos, after, guard } = reBd_012 (ρ x) (ρ y) (ρ z) := by simp [execOp, reBd_012]
@[go_sem ↓] theorem execOp_reBd_2 (z : Operand) : execOp ρ { dst, op := .build 39 #[(2, z)], type := ty, pos, after, guard } = reBd_2 (ρ z) := by simp [execOp, reBd_2]
end
theorem built_re (ps : List (Nat × Value)) : Try.prog.built 39 ps = Instr.fill rwP (rwA rwZ) ps := by
  obtain ⟨i, hi, hzz⟩ := Option.map_eq_some_iff.1 info_re
  simp only [Prod.mk.injEq] at hzz
  obtain ⟨i0, h0, s0⟩ := Option.map_eq_some_iff.1 (show (Try.prog.info? 4).map (·.size) = some 1 by kernel_rfl)
  obtain ⟨i1, h1, s1⟩ := Option.map_eq_some_iff.1 (show (Try.prog.info? 37).map (·.size) = some 34 by kernel_rfl)
  unfold Program.built
  simp only [hi, Try.underlying39, hzz.1]
  simp [h0, s0, h1, s1, Value.cells]
  rfl
@[go_sem] theorem run_reBd_012 (w : World) (a b : Bool) (s : Sn) : (reBd_012 (.bool a) (.bool b) (.agg (snA s))).run Try.prog w = .ok (.value (.agg (rwA ⟨a, b, s⟩))) w := by
  simp only [reBd_012, Sem.run_bind]
  rw [run_build w 39 _ (rwA ⟨a, b, s⟩) (by
    rw [built_re]
    show Instr.fill rwP _ [(0, .bool a), (1, .bool b), (2, .agg (snA s))] = _
    rw [fill_rwB _ (rwA_size _) 0 (by omega), rwA_set0, fill_rwB _ (rwA_size _) 1 (by omega), rwA_set1, fill_rwS])]
  rfl
@[go_sem] theorem run_reBd_2 (w : World) (s : Sn) : (reBd_2 (.agg (snA s))).run Try.prog w = .ok (.value (.agg (rwA ⟨false, false, s⟩))) w := by
  simp only [reBd_2, Sem.run_bind]
  rw [run_build w 39 _ (rwA ⟨false, false, s⟩) (by
    rw [built_re]
    show Instr.fill rwP _ [(2, .agg (snA s))] = _
    rw [fill_rwS]
    rfl)]
  rfl
@[go_sem] theorem run_re_mid (w : World) (b o : Nat) (h : rgOk w b o 36 = true) : (bigLoad 39 (.pointer (some ⟨b, o, none⟩))).run Try.prog w = .ok (.value (.agg (rg w b o 36))) w := by
  simp only [bigLoad, Sem.run_bind]
  rw [run_loadAt_mid w b o 39 _ _ (rangeAt_rg h) Try.underlying39 rfl (by rw [sizeT_re, Array.length_toList, rg_size])]
  rfl
theorem rwE_rg {w : World} {x : Option Addr} {n c : Nat} {l : List Rw} (h : IsK rwE w (.slice x n c) l) (i : Nat) (d : Rw) (hi : l[i]? = some d) : ∃ g o, x = some ⟨g, o, none⟩ ∧ rgOk w g (o + i * 36) 36 = true ∧ rg w g (o + i * 36) 36 = rwA d ∧ rgOk w g (o + i * 36 + 2) 34 = true ∧ rg w g (o + i * 36 + 2) 34 = snA d.sn := by
  obtain ⟨g, o, e, hg, hr⟩ := h.at i d hi
  have e1 : rwE.enc d = (rwA d).toList := by simp only [rwE]
  have e2 : rwE.k = 36 := rfl
  rw [e2, e1] at hr
  have h1 := rg_of hr (by rw [Array.length_toList, rwA_size] : (rwA d).toList.length = 36)
  have hr2 : w.rangeAt g (o + i * 36 + 2) (snA d.sn).toList := fun j v hv => by
    rw [Array.getElem?_toList] at hv
    have := hr (2 + j) v (by rw [Array.getElem?_toList, rwA_sn, hv])
    rw [show o + i * 36 + (2 + j) = o + i * 36 + 2 + j by omega] at this
    exact this
  have h2 := rg_of hr2 (by rw [Array.length_toList, snA_size] : (snA d.sn).toList.length = 34)
  exact ⟨g, o, e, h1.1, by rw [h1.2, Array.toArray_toList], h2.1, by rw [h2.2, Array.toArray_toList]⟩
def reBS (x : Value) : Sem Next := do pure (.value (← Instr.buildSlice 22 1 #[(0, x)]))
@[go_sem ↓] theorem execOp_reBS (ρ : Operand → Value) (dst : Option Tmp) (ty : TypeId) (pos : String) (after : Array Edge) (guard : Option (Nat × Bool)) (x : Operand) : execOp ρ { dst, op := .buildSlice 22 1 #[(0, x)], type := ty, pos, after, guard } = reBS (ρ x) := by simp [execOp, reBS]
theorem rwE_enc (d : Rw) : (rwE.enc d).toArray = rwA d := by simp only [rwE, Array.toArray_toList]
@[go_sem] theorem run_reBS (w : World) (d : Rw) : (reBS (.agg (rwA d))).run Try.prog w = .ok (.value (.slice (some ⟨w.heap.size, 0, none⟩) 1 1)) (w.alloc (.cells (rwA d) 39)) := by
  have h := run_litK1 rwE_ok (by show 36 ≤ 1000; omega) w d
  rw [rwE_enc] at h
  simp only [reBS, Sem.run_bind]
  rw [show 22 = rwE.S from rfl, h]
  rfl
theorem re_lit (w : World) (d : Rw) : OwnK rwE (w.alloc (.cells (rwA d) 39)) w.heap.size (.slice (some ⟨w.heap.size, 0, none⟩) 1 1) [d] := by
  have h := OwnK.lit1 rwE_ok w d
  rw [rwE_enc] at h
  exact h
theorem re_litr (w : World) (d : Rw) : (w.alloc (.cells (rwA d) 39)).rangeAt w.heap.size 0 (rwE.enc d) := by
  obtain ⟨b, o, e, -, hr⟩ := ((re_lit w d).isK rwE_ok).at 0 d rfl
  cases e
  simpa using hr
def rwF : EK Rw := { T := 45, S := 30, k := 36, bytes := 44, z := .agg (rwA rwZ), enc := fun e => (rwA e).toList }
theorem rwF_ok : rwF.Ok where
  len x := by simp [rwF, rwA_size]
  one x v hv := Array.all_eq_true_iff_forall_mem.1 (rwA_one x) v (by simpa [rwF] using hv)
  und := Try.underlying30
  info := by
    have h : (Try.prog.info? 45).map (fun i => (i.zero, i.size, i.bytes)) = some (some (.agg (rwA rwZ)), 36, 44) := by kernel_rfl
    exact h
  zc := by show (rwA rwZ).size = 36; rw [rwA_size]
  kp := by show 0 < 36; omega
  row := ⟨_, Try.underlying45, rfl⟩
theorem rwF_cells {w : World} {x : Option Addr} {n c : Nat} {l : List Rw} (h : IsK rwF w (.slice x n c) l) (i : Nat) (d : Rw) (hi : l[i]? = some d) : ∃ g o, x = some ⟨g, o, none⟩ ∧ g < w.heap.size ∧ w.cell? ⟨g, o + i * 36, none⟩ = some (.bool d.th) ∧ w.cell? ⟨g, o + i * 36 + 1, none⟩ = some (.bool d.la) ∧ w.cell? ⟨g, o + i * 36 + 2, none⟩ = some (.int .u32 d.sn.id) ∧ w.cell? ⟨g, o + i * 36 + 3, none⟩ = some (.int .u32 d.sn.pa) := by
  obtain ⟨g, o, e, hg, hr⟩ := h.at i d hi
  have e1 : rwF.enc d = (rwA d).toList := by simp only [rwF]
  have e2 : rwF.k = 36 := rfl
  rw [e2, e1] at hr
  refine ⟨g, o, e, hg, ?_, ?_, ?_, ?_⟩
  · exact hr 0 _ (by rw [Array.getElem?_toList, rwA_0])
  · exact hr 1 _ (by rw [Array.getElem?_toList, rwA_1])
  · exact hr 2 _ (by rw [Array.getElem?_toList, rwA_2])
  · exact hr 3 _ (by rw [Array.getElem?_toList, rwA_3])
section
variable (ρ : Operand → Value) (dst : Option Tmp) (ty : TypeId) (pos : String) (after : Array Edge) (guard : Option (Nat × Bool))
@[go_sem ↓] theorem execOp_load_rf (x : Operand) : execOp ρ { dst, op := .load 45 x, type := ty, pos, after, guard } = bigLoad 45 (ρ x) := rfl
@[go_sem ↓] theorem execOp_store_rf (x y : Operand) : execOp ρ { dst, op := .store 45 x y, type := ty, pos, after, guard } = bigStore 45 (ρ x) (ρ y) := rfl
@[go_sem ↓] theorem execOp_alloc_rf : execOp ρ { dst, op := .alloc 45, type := ty, pos, after, guard } = bigAlloc 45 := rfl
@[go_sem ↓] theorem execOp_box_rf (x : Operand) : execOp ρ { dst, op := .box 45 x, type := ty, pos, after, guard } = bigBox 45 (ρ x) := rfl
end
theorem info_rf : (Try.prog.info? 45).map (fun i => (i.zero, i.size)) = some (some (.agg (rwA rwZ)), 36) := by kernel_rfl
theorem sizeT_rf : (Try.prog.info? 45).map (·.size) = some 36 := (zero_of_info info_rf).2
@[go_sem] theorem run_load_rf (w : World) (g : Nat) (h : rowL w g = true) (hs : (rowAt w g).size = 36) : (bigLoad 45 (.pointer (some ⟨g, 0, none⟩))).run Try.prog w = .ok (.value (.agg (rowAt w g))) w := by
  rw [run_bigLoad 45 _ 36 Try.underlying45 rfl sizeT_rf w g 0 h (by omega), Nat.zero_add, Array.extract_eq_self_of_le (by omega)]
@[go_sem] theorem run_store_rf (w : World) (g : Nat) (c : Array Value) (h : rowL w g = true) (hs : (rowAt w g).size = 36) (hc : c.size = 36) (h1 : OneC c = true) : (bigStore 45 (.pointer (some ⟨g, 0, none⟩)) (.agg c)).run Try.prog w = .ok .skip (w.setRow g c) := by
  rw [run_bigStore 45 36 sizeT_rf w g 0 c h hc (by omega) h1, layC_all _ _ (by omega)]
@[go_sem] theorem run_alloc_rf (w : World) : (bigAlloc 45).run Try.prog w = .ok (.value (.pointer (some ⟨w.heap.size, 0, none⟩))) (w.alloc (.cells (rwA rwZ) 45)) := by
  simp only [bigAlloc, Instr.alloc, Sem.run_bind, (zero_of_info info_rf).1 w, Result.andThen_ok]
  rfl
@[go_sem] theorem run_box_rf (w : World) (c : Array Value) : (bigBox 45 (.agg c)).run Try.prog w = .ok (.value (.pointer (some ⟨w.heap.size, 0, none⟩))) (w.alloc (.cells c 45)) := run_bigBox _ c w
def rfBd_012 (x y z : Value) : Sem Next := do pure (.value (← Instr.build 45 #[(0, x), (1, y), (2, z)]))
def rfBd_2 (z : Value) : Sem Next := do pure (.value (← Instr.build 45 #[(2, z)]))
section
variable (ρ : Operand → Value) (dst : Option Tmp) (ty : TypeId) (pos : String) (after : Array Edge) (guard : Option (Nat × Bool))
@[go_sem ↓] theorem execOp_rfBd_012 (x y z : Operand) : execOp ρ { dst, op := .build 45 #[(0, x), (1, y), (2, z)], type := ty, pos, after, guard } = rfBd_012 (ρ x) (ρ y) (ρ z) := by simp [execOp, rfBd_012]
@[go_sem ↓] theorem execOp_rfBd_2 (z : Operand) : execOp ρ { dst, op := .build 45 #[(2, z)], type := ty, pos, after, guard } = rfBd_2 (ρ z) := by simp [execOp, rfBd_2]
end
theorem built_rf (ps : List (Nat × Value)) : Try.prog.built 45 ps = Instr.fill rwP (rwA rwZ) ps := by
  obtain ⟨i, hi, hzz⟩ := Option.map_eq_some_iff.1 info_rf
  simp only [Prod.mk.injEq] at hzz
  obtain ⟨i0, h0, s0⟩ := Option.map_eq_some_iff.1 (show (Try.prog.info? 4).map (·.size) = some 1 by kernel_rfl)
  obtain ⟨i1, h1, s1⟩ := Option.map_eq_some_iff.1 (show (Try.prog.info? 37).map (·.size) = some 34 by kernel_rfl)
  unfold Program.built
  simp only [hi, Try.underlying45, hzz.1]
  simp [h0, s0, h1, s1, Value.cells]
  rfl
@[go_sem] theorem run_rfBd_012 (w : World) (a b : Bool) (s : Sn) : (rfBd_012 (.bool a) (.bool b) (.agg (snA s))).run Try.prog w = .ok (.value (.agg (rwA ⟨a, b, s⟩))) w := by
  simp only [rfBd_012, Sem.run_bind]
  rw [run_build w 45 _ (rwA ⟨a, b, s⟩) (by
    rw [built_rf]
    show Instr.fill rwP _ [(0, .bool a), (1, .bool b), (2, .agg (snA s))] = _
    rw [fill_rwB _ (rwA_size _) 0 (by omega), rwA_set0, fill_rwB _ (rwA_size _) 1 (by omega), rwA_set1, fill_rwS])]
  rfl
@[go_sem] theorem run_rfBd_2 (w : World) (s : Sn) : (rfBd_2 (.agg (snA s))).run Try.prog w = .ok (.value (.agg (rwA ⟨false, false, s⟩))) w := by
  simp only [rfBd_2, Sem.run_bind]
  rw [run_build w 45 _ (rwA ⟨false, false, s⟩) (by
    rw [built_rf]
    show Instr.fill rwP _ [(2, .agg (snA s))] = _
    rw [fill_rwS]
    rfl)]
  rfl
@[go_sem] theorem run_rf_mid (w : World) (b o : Nat) (h : rgOk w b o 36 = true) : (bigLoad 45 (.pointer (some ⟨b, o, none⟩))).run Try.prog w = .ok (.value (.agg (rg w b o 36))) w := by
  simp only [bigLoad, Sem.run_bind]
  rw [run_loadAt_mid w b o 45 _ _ (rangeAt_rg h) Try.underlying45 rfl (by rw [sizeT_rf, Array.length_toList, rg_size])]
  rfl
theorem rwF_rg {w : World} {x : Option Addr} {n c : Nat} {l : List Rw} (h : IsK rwF w (.slice x n c) l) (i : Nat) (d : Rw) (hi : l[i]? = some d) : ∃ g o, x = some ⟨g, o, none⟩ ∧ rgOk w g (o + i * 36) 36 = true ∧ rg w g (o + i * 36) 36 = rwA d ∧ rgOk w g (o + i * 36 + 2) 34 = true ∧ rg w g (o + i * 36 + 2) 34 = snA d.sn := by
  obtain ⟨g, o, e, hg, hr⟩ := h.at i d hi
  have e1 : rwF.enc d = (rwA d).toList := by simp only [rwF]
  have e2 : rwF.k = 36 := rfl
  rw [e2, e1] at hr
  have h1 := rg_of hr (by rw [Array.length_toList, rwA_size] : (rwA d).toList.length = 36)
  have hr2 : w.rangeAt g (o + i * 36 + 2) (snA d.sn).toList := fun j v hv => by
    rw [Array.getElem?_toList] at hv
    have := hr (2 + j) v (by rw [Array.getElem?_toList, rwA_sn, hv])
    rw [show o + i * 36 + (2 + j) = o + i * 36 + 2 + j by omega] at this
    exact this
  have h2 := rg_of hr2 (by rw [Array.length_toList, snA_size] : (snA d.sn).toList.length = 34)
  exact ⟨g, o, e, h1.1, by rw [h1.2, Array.toArray_toList], h2.1, by rw [h2.2, Array.toArray_toList]⟩
def rfBS (x : Value) : Sem Next := do pure (.value (← Instr.buildSlice 30 1 #[(0, x)]))
@[go_sem ↓] theorem execOp_rfBS (ρ : Operand → Value) (dst : Option Tmp) (ty : TypeId) (pos : String) (after : Array Edge) (guard : Option (Nat × Bool)) (x : Operand) : execOp ρ { dst, op := .buildSlice 30 1 #[(0, x)], type := ty, pos, after, guard } = rfBS (ρ x) := by simp [execOp, rfBS]
theorem rwF_enc (d : Rw) : (rwF.enc d).toArray = rwA d := by simp only [rwF, Array.toArray_toList]
@[go_sem] theorem run_rfBS (w : World) (d : Rw) : (rfBS (.agg (rwA d))).run Try.prog w = .ok (.value (.slice (some ⟨w.heap.size, 0, none⟩) 1 1)) (w.alloc (.cells (rwA d) 45)) := by
  have h := run_litK1 rwF_ok (by show 36 ≤ 1000; omega) w d
  rw [rwF_enc] at h
  simp only [rfBS, Sem.run_bind]
  rw [show 30 = rwF.S from rfl, h]
  rfl
theorem rf_lit (w : World) (d : Rw) : OwnK rwF (w.alloc (.cells (rwA d) 45)) w.heap.size (.slice (some ⟨w.heap.size, 0, none⟩) 1 1) [d] := by
  have h := OwnK.lit1 rwF_ok w d
  rw [rwF_enc] at h
  exact h
theorem rf_litr (w : World) (d : Rw) : (w.alloc (.cells (rwA d) 45)).rangeAt w.heap.size 0 (rwF.enc d) := by
  obtain ⟨b, o, e, -, hr⟩ := ((rf_lit w d).isK rwF_ok).at 0 d rfl
  cases e
  simpa using hr
section
variable (ρ : Operand → Value) (dst : Option Tmp) (ty : TypeId) (pos : String) (after : Array Edge) (guard : Option (Nat × Bool))
@[go_sem ↓] theorem execOp_load_ff (x : Operand) : execOp ρ { dst, op := .load 28 x, type := ty, pos, after, guard } = bigLoad 28 (ρ x) := rfl
@[go_sem ↓] theorem execOp_store_ff (x y : Operand) : execOp ρ { dst, op := .store 28 x y, type := ty, pos, after, guard } = bigStore 28 (ρ x) (ρ y) := rfl
@[go_sem ↓] theorem execOp_alloc_ff : execOp ρ { dst, op := .alloc 28, type := ty, pos, after, guard } = bigAlloc 28 := rfl
@[go_sem ↓] theorem execOp_box_ff (x : Operand) : execOp ρ { dst, op := .box 28 x, type := ty, pos, after, guard } = bigBox 28 (ρ x) := rfl
end
theorem info_ff : (Try.prog.info? 28).map (fun i => (i.zero, i.size)) = some (some (.agg (foA foZ)), 6) := by kernel_rfl
theorem sizeT_ff : (Try.prog.info? 28).map (·.size) = some 6 := (zero_of_info info_ff).2
@[go_sem] theorem run_load_ff (w : World) (g : Nat) (h : rowL w g = true) (hs : (rowAt w g).size = 6) : (bigLoad 28 (.pointer (some ⟨g, 0, none⟩))).run Try.prog w = .ok (.value (.agg (rowAt w g))) w := by
  rw [run_bigLoad 28 _ 6 Try.underlying28 rfl sizeT_ff w g 0 h (by omega), Nat.zero_add, Array.extract_eq_self_of_le (by omega)]
@[go_sem] theorem run_store_ff (w : World) (g : Nat) (c : Array Value) (h : rowL w g = true) (hs : (rowAt w g).size = 6) (hc : c.size = 6) (h1 : OneC c = true) : (bigStore 28 (.pointer (some ⟨g, 0, none⟩)) (.agg c)).run Try.prog w = .ok .skip (w.setRow g c) := by
  rw [run_bigStore 28 6 sizeT_ff w g 0 c h hc (by omega) h1, layC_all _ _ (by omega)]
@[go_sem] theorem run_alloc_ff (w : World) : (bigAlloc 28).run Try.prog w = .ok (.value (.pointer (some ⟨w.heap.size, 0, none⟩))) (w.alloc (.cells (foA foZ) 28)) := by
  simp only [bigAlloc, Instr.alloc, Sem.run_bind, (zero_of_info info_ff).1 w, Result.andThen_ok]
  rfl
@[go_sem] theorem run_box_ff (w : World) (c : Array Value) : (bigBox 28 (.agg c)).run Try.prog w = .ok (.value (.pointer (some ⟨w.heap.size, 0, none⟩))) (w.alloc (.cells c 28)) := run_bigBox _ c w
end Go.Proofs.Ytligjfofnafjeaa
