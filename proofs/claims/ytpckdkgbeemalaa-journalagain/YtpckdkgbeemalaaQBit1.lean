import Derived.Test.YtpckdkgbeemalaaQBitM
import Derived.Test.YtpckdkgbeemalaaQDev1
import Derived.Test.YtpckdkgbeemalaaQRowg
import Derived.Deep.DeepCutAuto
namespace Go.Proofs.Ytpckdkgbeemalaa
open Go.RowKit

/-! assayref07: the small ones -/
def manyI (n : Int) : Int := if 64 ≤ n ∧ n ≤ 1024 then (n + 480 - 1) / 480 else 0
theorem manyI_nat (n : Nat) : manyI (n : Int) = ((manyN n : Nat) : Int) := by
  unfold manyI manyN
  by_cases h : 64 ≤ n ∧ n ≤ 1024
  · rw [if_pos (by omega), if_pos h]; omega
  · rw [if_neg (by omega), if_neg h]; rfl
theorem manyI_toNat (n : Int) : manyI n = ((manyN n.toNat : Nat) : Int) := by
  unfold manyI manyN
  by_cases h : 64 ≤ n ∧ n ≤ 1024
  · rw [if_pos h, if_pos (by omega)]; omega
  · rw [if_neg h, if_neg (by omega)]; rfl
def sumB (s : Sc) (i : Nat) : UInt8 := UInt8.ofNat ((secSum s).toNat / 256 ^ i)
def bA4 (f : Nat → UInt8) : Array Value := #[.int .u8 ((f 0).toNat : Int), .int .u8 ((f 1).toNat : Int), .int .u8 ((f 2).toNat : Int), .int .u8 ((f 3).toNat : Int)]
theorem sealS_sum (s : Sc) : sealS s = upd (upd (upd (upd s 60 (sumB s 0)) 61 (sumB s 1)) 62 (sumB s 2)) 63 (sumB s 3) := by
  unfold sealS sumB; rw [← put_four]
theorem bA4_get (f : Nat → UInt8) (k : Nat) (h : k < 4) : (bA4 f)[k]? = some (.int .u8 ((f k).toNat : Int)) := by
  rcases (by omega : k = 0 ∨ k = 1 ∨ k = 2 ∨ k = 3) with rfl | rfl | rfl | rfl <;> rfl
@[go_sem] theorem bA4_size (f : Nat → UInt8) : (bA4 f).size = 4 := by unfold bA4; simp
@[go_sem] theorem bA4_one (f : Nat → UInt8) : OneC (bA4 f) = true := by simp [OneC, bA4, Value.oneCell']
@[go_sem] theorem bA4_get0 (f : Nat → UInt8) : (bA4 f)[0]? = some (.int .u8 ((f 0).toNat : Int)) := by unfold bA4; simp
@[go_sem] theorem bA4_at0 (f : Nat → UInt8) (h : 0 < (bA4 f).size) : (bA4 f)[0] = .int .u8 ((f 0).toNat : Int) := by unfold bA4; simp
@[go_sem] theorem bA4_get1 (f : Nat → UInt8) : (bA4 f)[1]? = some (.int .u8 ((f 1).toNat : Int)) := by unfold bA4; simp
@[go_sem] theorem bA4_at1 (f : Nat → UInt8) (h : 1 < (bA4 f).size) : (bA4 f)[1] = .int .u8 ((f 1).toNat : Int) := by unfold bA4; simp
@[go_sem] theorem bA4_get2 (f : Nat → UInt8) : (bA4 f)[2]? = some (.int .u8 ((f 2).toNat : Int)) := by unfold bA4; simp
@[go_sem] theorem bA4_at2 (f : Nat → UInt8) (h : 2 < (bA4 f).size) : (bA4 f)[2] = .int .u8 ((f 2).toNat : Int) := by unfold bA4; simp
@[go_sem] theorem bA4_get3 (f : Nat → UInt8) : (bA4 f)[3]? = some (.int .u8 ((f 3).toNat : Int)) := by unfold bA4; simp
@[go_sem] theorem bA4_at3 (f : Nat → UInt8) (h : 3 < (bA4 f).size) : (bA4 f)[3] = .int .u8 ((f 3).toNat : Int) := by unfold bA4; simp
section
variable (ρ : Operand → Value) (dst : Option Tmp) (ty : TypeId) (pos : String) (after : Array Edge) (guard : Option (Nat × Bool))
end
def sealU (s : Sc) : Nat → Sc
  | 0 => s
  | k + 1 => upd (sealU s k) (60 + k) (sumB s k)
theorem sealU_all (s : Sc) : sealU s 4 = sealS s := by rw [sealS_sum]; rfl
theorem refBit_form (a : UInt8) (i : Nat) : ((((a.toNat : Int) / 2 ^ (i % 8)) % 2) == 1) = a.toNat.testBit (i % 8) := by
  rw [Nat.testBit_eq_decide_div_mod_eq]
  rw [Bool.eq_iff_iff, beq_iff_eq, decide_eq_true_iff]
  have e : ((a.toNat : Int) / 2 ^ (i % 8)) % 2 = ((a.toNat / 2 ^ (i % 8) % 2 : Nat) : Int) := by simp
  rw [e]; omega
theorem sealed_form (s : Sc) : (((s 60).toNat : Int) == ((sumB s 0).toNat : Int) && ((s 61).toNat : Int) == ((sumB s 1).toNat : Int) && ((s 62).toNat : Int) == ((sumB s 2).toNat : Int) && ((s 63).toNat : Int) == ((sumB s 3).toNat : Int)) = isSl s := by
  have e : ∀ a b : UInt8, ((a.toNat : Int) == (b.toNat : Int)) = decide (a = b) := fun a b => by
    rw [Bool.eq_iff_iff, beq_iff_eq, decide_eq_true_iff]
    constructor
    · intro h; exact UInt8.toNat.inj (by omega)
    · intro h; rw [h]
  rw [e, e, e, e, Bool.eq_iff_iff, isSl_iff]
  simp only [Bool.and_eq_true, decide_eq_true_iff]
  rw [sealS_sum]
  constructor
  · rintro ⟨⟨⟨h0, h1⟩, h2⟩, h3⟩
    apply kS_of
    intro i _
    unfold upd
    by_cases k3 : i = 63
    · rw [if_pos k3, k3, h3]
    · rw [if_neg k3]
      by_cases k2 : i = 62
      · rw [if_pos k2, k2, h2]
      · rw [if_neg k2]
        by_cases k1 : i = 61
        · rw [if_pos k1, k1, h1]
        · rw [if_neg k1]
          by_cases k0 : i = 60
          · rw [if_pos k0, k0, h0]
          · rw [if_neg k0]
  · intro h
    have h0 := kS_at h 60 (by omega)
    have h1 := kS_at h 61 (by omega)
    have h2 := kS_at h 62 (by omega)
    have h3 := kS_at h 63 (by omega)
    simp [upd] at h0 h1 h2 h3
    exact ⟨⟨⟨h0.symm, h1.symm⟩, h2.symm⟩, h3.symm⟩
end Go.Proofs.Ytpckdkgbeemalaa
namespace Go.Proofs.Ytpckdkgbeemalaa
open Go.RowKit

/-! journal.batch: a device, writes and a sector -/
def batA (d v : Value) (s : Sc) : Array Value := #[d, v] ++ secA s
@[go_sem] theorem batA_size (d v : Value) (s : Sc) : (batA d v s).size = 66 := by simp [batA]
theorem batA_0 (d v : Value) (s : Sc) : (batA d v s)[0]? = some d := by
  unfold batA; rw [Array.getElem?_append_left (by simp)]; rfl
theorem batA_1 (d v : Value) (s : Sc) : (batA d v s)[1]? = some v := by
  unfold batA; rw [Array.getElem?_append_left (by simp)]; rfl
theorem batA_s (d v : Value) (s : Sc) (i : Nat) : (batA d v s)[2 + i]? = (secA s)[i]? := by
  unfold batA; rw [Array.getElem?_append_right (by simp)]
  rw [show 2 + i - (#[d, v] : Array Value).size = i by simp]
@[go_sem] theorem batA_one (d : Option Addr) (x : Option Addr) (n c : Nat) (s : Sc) : OneC (batA (.pointer d) (.slice x n c) s) = true := by
  unfold OneC batA
  rw [Array.all_append, Bool.and_eq_true]
  refine ⟨by simp [Value.oneCell'], ?_⟩
  exact secA_one s
abbrev batZ : Array Value := batA (.pointer none) (.slice none 0 0) secZ
def batBuild1 (x : Value) : Sem Next := do pure (.value (← Instr.build 75 #[(0, x)]))
def batBuild2 (x y : Value) : Sem Next := do pure (.value (← Instr.build 75 #[(0, x), (1, y)]))
def batBuild3 (x y z : Value) : Sem Next := do pure (.value (← Instr.build 75 #[(0, x), (1, y), (2, z)]))
section
variable (ρ : Operand → Value) (dst : Option Tmp) (ty : TypeId) (pos : String) (after : Array Edge) (guard : Option (Nat × Bool))
@[go_sem ↓] theorem execOp_load_bat (x : Operand) : execOp ρ { dst, op := .load 75 x, type := ty, pos, after, guard } = bigLoad 75 (ρ x) := rfl
@[go_sem ↓] theorem execOp_store_bat (x y : Operand) : execOp ρ { dst, op := .store 75 x y, type := ty, pos, after, guard } = bigStore 75 (ρ x) (ρ y) := rfl
@[go_sem ↓] theorem execOp_alloc_bat : execOp ρ { dst, op := .alloc 75, type := ty, pos, after, guard } = bigAlloc 75 := rfl
@[go_sem ↓] theorem execOp_box_bat (x : Operand) : execOp ρ { dst, op := .box 75 x, type := ty, pos, after, guard } = bigBox 75 (ρ x) := rfl
@[go_sem ↓] theorem execOp_batBuild1 (x : Operand) : execOp ρ { dst, op := .build 75 #[(0, x)], type := ty, pos, after, guard } = batBuild1 (ρ x) := by simp [execOp, batBuild1]
@[go_sem ↓] theorem execOp_batBuild2 (x y : Operand) : execOp ρ { dst, op := .build 75 #[(0, x), (1, y)], type := ty, pos, after, guard } = batBuild2 (ρ x) (ρ y) := by simp [execOp, batBuild2]
@[go_sem ↓] theorem execOp_batBuild3 (x y z : Operand) : execOp ρ { dst, op := .build 75 #[(0, x), (1, y), (2, z)], type := ty, pos, after, guard } = batBuild3 (ρ x) (ρ y) (ρ z) := by simp [execOp, batBuild3]
end
theorem info_bat : (Try.prog.info? 75).map (fun i => (i.zero, i.size)) = some (some (.agg batZ), 66) := by kernel_rfl
theorem sizeT_bat : (Try.prog.info? 75).map (·.size) = some 66 := (zero_of_info info_bat).2
@[go_sem] theorem run_load_bat (w : World) (g : Nat) (h : rowL w g = true) (hs : (rowAt w g).size = 66) : (bigLoad 75 (.pointer (some ⟨g, 0, none⟩))).run Try.prog w = .ok (.value (.agg (rowAt w g))) w := by
  rw [run_bigLoad 75 _ 66 Try.underlying75 rfl sizeT_bat w g 0 h (by omega), Nat.zero_add, Array.extract_eq_self_of_le (by omega)]
@[go_sem] theorem run_store_bat (w : World) (g : Nat) (c : Array Value) (h : rowL w g = true) (hs : (rowAt w g).size = 66) (hc : c.size = 66) (h1 : OneC c = true) : (bigStore 75 (.pointer (some ⟨g, 0, none⟩)) (.agg c)).run Try.prog w = .ok .skip (w.setRow g c) := by
  rw [run_bigStore 75 66 sizeT_bat w g 0 c h hc (by omega) h1, layC_all _ _ (by omega)]
@[go_sem] theorem run_alloc_bat (w : World) : (bigAlloc 75).run Try.prog w = .ok (.value (.pointer (some ⟨w.heap.size, 0, none⟩))) (w.alloc (.cells batZ 75)) := by
  simp only [bigAlloc, Instr.alloc, Sem.run_bind, (zero_of_info info_bat).1 w, Result.andThen_ok]
  rfl
@[go_sem] theorem run_box_bat (w : World) (c : Array Value) : (bigBox 75 (.agg c)).run Try.prog w = .ok (.value (.pointer (some ⟨w.heap.size, 0, none⟩))) (w.alloc (.cells c 75)) := run_bigBox _ c w
theorem batPlaces : (Try.prog.info? 28).map (·.size) = some 1 ∧ (Try.prog.info? 23).map (·.size) = some 1 ∧ (Try.prog.info? 44).map (·.size) = some 64 := ⟨by kernel_rfl, by kernel_rfl, by kernel_rfl⟩
def batP (i : Nat) : Option (Nat × Nat) := #[(0, 1), (1, 1), (2, 64)][i]?
theorem built_bat (ps : List (Nat × Value)) : Try.prog.built 75 ps = Instr.fill (fun i => #[(0, 1), (1, 1), (2, 64)][i]?) batZ ps := by
  obtain ⟨i, hi, hzz⟩ := Option.map_eq_some_iff.1 info_bat
  simp only [Prod.mk.injEq] at hzz
  obtain ⟨i1, h1, s1⟩ := Option.map_eq_some_iff.1 batPlaces.1
  obtain ⟨i2, h2, s2⟩ := Option.map_eq_some_iff.1 batPlaces.2.1
  obtain ⟨i3, h3, s3⟩ := Option.map_eq_some_iff.1 batPlaces.2.2
  have hz : i.zero = some (.agg batZ) := hzz.1
  unfold Program.built
  simp only [hi, Try.underlying75, hz]
  simp [h1, h2, h3, s1, s2, s3, Value.cells]
theorem fill_bat0 (d v : Value) (s : Sc) (p : Option Addr) (ps : List (Nat × Value)) : Instr.fill batP (batA d v s) ((0, .pointer p) :: ps) = Instr.fill batP (batA (.pointer p) v s) ps := by
  have hp : batP 0 = some (0, 1) := rfl
  have e : (batA d v s).setIfInBounds 0 (.pointer p) = batA (.pointer p) v s := by
    apply Array.ext_getElem?
    intro i
    rw [Array.getElem?_setIfInBounds, batA_size]
    unfold batA
    match i with
    | 0 => simp
    | 1 => rw [if_neg (by omega), Array.getElem?_append_left (by simp), Array.getElem?_append_left (by simp)]; rfl
    | i + 2 => rw [if_neg (by omega), Array.getElem?_append_right (by simp), Array.getElem?_append_right (by simp)]; rfl
  have hz := batA_size d v s
  rw [← e]
  generalize batA d v s = Z at hz
  rw [Instr.fill]
  simp [hp, Value.cells, hz]
theorem fill_bat1 (d v : Value) (s : Sc) (x : Option Addr) (n c : Nat) (ps : List (Nat × Value)) : Instr.fill batP (batA d v s) ((1, .slice x n c) :: ps) = Instr.fill batP (batA d (.slice x n c) s) ps := by
  have hp : batP 1 = some (1, 1) := rfl
  have e : (batA d v s).setIfInBounds 1 (.slice x n c) = batA d (.slice x n c) s := by
    apply Array.ext_getElem?
    intro i
    rw [Array.getElem?_setIfInBounds, batA_size]
    unfold batA
    match i with
    | 0 => rw [if_neg (by omega), Array.getElem?_append_left (by simp), Array.getElem?_append_left (by simp)]; rfl
    | 1 => simp
    | i + 2 => rw [if_neg (by omega), Array.getElem?_append_right (by simp), Array.getElem?_append_right (by simp)]; rfl
  have hz := batA_size d v s
  rw [← e]
  generalize batA d v s = Z at hz
  rw [Instr.fill]
  simp [hp, Value.cells, hz]
theorem fill_bat2 (d v : Value) (s s' : Sc) (ps : List (Nat × Value)) : Instr.fill batP (batA d v s) ((2, .agg (secA s')) :: ps) = Instr.fill batP (batA d v s') ps := by
  have hp : batP 2 = some (2, 64) := rfl
  have hc : (Value.agg (secA s')).cells = secA s' := rfl
  have e : ((secA s').zipIdx.foldl (fun (cs : Array Value) p => cs.setIfInBounds (2 + p.2) p.1) (batA d v s)) = batA d v s' := by
    apply Array.ext_getElem?
    intro i
    rw [blit_get, batA_size]
    by_cases h : 2 ≤ i
    · obtain ⟨j, rfl⟩ : ∃ j, i = 2 + j := ⟨i - 2, by omega⟩
      rw [batA_s, batA_s]
      by_cases hj : j < 64
      · rw [if_pos ⟨by omega, by simp; omega, by omega⟩, show 2 + j - 2 = j by omega]
      · rw [if_neg (by omega), Array.getElem?_eq_none (by simp; omega), Array.getElem?_eq_none (by simp; omega)]
    · rw [if_neg (by omega)]
      unfold batA
      rw [Array.getElem?_append_left (by simp; omega), Array.getElem?_append_left (by simp; omega)]
  have hz := batA_size d v s
  have hs : (secA s').size = 64 := by simp
  rw [← e]
  generalize batA d v s = Z at hz
  generalize secA s' = Y at hc hs
  rw [Instr.fill]
  simp only [hp]
  rw [hc, if_neg (by simp [hs, hz])]
@[go_sem] theorem run_batBuild1 (w : World) (p : Option Addr) : (batBuild1 (.pointer p)).run Try.prog w = .ok (.value (.agg (batA (.pointer p) (.slice none 0 0) secZ))) w := by
  simp only [batBuild1, Sem.run_bind]
  rw [run_build w 75 _ (batA (.pointer p) (.slice none 0 0) secZ) (by rw [built_bat]; show Instr.fill batP _ [(0, .pointer p)] = _; rw [fill_bat0]; rfl)]
  rfl
@[go_sem] theorem run_batBuild2 (w : World) (p x : Option Addr) (n c : Nat) : (batBuild2 (.pointer p) (.slice x n c)).run Try.prog w = .ok (.value (.agg (batA (.pointer p) (.slice x n c) secZ))) w := by
  simp only [batBuild2, Sem.run_bind]
  rw [run_build w 75 _ (batA (.pointer p) (.slice x n c) secZ) (by rw [built_bat]; show Instr.fill batP _ [(0, .pointer p), (1, .slice x n c)] = _; rw [fill_bat0, fill_bat1]; rfl)]
  rfl
@[go_sem] theorem run_batBuild3 (w : World) (p x : Option Addr) (n c : Nat) (s : Sc) : (batBuild3 (.pointer p) (.slice x n c) (.agg (secA s))).run Try.prog w = .ok (.value (.agg (batA (.pointer p) (.slice x n c) s))) w := by
  simp only [batBuild3, Sem.run_bind]
  rw [run_build w 75 _ (batA (.pointer p) (.slice x n c) s) (by rw [built_bat]; show Instr.fill batP _ [(0, .pointer p), (1, .slice x n c), (2, .agg (secA s))] = _; rw [fill_bat0, fill_bat1, fill_bat2]; rfl)]
  rfl
/-- A row of its own that holds a batch. -/
theorem batRow {w : World} {g : Nat} {d v : Value} {s : Sc} (h : RowC w g (batA d v s)) : w.cell? ⟨g, 0, none⟩ = some d ∧ w.cell? ⟨g, 1, none⟩ = some v ∧ rgOk w g 2 64 = true ∧ rg w g 2 64 = secA s := by
  have hc : ∀ i, w.cell? ⟨g, i, none⟩ = (batA d v s)[i]? := h.cell
  have h1 : w.rangeAt g 2 (secA s).toList := fun j u hu => by
    rw [hc, batA_s, ← Array.getElem?_toList]; exact hu
  have h2 := rg_of h1 (by simp : (secA s).toList.length = 64)
  rw [toA] at h2
  exact ⟨by rw [hc, batA_0], by rw [hc, batA_1], h2⟩
end Go.Proofs.Ytpckdkgbeemalaa
