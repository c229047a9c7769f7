
import Derived.Test.YtfnffkommcepoaaBitM
import Derived.Test.YtfnffkommcepoaaDev3
import Derived.Test.YtfnffkommcepoaaRowg
import Derived.Deep.DeepCutAuto
namespace Go.Proofs.Ytfnffkommcepoaa
open Go.RowKit

/-! assayref07: the small ones -/
def manyI (n : Int) : Int := if 64 ≤ n ∧ n ≤ 1024 then (n + 480 - 1) / 480 else 0
theorem manyI_nat (n : Nat) : manyI (n : Int) = ((manyN n : Nat) : Int) := by
  unfold manyI manyN
  by_cases h : 64 ≤ n ∧ n ≤ 1024
  · rw [if_pos (by omega), if_pos h]; omega
  · rw [if_neg (by omega), if_neg h]; rfl
theorem manyI_toNat (n : Int) : manyI n = ((manyN n.toNat : Nat) : Int) := by
  unfold manyI manyN
  by_cases h : 64 ≤ n ∧ n ≤ 1024
  · rw [if_pos h, if_pos (by omega)]; omega
  · rw [if_neg h, if_neg (by omega)]; rfl
set_option maxHeartbeats 400000 in
theorem refMany_any (n : Int) (w : World) (h0 : -9223372036854775808 ≤ n) (h1 : n ≤ 9223372036854775807) :
    Calls Try.prog 21 #[.int .i64 n] w fun e w' => e = .returned (.int .i64 (manyI n)) ∧ w' = w := by
  unfold manyI
  by_cases ha : n < 64
  · rw [if_neg (by omega)]
    go_enter Try.func21, Try.ntmps21
    go_wp2
    go_ret
    exact ⟨rfl, rfl⟩
  · by_cases hb : 1024 < n
    · rw [if_neg (by omega)]
      go_enter Try.func21, Try.ntmps21
      go_wp2
      go_ret
      exact ⟨rfl, rfl⟩
    · rw [if_pos (by omega)]
      go_enter Try.func21, Try.ntmps21
      go_wp2
      go_ret
      exact ⟨rfl, rfl⟩
def sumB (s : Sc) (i : Nat) : UInt8 := UInt8.ofNat ((secSum s).toNat / 256 ^ i)
def bA4 (f : Nat → UInt8) : Array Value := #[.int .u8 ((f 0).toNat : Int), .int .u8 ((f 1).toNat : Int), .int .u8 ((f 2).toNat : Int), .int .u8 ((f 3).toNat : Int)]
theorem sealS_sum (s : Sc) : sealS s = upd (upd (upd (upd s 60 (sumB s 0)) 61 (sumB s 1)) 62 (sumB s 2)) 63 (sumB s 3) := by
  unfold sealS sumB; rw [← put_four]
theorem size_b4 : (Try.prog.info? 54).map (·.size) = some 4 := by kernel_rfl
set_option maxHeartbeats 400000 in
theorem refSum7_any (s : Sc) (w : World) :
    Calls Try.prog 22 #[.agg (secA s)] w fun e w' => e = .returned (.agg (bA4 (sumB s))) ∧ Below w.heap.size w w' := by
  have hi : ∀ v, IsB ((w.alloc (.cells (secA s) 29)).alloc (.cells v 54)) (.slice (some ⟨w.heap.size, 0, none⟩) 60 64) (subL s 0 60) := fun v => by
    have := sec_isB (w := (w.alloc (.cells (secA s) 29)).alloc (.cells v 54)) (n := w.heap.size) (m := 60) (s := s) 64 (by go_simp) (by go_simp) (by omega)
    rw [subL_length] at this
    exact this
  have hc := fun v => refSum_any _ (subL s 0 60) _ (by rw [subL_length]; unfold maxLen; omega) (hi v)
  obtain ⟨x, hx⟩ : ∃ x, (sumL (subL s 0 60)).toNat = x := ⟨_, rfl⟩
  have hn : x < 4294967296 := by rw [← hx]; exact (sumL (subL s 0 60)).isLt
  rw [hx] at hc
  have e0 : bA4 (sumB s) = #[.int .u8 ((x : Int) % 256), .int .u8 ((x : Int) / 256 % 256), .int .u8 ((x : Int) / 65536 % 256), .int .u8 ((x : Int) / 16777216)] := by
    unfold bA4 sumB secSum
    rw [hx]
    simp
    omega
  rw [e0]
  clear hi hx e0
  go_enter Try.func22, Try.ntmps22
  go_wp2_with fail
  refine (hc _).mono ?_
  rintro e w1 ⟨rfl, rfl⟩
  clear hc
  go_wp2
  refine bodyPost_ret (results_cell_row rfl _ _ (w.heap.size + 1) 54 _ (0, 0) _ rfl ?_ Try.underlying54 rfl (by rw [size_b4]; rfl)) rfl ⟨rfl, ((Below.refl _ _).alloc (Nat.le_refl _) _).alloc (by simp) _⟩
  have := heap_new (w.alloc (.cells (secA s) 29)) (.cells #[Value.int IntKind.u8 (x % 256), Value.int IntKind.u8 (x / 256 % 256), Value.int IntKind.u8 (x / 65536 % 256), Value.int IntKind.u8 (x / 16777216)] 54)
  rw [World.size_alloc] at this
  exact this
theorem bA4_get (f : Nat → UInt8) (k : Nat) (h : k < 4) : (bA4 f)[k]? = some (.int .u8 ((f k).toNat : Int)) := by
  rcases (by omega : k = 0 ∨ k = 1 ∨ k = 2 ∨ k = 3) with rfl | rfl | rfl | rfl <;> rfl
@[go_sem] theorem bA4_size (f : Nat → UInt8) : (bA4 f).size = 4 := by unfold bA4; simp
@[go_sem] theorem bA4_one (f : Nat → UInt8) : OneC (bA4 f) = true := by simp [OneC, bA4, Value.oneCell']
@[go_sem] theorem bA4_get0 (f : Nat → UInt8) : (bA4 f)[0]? = some (.int .u8 ((f 0).toNat : Int)) := by unfold bA4; simp
@[go_sem] theorem bA4_at0 (f : Nat → UInt8) (h : 0 < (bA4 f).size) : (bA4 f)[0] = .int .u8 ((f 0).toNat : Int) := by unfold bA4; simp
@[go_sem] theorem bA4_get1 (f : Nat → UInt8) : (bA4 f)[1]? = some (.int .u8 ((f 1).toNat : Int)) := by unfold bA4; simp
@[go_sem] theorem bA4_at1 (f : Nat → UInt8) (h : 1 < (bA4 f).size) : (bA4 f)[1] = .int .u8 ((f 1).toNat : Int) := by unfold bA4; simp
@[go_sem] theorem bA4_get2 (f : Nat → UInt8) : (bA4 f)[2]? = some (.int .u8 ((f 2).toNat : Int)) := by unfold bA4; simp
@[go_sem] theorem bA4_at2 (f : Nat → UInt8) (h : 2 < (bA4 f).size) : (bA4 f)[2] = .int .u8 ((f 2).toNat : Int) := by unfold bA4; simp
@[go_sem] theorem bA4_get3 (f : Nat → UInt8) : (bA4 f)[3]? = some (.int .u8 ((f 3).toNat : Int)) := by unfold bA4; simp
@[go_sem] theorem bA4_at3 (f : Nat → UInt8) (h : 3 < (bA4 f).size) : (bA4 f)[3] = .int .u8 ((f 3).toNat : Int) := by unfold bA4; simp
section
variable (ρ : Operand → Value) (dst : Option Tmp) (ty : TypeId) (pos : String) (after : Array Edge) (guard : Option (Nat × Bool))
@[go_sem ↓] theorem execOp_load_b4 (x : Operand) : execOp ρ { dst, op := .load 54 x, type := ty, pos, after, guard } = bigLoad 54 (ρ x) := rfl
@[go_sem ↓] theorem execOp_store_b4 (x y : Operand) : execOp ρ { dst, op := .store 54 x y, type := ty, pos, after, guard } = bigStore 54 (ρ x) (ρ y) := rfl
@[go_sem ↓] theorem execOp_alloc_b4 : execOp ρ { dst, op := .alloc 54, type := ty, pos, after, guard } = bigAlloc 54 := rfl
@[go_sem ↓] theorem execOp_box_b4 (x : Operand) : execOp ρ { dst, op := .box 54 x, type := ty, pos, after, guard } = bigBox 54 (ρ x) := rfl
end
theorem info_b4 : (Try.prog.info? 54).map (fun i => (i.zero, i.size)) = some (some (.agg (bA4 fun _ => 0)), 4) := by kernel_rfl
theorem sizeT_b4 : (Try.prog.info? 54).map (·.size) = some 4 := (zero_of_info info_b4).2
@[go_sem] theorem run_load_b4 (w : World) (g : Nat) (h : rowL w g = true) (hs : (rowAt w g).size = 4) : (bigLoad 54 (.pointer (some ⟨g, 0, none⟩))).run Try.prog w = .ok (.value (.agg (rowAt w g))) w := by
  rw [run_bigLoad 54 _ 4 Try.underlying54 rfl sizeT_b4 w g 0 h (by omega), Nat.zero_add, Array.extract_eq_self_of_le (by omega)]
@[go_sem] theorem run_store_b4 (w : World) (g : Nat) (c : Array Value) (h : rowL w g = true) (hs : (rowAt w g).size = 4) (hc : c.size = 4) (h1 : OneC c = true) : (bigStore 54 (.pointer (some ⟨g, 0, none⟩)) (.agg c)).run Try.prog w = .ok .skip (w.setRow g c) := by
  rw [run_bigStore 54 4 sizeT_b4 w g 0 c h hc (by omega) h1, layC_all _ _ (by omega)]
@[go_sem] theorem run_alloc_b4 (w : World) : (bigAlloc 54).run Try.prog w = .ok (.value (.pointer (some ⟨w.heap.size, 0, none⟩))) (w.alloc (.cells (bA4 fun _ => 0) 54)) := by
  simp only [bigAlloc, Instr.alloc, Sem.run_bind, (zero_of_info info_b4).1 w, Result.andThen_ok]
  rfl
@[go_sem] theorem run_box_b4 (w : World) (c : Array Value) : (bigBox 54 (.agg c)).run Try.prog w = .ok (.value (.pointer (some ⟨w.heap.size, 0, none⟩))) (w.alloc (.cells c 54)) := run_bigBox _ c w
def sealU (s : Sc) : Nat → Sc
  | 0 => s
  | k + 1 => upd (sealU s k) (60 + k) (sumB s k)
theorem sealU_all (s : Sc) : sealU s 4 = sealS s := by rw [sealS_sum]; rfl
theorem refBit_form (a : UInt8) (i : Nat) : ((((a.toNat : Int) / 2 ^ (i % 8)) % 2) == 1) = a.toNat.testBit (i % 8) := by
  rw [Nat.testBit_eq_decide_div_mod_eq]
  rw [Bool.eq_iff_iff, beq_iff_eq, decide_eq_true_iff]
  have e : ((a.toNat : Int) / 2 ^ (i % 8)) % 2 = ((a.toNat / 2 ^ (i % 8) % 2 : Nat) : Int) := by simp
  rw [e]; omega
set_option maxHeartbeats 400000 in
theorem refBit_any (s : Sc) (i : Nat) (w : World) (hi : i < 480) :
    Calls Try.prog 25 #[.agg (secA s), .int .i64 (i : Int)] w fun e w' => e = .returned (.bool (fbit s i)) ∧ w' = w.alloc (.cells (secA s) 29) := by
  have hc := secA_get s (i / 8) (by omega)
  have HF : Hid (_ = _) := refBit_form (s (i / 8)) i
  go_enter Try.func25, Try.ntmps25
  go_wp2
  go_ret
  exact ⟨by unfold fbit; rw [← HF.out]; rfl, rfl⟩
set_option maxHeartbeats 400000 in
theorem refSeal7_any (s : Sc) (w : World) :
    Calls Try.prog 23 #[.agg (secA s)] w fun e w' => e = .returned (.agg (secA (sealS s))) ∧ Below w.heap.size w w' := by
  go_enter Try.func23, Try.ntmps23
  go_wp2_with fail
  go_at_call 22
  have hR1 : ScR ((w.alloc (.cells (secA s) 29)).alloc (.cells (secA secZ) 29)) w.heap.size s := (ScR.new w s _).kept (below_alloc _ _)
  have hR2 : ScR ((w.alloc (.cells (secA s) 29)).alloc (.cells (secA secZ) 29)) (w.heap.size + 1) secZ := by
    have := ScR.new (w.alloc (.cells (secA s) 29)) secZ 29
    rw [World.size_alloc] at this
    exact this
  have hB : Below w.heap.size w ((w.alloc (.cells (secA s) 29)).alloc (.cells (secA secZ) 29)) := (below_alloc w _).alloc (by simp) _
  obtain ⟨g2, hg2⟩ : ∃ g, w.heap.size + 1 = g := ⟨_, rfl⟩
  obtain ⟨g1, hg1⟩ : ∃ g, w.heap.size = g := ⟨_, rfl⟩
  have hne : g1 ≠ g2 := by omega
  have hl1 : w.heap.size ≤ g1 := by omega
  have hl2 : w.heap.size ≤ g2 := by omega
  rw [hg2] at hR2
  rw [hg1] at hR1
  simp only [hg2]
  simp only [hg1]
  generalize (w.alloc (.cells (secA s) 29)).alloc (.cells (secA secZ) 29) = X at hB hR1 hR2 ⊢
  clear hg2 hg1
  refine (refSum7_any s _).mono ?_
  rintro e w1 ⟨rfl, hb1⟩
  replace hR1 := hR1.kept hb1
  replace hR2 := hR2.kept hb1
  replace hB := hB.trans (hb1.mono hB.size)
  clear hb1
  have hR3 : RowC (w1.alloc (.cells (bA4 (sumB s)) 54)) w1.heap.size (bA4 (sumB s)) := RowC.new _ _ _
  have H1 : Hid (ScR (w1.alloc (.cells (bA4 (sumB s)) 54)) g1 s) := hR1.kept (below_alloc _ _)
  have H2 : Hid (ScR (w1.alloc (.cells (bA4 (sumB s)) 54)) g2 secZ) := hR2.kept (below_alloc _ _)
  have HB : Hid (Below w.heap.size w (w1.alloc (.cells (bA4 (sumB s)) 54))) := hB.alloc hB.size _
  have hl3 : w.heap.size ≤ w1.heap.size := hB.size
  have hn13 : g1 ≠ w1.heap.size := by have := hR1.lt; omega
  have hn23 : g2 ≠ w1.heap.size := by have := hR2.lt; omega
  clear hR1 hR2 hB
  go_upto_region 2 with fail
  generalize w1.alloc (.cells (bA4 (sumB s)) 54) = X at H1 H2 hR3 HB ⊢
  generalize w1.heap.size = g3 at hR3 hl3 hn13 hn23 ⊢
  go_wp2_with fail
  go_loopw [4] (fun i wr => ∃ k : Nat, k ≤ 4 ∧ i = .int .i64 k ∧ ScR wr g1 (sealU s k) ∧ ScR wr g2 secZ ∧ RowC wr g3 (bA4 (sumB s)) ∧ Below w.heap.size w wr) (fun i _ => 4 - (intOf i).toNat)
  case atStart => exact ⟨0, by omega, rfl, H1.out, H2.out, hR3, HB.out⟩
  case round =>
    clear H1 H2 hR3 HB
    obtain ⟨k, hk, rfl, h1, h2, h3, hB⟩ := hrel
    by_cases hlt : k < 4
    · have hc3 := h3.cell k
      rw [bA4_get _ k hlt] at hc3
      have hc1 := h1.cell (60 + k) (by omega)
      have hf1 := h1.frozen (60 + k)
      have HR : Hid (ScR (wr.setCell ⟨g1, 60 + k, none⟩ (.int .u8 ((sumB s k).toNat : Int))) g1 (sealU s (k + 1))) := h1.set (60 + k) (sumB s k) (by omega)
      have HZ : Hid (ScR (wr.setCell ⟨g1, 60 + k, none⟩ (.int .u8 ((sumB s k).toNat : Int))) g2 secZ) := h2.set_ne _ _ hne
      have HQ : Hid (RowC (wr.setCell ⟨g1, 60 + k, none⟩ (.int .u8 ((sumB s k).toNat : Int))) g3 (bA4 (sumB s))) := h3.set_ne _ _ hn13
      have HB : Hid _ := hB.setCell (p := ⟨g1, 60 + k, none⟩) hl1 (.int .u8 ((sumB s k).toNat : Int))
      have hk1 : (k : Int) < 4 := by omega
      clear h1 h2 h3 hB
      generalize (sumB s k).toNat = vn at *
      generalize (sealU s k (60 + k)).toNat = old at hc1
      go_wp2
      go_roundw
      case rel => exact ⟨k + 1, by omega, by go_num, HR.out, HZ.out, HQ.out, HB.out⟩
      case measure => simp [intOf]; omega
    · obtain rfl : k = 4 := by omega
      rw [sealU_all] at h1
      have HR9 : Hid (ScR (wr.setRow g2 (secA (sealS s))) g2 (sealS s)) := ⟨rowOk_setRow_same _ _ _ h2.1 (secA_size _), rowAt_setRow_same _ _ _ h2.1⟩
      have HB : Hid _ := below_row hB hl2 (secA (sealS s))
      obtain ⟨r1, q1⟩ := h1
      obtain ⟨r2, q2⟩ := h2
      clear hB h3
      go_wp2
      exact bodyPost_sec 2 g2 rfl rfl rfl HR9.out.1 ⟨by rw [HR9.out.2], HB.out⟩
theorem sealed_form (s : Sc) : (((s 60).toNat : Int) == ((sumB s 0).toNat : Int) && ((s 61).toNat : Int) == ((sumB s 1).toNat : Int) && ((s 62).toNat : Int) == ((sumB s 2).toNat : Int) && ((s 63).toNat : Int) == ((sumB s 3).toNat : Int)) = isSl s := by
  have e : ∀ a b : UInt8, ((a.toNat : Int) == (b.toNat : Int)) = decide (a = b) := fun a b => by
    rw [Bool.eq_iff_iff, beq_iff_eq, decide_eq_true_iff]
    constructor
    · intro h; exact UInt8.toNat.inj (by omega)
    · intro h; rw [h]
  rw [e, e, e, e, Bool.eq_iff_iff, isSl_iff]
  simp only [Bool.and_eq_true, decide_eq_true_iff]
  rw [sealS_sum]
  constructor
  · rintro ⟨⟨⟨h0, h1⟩, h2⟩, h3⟩
    apply kS_of
    intro i _
    unfold upd
    by_cases k3 : i = 63
    · rw [if_pos k3, k3, h3]
    · rw [if_neg k3]
      by_cases k2 : i = 62
      · rw [if_pos k2, k2, h2]
      · rw [if_neg k2]
        by_cases k1 : i = 61
        · rw [if_pos k1, k1, h1]
        · rw [if_neg k1]
          by_cases k0 : i = 60
          · rw [if_pos k0, k0, h0]
          · rw [if_neg k0]
  · intro h
    have h0 := kS_at h 60 (by omega)
    have h1 := kS_at h 61 (by omega)
    have h2 := kS_at h 62 (by omega)
    have h3 := kS_at h 63 (by omega)
    simp [upd] at h0 h1 h2 h3
    exact ⟨⟨⟨h0.symm, h1.symm⟩, h2.symm⟩, h3.symm⟩
end Go.Proofs.Ytfnffkommcepoaa
