
import Derived.Test.YtakbapdonngpiaaBit1
namespace Go.Proofs.Ytakbapdonngpiaa
open Go.RowKit

/-! The superblock -/
def supB (n : Nat) : Sc := fun j =>
  if j = 0 then 65 else if j = 1 then 83 else if j = 2 then 83 else if j = 3 then 65 else if j = 4 then 89 else if j = 5 then 1 else if j = 8 then UInt8.ofNat n else if j = 9 then UInt8.ofNat (n / 256) else 0
def supS (n : Nat) : Sc := sealS (supB n)
def supOk (n : Int) : Bool := decide (64 ≤ n) && decide (n ≤ 1024)
def supIs (s : Sc) (n : Int) : Bool := supOk n && secEq s (supS n.toNat)
theorem supOk_iff (n : Int) : supOk n = true ↔ 64 ≤ n ∧ n ≤ 1024 := by simp [supOk]
theorem supB_high (n j : Nat) (h : 10 ≤ j) : supB n j = 0 := by
  unfold supB
  rw [if_neg (by omega), if_neg (by omega), if_neg (by omega), if_neg (by omega), if_neg (by omega), if_neg (by omega), if_neg (by omega), if_neg (by omega)]
theorem supB_up (n : Nat) : upS (supB n) 10 = supB n := by
  funext j
  unfold upS
  by_cases h : j < 10
  · rw [if_pos h]
  · rw [if_neg h, supB_high n j (by omega)]
theorem supS_low (n j : Nat) (h : j < 60) : supS n j = supB n j := sealS_low _ _ h
theorem supS_inj {n m : Nat} (hn : n ≤ 1024) (hm : m ≤ 1024) (h : secEq (supS n) (supS m) = true) : n = m := by
  rw [secEq_dec, decide_eq_true_iff] at h
  have h8 := kS_at h 8 (by omega)
  have h9 := kS_at h 9 (by omega)
  rw [supS_low n 8 (by omega), supS_low m 8 (by omega)] at h8
  rw [supS_low n 9 (by omega), supS_low m 9 (by omega)] at h9
  simp only [supB] at h8 h9
  have g8 := congrArg UInt8.toNat h8
  have g9 := congrArg UInt8.toNat h9
  simp [UInt8.toNat_ofNat'] at g8 g9
  omega
theorem secEq_refl7 (s : Sc) : secEq s s = true := by rw [secEq_dec]; simp
theorem turn_one (s : Sc) (j : Nat) (b : UInt8) (hj : j < 64) (hb : b ≠ 0) : secEq (upd s j (s j ^^^ b)) s = false := by
  rw [secEq_dec, decide_eq_false_iff_not]
  intro h
  have h1 := kS_at h j hj
  simp only [upd, if_true] at h1
  apply hb
  have h2 := congrArg (fun x => s j ^^^ x) h1
  simpa [← UInt8.xor_assoc] using h2
theorem or_one_ne : ∀ a : Fin 256, (UInt8.ofNat a.val ||| 1) ≠ 0 := by decide +kernel
theorem or1_ne (y : UInt8) : (y ||| 1) ≠ 0 := by
  have h := or_one_ne ⟨y.toNat, y.toNat_lt⟩
  rw [UInt8.ofNat_toNat] at h
  exact h
/-! assayref11 -/
def tenA (n : Nat) : Array Value := #[.int .u8 65, .int .u8 83, .int .u8 83, .int .u8 65, .int .u8 89, .int .u8 1, .int .u8 0, .int .u8 0, .int .u8 ((n : Int) % 256), .int .u8 ((n : Int) / 256)]
theorem tenA_get (n i : Nat) (hn : n ≤ 1024) (h : i < 10) : (tenA n)[i]? = some (.int .u8 ((supB n i).toNat : Int)) := by
  rcases (by omega : i = 0 ∨ i = 1 ∨ i = 2 ∨ i = 3 ∨ i = 4 ∨ i = 5 ∨ i = 6 ∨ i = 7 ∨ i = 8 ∨ i = 9) with rfl | rfl | rfl | rfl | rfl | rfl | rfl | rfl | rfl | rfl
  · rfl
  · rfl
  · rfl
  · rfl
  · rfl
  · rfl
  · rfl
  · rfl
  · unfold tenA supB; simp
  · unfold tenA supB; simp; omega
set_option maxHeartbeats 400000 in
theorem rsPut_no (n : Int) (w : World) (h : ¬ (64 ≤ n ∧ n ≤ 1024)) (h0 : -9223372036854775808 ≤ n) (h1 : n ≤ 9223372036854775807) :
    Calls Try.prog 8 #[.int .i64 n] w fun e w' => e = .returned (.tuple #[.agg (secA secZ), .int .i64 22]) ∧ Below w.heap.size w w' := by
  have hB : Below w.heap.size w ((w.alloc (.cells (secA secZ) 25)).alloc (.cells (secA secZ) 25)) := (below_alloc w _).alloc (by simp) _
  have hor : n < 64 ∨ (¬ n < 64 ∧ 1024 < n) := by omega
  clear h
  have hR : ScR ((w.alloc (.cells (secA secZ) 25)).alloc (.cells (secA secZ) 25)) w.heap.size secZ := (ScR.new w secZ _).kept (below_alloc _ _)
  rcases hor with h | ⟨h, h2⟩
  all_goals
    go_enter Try.func8, Try.ntmps8
    go_wp2
    exact sec_bodyPost2 2 3 w.heap.size secZ rfl rfl rfl hR ⟨rfl, hB⟩
set_option maxRecDepth 100000 in
set_option maxHeartbeats 400000 in
theorem rsPut_yes (n : Nat) (w : World) (h64 : 64 ≤ n) (h1024 : n ≤ 1024) :
    Calls Try.prog 8 #[.int .i64 (n : Int)] w fun e w' => e = .returned (.tuple #[.agg (secA (supS n)), .int .i64 0]) ∧ Below w.heap.size w w' := by
  have hB : Below w.heap.size w ((w.alloc (.cells (secA secZ) 25)).alloc (.cells (secA secZ) 25)) := (below_alloc w _).alloc (by simp) _
  have hR1 : ScR ((w.alloc (.cells (secA secZ) 25)).alloc (.cells (secA secZ) 25)) w.heap.size secZ := (ScR.new w secZ _).kept (below_alloc _ _)
  have hR2 : ScR ((w.alloc (.cells (secA secZ) 25)).alloc (.cells (secA secZ) 25)) (w.heap.size + 1) secZ := by
    have := ScR.new (w.alloc (.cells (secA secZ) 25)) secZ 25
    rw [World.size_alloc] at this
    exact this
  have hn1 : ¬ (n : Int) < 64 := by omega
  have hn2 : ¬ (1024 : Int) < (n : Int) := by omega
  go_enter Try.func8, Try.ntmps8
  go_upto_region 4 with fail
  obtain ⟨g2, hg2⟩ : ∃ g, w.heap.size + 1 = g := ⟨_, rfl⟩
  obtain ⟨g1, hg1⟩ : ∃ g, w.heap.size = g := ⟨_, rfl⟩
  have hne : g2 ≠ g1 := by omega
  have hl1 : w.heap.size ≤ g1 := by omega
  have hl2 : w.heap.size ≤ g2 := by omega
  rw [hg2] at hR2
  rw [hg1] at hR1
  simp only [hg2]
  simp only [hg1]
  generalize (w.alloc (.cells (secA secZ) 25)).alloc (.cells (secA secZ) 25) = X at hB hR1 hR2 ⊢
  clear hg2 hg1
  go_upto_region 5 with fail
  have hRb : RowC (X.alloc (.cells (tenA n) 5)) X.heap.size (tenA n) := RowC.new _ _ _
  have H1 : Hid (ScR (X.alloc (.cells (tenA n) 5)) g1 secZ) := hR1.kept (below_alloc _ _)
  have H2 : Hid (ScR (X.alloc (.cells (tenA n) 5)) g2 secZ) := hR2.kept (below_alloc _ _)
  have HB : Hid (Below w.heap.size w (X.alloc (.cells (tenA n) 5))) := hB.alloc hB.size _
  have hnb : g2 ≠ X.heap.size := by have := hR2.lt; omega
  change Code.wp _ _ _ _ (X.alloc (.cells (tenA n) 5))
  clear hR1 hR2 hB
  generalize X.alloc (.cells (tenA n) 5) = Y at H1 H2 HB hRb ⊢
  generalize X.heap.size = gb at hRb hnb ⊢
  go_wp2_with fail
  go_loopw [6] (fun v wr => ∃ i : Nat, i ≤ 10 ∧ v = .int .i64 i ∧ ScR wr g2 (upS (supB n) i) ∧ ScR wr g1 secZ ∧ RowC wr gb (tenA n) ∧ Below w.heap.size w wr) (fun v _ => 10 - (intOf v).toNat)
  case atStart => exact ⟨0, by omega, rfl, by rw [upS_zero]; exact H2.out, H1.out, hRb, HB.out⟩
  case round =>
    clear H1 H2 HB hRb
    obtain ⟨i, hi, rfl, h2, h1, hb, hB⟩ := hrel
    by_cases hlt : i < 10
    · have hlt' : (i : Int) < 10 := by omega
      have hi64 : (i : Int) < 64 := by omega
      have hcb := hb.cell i
      rw [tenA_get n i h1024 hlt] at hcb
      have hc2 := h2.cell i (by omega)
      have hf2 := h2.frozen i
      have HR : Hid (ScR (wr.setCell ⟨g2, i, none⟩ (.int .u8 ((supB n i).toNat : Int))) g2 (upS (supB n) (i + 1))) := by show ScR _ _ _; rw [upS_succ]; exact h2.set i (supB n i) (by omega)
      have HZ : Hid (ScR (wr.setCell ⟨g2, i, none⟩ (.int .u8 ((supB n i).toNat : Int))) g1 secZ) := h1.set_ne _ _ hne
      have HQ : Hid (RowC (wr.setCell ⟨g2, i, none⟩ (.int .u8 ((supB n i).toNat : Int))) gb (tenA n)) := hb.set_ne _ _ hnb
      have HB : Hid _ := hB.setCell (p := ⟨g2, i, none⟩) hl2 (.int .u8 ((supB n i).toNat : Int))
      clear h1 h2 hb hB
      generalize (supB n i).toNat = vn at *
      generalize (upS (supB n) i i).toNat = old at hc2
      go_wp2
      go_roundw
      case rel => exact ⟨i + 1, by omega, by go_num, HR.out, HZ.out, HQ.out, HB.out⟩
      case measure => simp [intOf]; omega
    · obtain rfl : i = 10 := by omega
      rw [supB_up] at h2
      obtain ⟨wo, rfl⟩ : ∃ wo, wo = wr := ⟨_, rfl⟩
      have hi := sec_isB (w := wo) (n := g2) (m := 60) (s := supB n) 64 h2.1 h2.2 (by omega)
      rw [subL_length] at hi
      have hc := refSum_any _ (subL (supB n) 0 60) _ (by rw [subL_length]; unfold maxLen; omega) hi
      obtain ⟨x, hx⟩ : ∃ x, (sumL (subL (supB n) 0 60)).toNat = x := ⟨_, rfl⟩
      have hxn : x < 4294967296 := by rw [← hx]; exact (sumL (subL (supB n) 0 60)).isLt
      have hsum : ∀ k, sumB (supB n) k = UInt8.ofNat (x / 256 ^ k) := fun k => by unfold sumB secSum; rw [hx]
      rw [hx] at hc
      have h2' := h2
      obtain ⟨r2, q2⟩ := h2'
      clear hi hx
      go_wp2_with fail
      go_at_call 15
      refine hc.mono ?_
      rintro e w5 ⟨rfl, hw5⟩
      subst hw5
      clear hc r2 q2
      have H1 : Hid (ScR w5 g1 secZ) := h1
      have H2 : Hid (ScR w5 g2 (supB n)) := h2
      have HB : Hid (Below w.heap.size w w5) := hB
      clear h1 h2 hB hb
      go_wp2_with fail
      go_loopw [8] (fun v wr => ∃ k : Nat, k ≤ 4 ∧ v = .int .i64 k ∧ ScR wr g2 (sealU (supB n) k) ∧ ScR wr g1 secZ ∧ Below w.heap.size w wr) (fun v _ => 4 - (intOf v).toNat)
      case atStart => exact ⟨0, by omega, rfl, H2.out, H1.out, HB.out⟩
      case round =>
        clear H1 H2 HB
        obtain ⟨k, hk, rfl, h2, h1, hB⟩ := hrel
        by_cases hlt4 : k < 4
        · have hlt4' : (k : Int) < 4 := by omega
          have hc2 := h2.cell (60 + k) (by omega)
          have hf2 := h2.frozen (60 + k)
          obtain ⟨v8, hv8⟩ : ∃ v8, sumB (supB n) k = v8 := ⟨_, rfl⟩
          have hsh : ((x : Int) / 2 ^ (8 * k)) % 256 = (v8.toNat : Int) := by rw [← hv8, hsum]; exact shr_form x k
          have HR : Hid (ScR (wr.setCell ⟨g2, 60 + k, none⟩ (.int .u8 (v8.toNat : Int))) g2 (sealU (supB n) (k + 1))) := by show ScR _ _ _; rw [sealU, hv8]; exact h2.set (60 + k) v8 (by omega)
          have HZ : Hid (ScR (wr.setCell ⟨g2, 60 + k, none⟩ (.int .u8 (v8.toNat : Int))) g1 secZ) := h1.set_ne _ _ hne
          have HB : Hid _ := hB.setCell (p := ⟨g2, 60 + k, none⟩) hl2 (.int .u8 (v8.toNat : Int))
          clear h1 h2 hB hv8
          generalize v8.toNat = vn at *
          generalize (sealU (supB n) k (60 + k)).toNat = old at hc2
          go_wp2
          go_roundw
          case rel => exact ⟨k + 1, by omega, by go_num, HR.out, HZ.out, HB.out⟩
          case measure => simp [intOf]; omega
        · obtain rfl : k = 4 := by omega
          rw [sealU_all] at h2
          have HR9 : Hid (ScR (wr.setRow g1 (secA (supS n))) g1 (supS n)) := ⟨rowOk_setRow_same _ _ _ h1.1 (secA_size _), rowAt_setRow_same _ _ _ h1.1⟩
          have HB : Hid _ := below_row hB hl1 (secA (supS n))
          have h2' : ScR wr g2 (supS n) := h2
          obtain ⟨r1, q1⟩ := h2'
          obtain ⟨r2, q2⟩ := h1
          clear hB h2
          go_wp2
          exact sec_bodyPost2 2 3 g1 (supS n) rfl rfl rfl HR9.out ⟨rfl, HB.out⟩
/-! What super owes -/
def supE (n : Int) : Int := bif supOk n then 0 else 22
def supR (n : Int) : Sc := bif supOk n then supS n.toNat else secZ
def SPutOk : Prop := ∀ (n : Int) (w : World), -9223372036854775808 ≤ n → n ≤ 9223372036854775807 →
  Calls Try.prog 5 #[.int .i64 n] w fun e w' => e = .returned (.tuple #[.agg (secA (supR n)), .int .i64 (supE n)]) ∧ Below w.heap.size w w'
def SIsOk : Prop := ∀ (s : Sc) (n : Int) (w : World), -9223372036854775808 ≤ n → n ≤ 9223372036854775807 →
  Calls Try.prog 7 #[.agg (secA s), .int .i64 n] w fun e w' => e = .returned (.bool (supIs s n)) ∧ Below w.heap.size w w'
theorem rsPut_any (n : Int) (w : World) (h0 : -9223372036854775808 ≤ n) (h1 : n ≤ 9223372036854775807) :
    Calls Try.prog 8 #[.int .i64 n] w fun e w' => e = .returned (.tuple #[.agg (secA (supR n)), .int .i64 (supE n)]) ∧ Below w.heap.size w w' := by
  unfold supR supE
  by_cases h : 64 ≤ n ∧ n ≤ 1024
  · rw [(supOk_iff n).2 h]
    obtain ⟨N, rfl⟩ := Int.eq_ofNat_of_zero_le (show 0 ≤ n by omega)
    simp only [cond_true, Int.toNat_natCast]
    exact rsPut_yes N w (by omega) (by omega)
  · have hf : supOk n = false := by rw [Bool.eq_false_iff]; intro hh; exact h ((supOk_iff n).1 hh)
    rw [hf]
    exact rsPut_no n w h h0 h1
set_option maxHeartbeats 400000 in
theorem rsIs_any (s : Sc) (n : Int) (w : World) (h0 : -9223372036854775808 ≤ n) (h1 : n ≤ 9223372036854775807) :
    Calls Try.prog 9 #[.agg (secA s), .int .i64 n] w fun e w' => e = .returned (.bool (supIs s n)) ∧ Below w.heap.size w w' := by
  have hp := fun w => rsPut_any n w h0 h1
  unfold supIs
  unfold supR supE at hp
  go_enter Try.func9, Try.ntmps9
  go_wp2_with fail
  go_at_call 8
  have hR : ScR (w.alloc (.cells (secA s) 25)) w.heap.size s := ScR.new w s _
  have hB : Below w.heap.size w (w.alloc (.cells (secA s) 25)) := below_alloc _ _
  obtain ⟨g1, hg1⟩ : ∃ g, w.heap.size = g := ⟨_, rfl⟩
  rw [hg1] at hR
  simp only [hg1]
  generalize w.alloc (.cells (secA s) 25) = X at hB hR ⊢
  refine (hp _).mono ?_
  rintro e w1 ⟨rfl, hb1⟩
  clear hp
  replace hR := hR.kept hb1
  replace hB := hB.trans (hb1.mono hB.size)
  clear hb1 hg1
  cases hok : supOk n
  · have HB : Hid (Below w.heap.size w (w1.alloc (.cells (secA secZ) 25))) := hB.alloc hB.size _
    simp only [cond_false]
    clear hR hB
    go_wp2
    go_ret
    exact ⟨by rw [hok]; rfl, HB.out⟩
  · have HB : Hid (Below w.heap.size w (w1.alloc (.cells (secA (supS n.toNat)) 25))) := hB.alloc hB.size _
    simp only [cond_true]
    have hlt := hR.lt
    obtain ⟨r1, q1⟩ := hR
    clear hB
    go_wp2
    go_ret
    exact ⟨by rw [hok]; rfl, HB.out⟩
end Go.Proofs.Ytakbapdonngpiaa
