
import Derived.Test.YtakbapdonngpiaaSup1
import Derived.Test.YtakbapdonngpiaaGeoT
import Derived.WalkMore
import Derived.Lib.SlBytesConst
namespace Go.Proofs.Ytakbapdonngpiaa
open Go.RowKit

/-! super.firstOther, left by a label -/
theorem secEq_of_all {s t : Sc} (h : ∀ j, j < 64 → s j = t j) : secEq s t = true := by
  rw [secEq_dec, decide_eq_true_iff]
  unfold kS
  exact List.map_congr_left fun j hj => by rw [h j (by simpa using hj)]
theorem secEq_ne {s t : Sc} {j : Nat} (hj : j < 64) (h : s j ≠ t j) : secEq s t = false := by
  rw [secEq_dec, decide_eq_false_iff_not]
  exact fun h9 => h (kS_at h9 j hj)
set_option maxHeartbeats 400000 in
theorem firstOther_any (s t : Sc) (w : World) :
    Calls Try.prog 14 #[.agg (secA s), .agg (secA t)] w fun e w' => ∃ k : Nat, e = .returned (.int .i64 (k : Int)) ∧ ((k : Int) == 64) = secEq s t ∧ Below w.heap.size w w' := by
  have hR1 : ScR ((w.alloc (.cells (secA s) 25)).alloc (.cells (secA t) 25)) w.heap.size s := (ScR.new w s _).kept (below_alloc _ _)
  have hR2 : ScR ((w.alloc (.cells (secA s) 25)).alloc (.cells (secA t) 25)) (w.heap.size + 1) t := by
    have := ScR.new (w.alloc (.cells (secA s) 25)) t 25
    rw [World.size_alloc] at this
    exact this
  have hB : Below w.heap.size w ((w.alloc (.cells (secA s) 25)).alloc (.cells (secA t) 25)) := (below_alloc w _).alloc (by simp) _
  go_enter Try.func14, Try.ntmps14
  go_wp2; go_step3; go_wp2; go_step3; go_wp2
  obtain ⟨g2, hg2⟩ : ∃ g, w.heap.size + 1 = g := ⟨_, rfl⟩
  obtain ⟨g1, hg1⟩ : ∃ g, w.heap.size = g := ⟨_, rfl⟩
  rw [hg2] at hR2
  rw [hg1] at hR1
  simp only [hg2]
  simp only [hg1]
  generalize (w.alloc (.cells (secA s) 25)).alloc (.cells (secA t) 25) = X at hB hR1 hR2 ⊢
  clear hg2 hg1
  go_loopw [5] (fun v wr => ∃ k : Nat, k ≤ 64 ∧ v = .int .i64 k ∧ (∀ j, j < k → s j = t j) ∧ ScR wr g1 s ∧ ScR wr g2 t ∧ Below w.heap.size w wr) (fun v _ => 64 - (intOf v).toNat)
  case atStart => exact ⟨0, by omega, rfl, fun j hj => by omega, hR1, hR2, hB⟩
  case round =>
    clear hR1 hR2 hB
    obtain ⟨k, hk, rfl, hj, h1, h2, hB⟩ := hrel
    have HB : Hid (Below w.heap.size w wr) := hB
    clear hB
    by_cases hlt : k < 64
    · have hlt' : (k : Int) < 64 := by omega
      have hc1 := h1.cell k hlt
      have hc2 := h2.cell k hlt
      by_cases he : s k = t k
      · have HJ : Hid (∀ j, j < k + 1 → s j = t j) := fun j h9 => by
          rcases Nat.lt_or_eq_of_le (Nat.le_of_lt_succ h9) with h | rfl
          · exact hj j h
          · exact he
        have H1 : Hid (ScR wr g1 s) := h1
        have H2 : Hid (ScR wr g2 t) := h2
        rw [he] at hc1
        clear hj h1 h2 he
        generalize (t k).toNat = x at hc1 hc2
        go_wp2
        go_roundw
        case rel => exact ⟨k + 1, by omega, by go_num, HJ.out, H1.out, H2.out, HB.out⟩
        case measure => simp [intOf]; omega
      · have hne : ¬ ((s k).toNat : Int) = ((t k).toNat : Int) := fun h9 => he (UInt8.toNat_inj.1 (by omega))
        have HF : Hid (((k : Int) == 64) = secEq s t) := by
          show _ = _
          rw [secEq_ne hlt he]
          simp; omega
        clear hj h1 h2 he
        generalize (s k).toNat = x at hc1 hne
        generalize (t k).toNat = y at hc2 hne
        go_wp2
        try rw [Exit.noGoto_ret]
        go_ret
        exact ⟨k, rfl, HF.out, HB.out⟩
    · obtain rfl : k = 64 := by omega
      have HF : Hid ((((64 : Nat) : Int) == 64) = secEq s t) := by
        show _ = _
        rw [secEq_of_all hj]; rfl
      clear hj h1 h2
      go_wp2
      try rw [Exit.noGoto_ret]
      go_ret
      exact ⟨64, rfl, HF.out, HB.out⟩
/-! super.Put -/
set_option maxHeartbeats 400000 in
theorem sPut_no (n : Int) (w : World) (h : ¬ (64 ≤ n ∧ n ≤ 1024)) (h0 : -9223372036854775808 ≤ n) (h1 : n ≤ 9223372036854775807) :
    Calls Try.prog 5 #[.int .i64 n] w fun e w' => e = .returned (.tuple #[.agg (secA secZ), .int .i64 22]) ∧ Below w.heap.size w w' := by
  have hO := fun w => of_no n w h h0 h1
  clear h h0 h1
  go_enter Try.func5, Try.ntmps5
  go_wp2_with (go_at_call 10; refine (hO _).mono ?_; rintro e w1 ⟨rfl, hB⟩; have hR : ScR w1 w.heap.size secZ := (ScR.new w _ _).kept hB; have HR : Hid (ScR w1 w.heap.size secZ) := hR; have hl : w.heap.size < w1.heap.size := hR.lt; obtain ⟨q1, q2⟩ := hR)
  have hB1 : Below w.heap.size w w1 := (below_alloc w _).trans (hB.mono (by simp))
  refine sec_bodyPost2 2 3 w.heap.size secZ rfl rfl rfl ?_ ⟨rfl, ?_⟩
  · exact ScR.kept ⟨rowOk_setRow_same _ _ _ HR.out.1 (secA_size _), rowAt_setRow_same _ _ _ HR.out.1⟩ (below_alloc _ _)
  · exact (below_row hB1 (Nat.le_refl _) _).alloc (by simp; omega) _
def kindL : List UInt8 := [65, 83, 83, 65, 89, 1]
theorem geoF_0s {n : Int} (h0 : 64 ≤ n) (h1 : n ≤ 1024) : geoF n 0 = n := by unfold geoF; simp [h0, h1]
theorem sup_laid (n : Nat) (h : n ≤ 1024) : putI (layI secZ 0 kindL) 8 (n : Int).toNat 4 = supB n := by
  funext j
  have hk : inB 0 (kindL.length : Int) = true := by decide
  have h8 : inB 8 ((4 : Nat) : Int) = true := by decide
  unfold putI layI
  rw [if_pos h8, if_pos hk]
  show putN _ 8 _ 4 j = _
  unfold putN
  by_cases h1 : 8 ≤ j ∧ j < 8 + 4
  · rw [if_pos h1, Int.toNat_natCast]
    rcases (by omega : j = 8 ∨ j = 9 ∨ j = 10 ∨ j = 11) with rfl | rfl | rfl | rfl
    · simp [supB]
    · simp [supB]
    · have : n / 256 ^ 2 = 0 := by omega
      simp [supB, this]
    · have : n / 256 ^ 3 = 0 := by omega
      simp [supB, this]
  · rw [if_neg h1]
    unfold layL
    by_cases h2 : (0 : Int).toNat ≤ j ∧ j < (0 : Int).toNat + kindL.length
    · rw [dif_pos h2]
      have h3 : j < 6 := Nat.lt_of_lt_of_le h2.2 (by decide)
      rcases (by omega : j = 0 ∨ j = 1 ∨ j = 2 ∨ j = 3 ∨ j = 4 ∨ j = 5) with rfl | rfl | rfl | rfl | rfl | rfl <;> rfl
    · rw [dif_neg h2]
      have h3 : ¬ j < 6 := fun h => h2 ⟨Nat.zero_le _, Nat.lt_of_lt_of_le h (by decide)⟩
      unfold supB
      rw [if_neg (by omega), if_neg (by omega), if_neg (by omega), if_neg (by omega), if_neg (by omega), if_neg (by omega), if_neg (by omega), if_neg (by omega)]
      rfl
set_option maxHeartbeats 400000 in
theorem sPut_yes (n : Nat) (w : World) (h64 : 64 ≤ n) (h1024 : n ≤ 1024) :
    Calls Try.prog 5 #[.int .i64 (n : Int)] w fun e w' => e = .returned (.tuple #[.agg (secA (supS n)), .int .i64 0]) ∧ Below w.heap.size w w' := by
  have hO := fun w => of_yes n w (by omega) (by omega)
  go_enter Try.func5, Try.ntmps5
  go_upto_region 4 with (go_at_call 10; refine (hO _).mono ?_; rintro e w1 ⟨rfl, hB⟩; have hR : ScR w1 w.heap.size secZ := (ScR.new w _ _).kept hB; have HR : Hid (ScR w1 w.heap.size secZ) := hR; have hl : w.heap.size < w1.heap.size := hR.lt; obtain ⟨q1, q2⟩ := hR)
  have hB1 : Below w.heap.size w w1 := (below_alloc w _).trans (hB.mono (by simp))
  have hR : ScR (w1.alloc (.cells (gA (geoF n)) 37)) w.heap.size secZ := HR.out.kept (below_alloc _ _)
  have hG : RowC (w1.alloc (.cells (gA (geoF n)) 37)) w1.heap.size (gA (geoF n)) := RowC.new _ _ _
  replace hB1 : Below w.heap.size w (w1.alloc (.cells (gA (geoF n)) 37)) := hB1.alloc (by omega) _
  clear HR q1 q2 hB hO
  generalize w1.alloc (.cells (gA (geoF n)) 37) = X at hB1 hR hG ⊢
  generalize w1.heap.size = gg at hl hG ⊢
  obtain ⟨gs, hgs⟩ : ∃ g, w.heap.size = g := ⟨_, rfl⟩
  rw [hgs] at hl hR
  simp only [hgs]
  have hf := geoF_0s (n := n) (by omega) (by omega)
  have hn0 : (0 : Int) ≤ n := by omega
  have hn1 : (n : Int) < 4294967296 := by omega
  have kc := Lib.run_convert_bytes_const (P := Try.prog) X 41 5 #[.int .u8 65, .int .u8 83, .int .u8 83, .int .u8 65, .int .u8 89, .int .u8 1] 6 6 Try.underlying41 Try.underlying5
  have k7 : (#[.int .u8 65, .int .u8 83, .int .u8 83, .int .u8 65, .int .u8 89, .int .u8 1] : Array Value).size = 6 := rfl
  rw [k7] at kc
  clear k7
  go_wp2_with fail
  clear kc
  obtain ⟨gb, hgb⟩ : ∃ g, X.heap.size = g := ⟨_, rfl⟩
  have hy : IsB (X.alloc (.cells #[.int .u8 65, .int .u8 83, .int .u8 83, .int .u8 65, .int .u8 89, .int .u8 1] 5 (6, 7))) (.slice (some ⟨X.heap.size, 0, none⟩) 6 6) kindL := by
    refine .inr ⟨⟨X.heap.size, 0, none⟩, 6, rfl, fun i hi => ?_⟩
    have hi6 : i < 6 := hi
    rw [addr_add, Nat.zero_add, World.cell?_alloc_mark]
    rcases (by omega : i = 0 ∨ i = 1 ∨ i = 2 ∨ i = 3 ∨ i = 4 ∨ i = 5) with rfl | rfl | rfl | rfl | rfl | rfl <;> rfl
  have hbx := below_alloc X (.cells #[.int .u8 65, .int .u8 83, .int .u8 83, .int .u8 65, .int .u8 89, .int .u8 1] 5 (6, 7))
  replace hR := hR.kept hbx
  replace hG := hG.kept hbx
  replace hB1 := hB1.trans (hbx.mono hB1.size)
  clear hbx
  generalize X.alloc (.cells #[.int .u8 65, .int .u8 83, .int .u8 83, .int .u8 65, .int .u8 89, .int .u8 1] 5 (6, 7)) = Y at hB1 hR hG hy ⊢
  simp only [hgb] at hy ⊢
  clear hgb
  refine (putBytes_any secZ 0 _ kindL Y (by omega) (by omega) (by decide) hy).mono ?_
  rintro e w2 ⟨rfl, hb2⟩
  replace hR := hR.kept hb2
  replace hG := hG.kept hb2
  replace hB1 := hB1.trans (hb2.mono hB1.size)
  have hsl := sup_laid n h1024
  generalize layI secZ 0 kindL = s1 at hsl ⊢
  clear hb2 hy
  go_upto_region 5 with fail
  have hba := below_alloc w2 (.cells (secA s1) 25)
  have hS : ScR (w2.alloc (.cells (secA s1) 25)) w2.heap.size s1 := ScR.new _ _ _
  have hgl : gg < w2.heap.size := hG.lt
  have hsl2 : gs < w2.heap.size := hR.lt
  replace hR := hR.kept hba
  replace hG := hG.kept hba
  replace hB1 := hB1.trans (hba.mono hB1.size)
  have hgw : w.heap.size ≤ w2.heap.size := by omega
  clear hba
  generalize w2.alloc (.cells (secA s1) 25) = Z at hB1 hR hG hS ⊢
  generalize w2.heap.size = gt at hS hgl hsl2 hgw ⊢
  have hc0 := hG.cell 0
  rw [gA_get0, hf] at hc0
  have hS' : ScR Z gt s1 := hS
  have hw : IntKind.u32.wrap (n : Int) = n := by unfold IntKind.wrap; simp [IntKind.bits, IntKind.signed]; omega
  clear hG
  have HR : Hid (ScR Z gs secZ) := hR
  clear hR
  obtain ⟨r1, r2⟩ := hS'
  go_wp2_with fail
  refine (putU32_any s1 8 n Z (by omega) (by omega) (by omega) (by omega)).mono ?_
  rintro e w3 ⟨rfl, hb3⟩
  rw [hsl]
  replace HR : Hid (ScR w3 gs secZ) := HR.out.kept hb3
  replace hS := hS.kept hb3
  replace hB1 := hB1.trans (hb3.mono hB1.size)
  clear r1 r2 hb3 hsl hc0 hw
  have hS' : ScR w3 gt s1 := hS
  have hS2 : ScR (w3.setRow gt (secA (supB n))) gt (supB n) := ⟨rowOk_setRow_same _ _ _ hS.1 (secA_size _), rowAt_setRow_same _ _ _ hS.1⟩
  have hB2 : Below w.heap.size w (w3.setRow gt (secA (supB n))) := below_row hB1 hgw _
  have hR2 : ScR (w3.setRow gt (secA (supB n))) gs secZ := ⟨by rw [rowOk_setRow_other _ _ _ _ (by omega)]; exact HR.out.1, by rw [rowAt_setRow_other _ _ _ _ (by omega)]; exact HR.out.2⟩
  obtain ⟨r1, r2⟩ := hS'
  go_upto_region 6 with fail
  clear r1 r2 hS hB1 HR
  generalize w3.setRow gt (secA (supB n)) = V at hS2 hB2 hR2 ⊢
  have hS' : ScR V gt (supB n) := hS2
  obtain ⟨r1, r2⟩ := hS'
  go_wp2_with fail
  refine (seal_any (supB n) V).mono ?_
  rintro e w4 ⟨rfl, hb4⟩
  replace hR2 := hR2.kept hb4
  replace hB2 := hB2.trans (hb4.mono hB2.size)
  clear r1 r2 hS2 hb4
  have hR9 : ScR (w4.setRow gs (secA (supS n))) gs (supS n) := ⟨rowOk_setRow_same _ _ _ hR2.1 (secA_size _), rowAt_setRow_same _ _ _ hR2.1⟩
  have hB9 : Below w.heap.size w (w4.setRow gs (secA (supS n))) := below_row hB2 (by omega) _
  obtain ⟨r1, r2⟩ := hR2
  have hss : sealS (supB n) = supS n := rfl
  rw [hss]
  go_wp2
  exact sec_bodyPost2 2 3 gs (supS n) rfl rfl rfl hR9 ⟨rfl, hB9⟩
theorem sPutOk : SPutOk := by
  intro n w h0 h1
  unfold supR supE
  by_cases h : 64 ≤ n ∧ n ≤ 1024
  · rw [(supOk_iff n).2 h]
    obtain ⟨N, rfl⟩ := Int.eq_ofNat_of_zero_le (show 0 ≤ n by omega)
    simp only [cond_true, Int.toNat_natCast]
    exact sPut_yes N w (by omega) (by omega)
  · have hf : supOk n = false := by rw [Bool.eq_false_iff]; intro hh; exact h ((supOk_iff n).1 hh)
    rw [hf]
    exact sPut_no n w h h0 h1
/-! super.Is -/
set_option maxHeartbeats 400000 in
theorem sIsOk : SIsOk := by
  intro s n w h0 h1
  have hp := fun w => sPutOk n w h0 h1
  unfold supIs
  unfold supR supE at hp
  go_enter Try.func7, Try.ntmps7
  go_wp2_with fail
  go_at_call 5
  have hR : ScR (w.alloc (.cells (secA s) 25)) w.heap.size s := ScR.new w s _
  have hB : Below w.heap.size w (w.alloc (.cells (secA s) 25)) := below_alloc _ _
  obtain ⟨g1, hg1⟩ : ∃ g, w.heap.size = g := ⟨_, rfl⟩
  rw [hg1] at hR
  simp only [hg1]
  generalize w.alloc (.cells (secA s) 25) = X at hB hR ⊢
  refine (hp _).mono ?_
  rintro e w1 ⟨rfl, hb1⟩
  clear hp
  replace hR := hR.kept hb1
  replace hB := hB.trans (hb1.mono hB.size)
  clear hb1 hg1
  cases hok : supOk n
  · have HB : Hid (Below w.heap.size w (w1.alloc (.cells (secA secZ) 25))) := hB.alloc hB.size _
    simp only [cond_false]
    clear hR hB
    go_wp2
    go_ret
    exact ⟨by rw [hok]; rfl, HB.out⟩
  · have HB : Hid (Below w.heap.size w (w1.alloc (.cells (secA (supS n.toNat)) 25))) := hB.alloc hB.size _
    simp only [cond_true]
    have hlt := hR.lt
    obtain ⟨r1, q1⟩ := hR
    clear hB
    go_wp2_with (go_at_call 14; refine (firstOther_any _ _ _).mono ?_; rintro e w2 ⟨k, rfl, hk, hb2⟩)
    go_ret
    exact ⟨by rw [hok]; rfl, HB.out.trans (hb2.mono HB.out.size)⟩
end Go.Proofs.Ytakbapdonngpiaa
