import Derived.Test.YtddmmmfpdmejbaaGreatDoorQJzp
import Derived.Test.YtddmmmfpdmejbaaGreatDoorQJtx
import Derived.Lib.AppendIntMem
namespace Go.Proofs.YtddmmmfpdmejbaaGreatDoor
open Go.RowKit

/-! fault; what writing a value owes -/
theorem entersF15a : ∀ args w, (callFunc 46 args).run Tryz.prog w = .ok (.enter 46 args) w := enters_of Tryz.func46 (by kernel_rfl) rfl
theorem entersF15b : ∀ args w, (callFunc 47 args).run Tryz.prog w = .ok (.enter 47 args) w := enters_of Tryz.func47 (by kernel_rfl) rfl
theorem entersF15c : ∀ args w, (callFunc 48 args).run Tryz.prog w = .ok (.enter 48 args) w := enters_of Tryz.func48 (by kernel_rfl) rfl
set_option linter.unusedSimpArgs false in
set_option maxRecDepth 100000 in
set_option maxHeartbeats 4000000 in
theorem fault15_any (d : Nd) (F : Nat → Prop) (v : Value) (w : World) (hv : VlG w F v d) (hsz : szN d ≤ 1099511627776) (hd : depN d ≤ 60000) : Calls Tryz.prog 26 #[v] w fun e w' => e = .returned (.int .i64 (prtE d)) ∧ Below w.heap.size w w' := by
  obtain ⟨E, hE⟩ : ∃ q, prtE d = q := ⟨_, rfl⟩
  have HE : Hid (prtE d = E) := hE
  rw [hE]
  clear hE
  have h1 := deeper15_any d w F v 65536 hv (by omega)
  rw [decide_eq_false (by omega)] at h1
  have h1' : Calls Tryz.prog 33 #[v, .int .i64 65536] w fun e w' => e = .returned (.bool false) ∧ Below w.heap.size w w' := h1
  clear h1
  go_enter Tryz.func26, Tryz.ntmps26
  go_wp2_with fail
  refine h1'.mono ?_
  rintro e w1 ⟨rfl, hb1⟩
  clear h1'
  have h2 := holds15_any _ fmlP entersF15a isFormless15_any d w1 F v (hv.kept hb1) hsz
  rw [any_frm] at h2
  obtain ⟨A, hA⟩ : ∃ q, frmN d = q := ⟨_, rfl⟩
  have HA : Hid (frmN d = A) := hA
  rw [hA] at h2
  clear hA
  go_wp2_with fail
  refine h2.mono ?_
  rintro e w2 ⟨rfl, hb2⟩
  clear h2
  have hB2 := hb1.trans (hb2.mono hb1.size)
  cases A with
  | false =>
    obtain rfl : E = 11 := by rw [← HE.out]; unfold prtE; rw [if_pos HA.out]
    simp only [Bool.not_false]
    go_wp2
    go_ret
    exact ⟨rfl, hB2⟩
  | true =>
    have h3 := holds15_any _ strP entersF15b hasStrays15_any d w2 F v (hv.kept hB2) hsz
    rw [any_pln] at h3
    obtain ⟨C, hC⟩ : ∃ q, plnN d = q := ⟨_, rfl⟩
    have HC : Hid (plnN d = C) := hC
    rw [hC] at h3
    clear hC
    simp only [Bool.not_true]
    go_wp2_with fail
    refine h3.mono ?_
    rintro e w3 ⟨rfl, hb3⟩
    clear h3
    have hB3 := hB2.trans (hb3.mono hB2.size)
    cases C with
    | false =>
      obtain rfl : E = 30 := by rw [← HE.out]; unfold prtE; rw [if_neg (by rw [HA.out]; decide), if_pos HC.out]
      simp only [Bool.not_false]
      go_wp2
      go_ret
      exact ⟨rfl, hB3⟩
    | true =>
      have h4 := holds15_any _ dupP entersF15c hasTwins15_any d w3 F v (hv.kept hB3) hsz
      rw [any_twc] at h4
      obtain ⟨D, hD⟩ : ∃ q, twcN d = q := ⟨_, rfl⟩
      have HD : Hid (twcN d = D) := hD
      rw [hD] at h4
      clear hD
      simp only [Bool.not_true]
      go_wp2_with fail
      refine h4.mono ?_
      rintro e w4 ⟨rfl, hb4⟩
      clear h4
      have hB4 := hB3.trans (hb4.mono hB3.size)
      cases D with
      | true =>
        obtain rfl : E = 33 := by rw [← HE.out]; unfold prtE; rw [if_neg (by rw [HA.out]; decide), if_neg (by rw [HC.out]; decide), if_pos HD.out]
        go_wp2
        go_ret
        exact ⟨rfl, hB4⟩
      | false =>
        have h5 := deeper15_any d w4 F v 6 (hv.kept hB4) (by omega)
        have HE2 : Hid (E = if 6 < depN d then 32 else 0) := by show _ = _; rw [← HE.out]; unfold prtE; rw [if_neg (by rw [HA.out]; decide), if_neg (by rw [HC.out]; decide), if_neg (by rw [HD.out]; decide)]
        obtain ⟨G, hG⟩ : ∃ q, decide (6 < depN d) = q := ⟨_, rfl⟩
        have HG : Hid (decide (6 < depN d) = G) := hG
        rw [hG] at h5
        have h5' : Calls Tryz.prog 33 #[v, .int .i64 6] w4 fun e w' => e = .returned (.bool G) ∧ Below w4.heap.size w4 w' := h5
        clear hG h5
        go_wp2_with fail
        refine h5'.mono ?_
        rintro e w5 ⟨rfl, hb5⟩
        clear h5'
        have hB5 := hB4.trans (hb5.mono hB4.size)
        cases G with
        | true =>
          obtain rfl : E = 32 := by rw [HE2.out, if_pos (of_decide_eq_true HG.out)]
          go_wp2
          go_ret
          exact ⟨rfl, hB5⟩
        | false =>
          obtain rfl : E = 0 := by rw [HE2.out, if_neg (of_decide_eq_false HG.out)]
          go_wp2
          go_ret
          exact ⟨rfl, hB5⟩
/-! Numbers, truths -/
theorem dig_dec : ∀ (f n : Nat), n < 10 ^ f → 1 ≤ f → digF f n = Lib.decDigits n
  | 0, n, _, h => absurd h (by omega)
  | f + 1, n, hn, _ => by
    rw [digF, Lib.decDigits]
    by_cases h : n < 10
    · rw [if_pos h, dif_pos h]; rfl
    · rw [if_neg h, dif_neg h]
      have hf : 1 ≤ f := by
        rcases Nat.eq_zero_or_pos f with rfl | hf
        · simp at hn; omega
        · exact hf
      rw [dig_dec f (n / 10) (by rw [Nat.pow_succ] at hn; omega) hf]
      rfl
theorem itoa_dig (n : Int) (h0 : 0 ≤ n) (h1 : n ≤ 9223372036854775807) : Lib.itoa n = digN n := by
  unfold Lib.itoa digN
  rw [if_neg (by omega), dig_dec 20 n.toNat (by omega) (by omega)]
/-- What is asked of the library's variables. -/
def VJ (w : World) : Prop := Vx w ∧ Lib.TabIs Tryz.prog w "internal/strconv.uint64pow10" .u64 Lib.pow10Tab
theorem VJ.keep {w W : World} (h : VJ w) (hb : Below w.heap.size w W) : VJ W := ⟨h.1.below hb, Lib.tabBelow_of_tabIs h.2 W hb⟩
theorem itoa15_any (n : Int) (w : World) (h0 : 0 ≤ n) (h1 : n ≤ 9223372036854775807) (hV : VJ w) : Calls Tryz.prog 51 #[.int .i64 n] w fun e w' => e = .returned (.string ⟨(digN n).toArray⟩) ∧ Below w.heap.size w w' := by
  refine (Any.strconv_Itoa layIt n (by omega) h1 w hV.2).mono ?_
  rintro e w' ⟨rfl, k, os, rfl⟩
  rw [itoa_dig n h0 h1]
  exact ⟨rfl, Lib.below_grow _ _ (Nat.le_refl _) _ _⟩
end Go.Proofs.YtddmmmfpdmejbaaGreatDoor
