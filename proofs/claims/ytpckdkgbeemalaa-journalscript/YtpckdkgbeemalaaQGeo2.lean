import Derived.Test.YtpckdkgbeemalaaQNum
namespace Go.Proofs.Ytpckdkgbeemalaa
open Go.RowKit
attribute [local go_sem] gA_open

/-! assayref06 -/
theorem ceil_stop {k n e : Int} (he : 0 < e) (hk : 0 ≤ k) (h1 : n ≤ k * e) (h2 : k = 0 ∨ (k - 1) * e < n) (hn : 0 ≤ n) : k = (n + e - 1) / e := by
  have h3 : (k - 1) * e < n ∨ k = 0 := h2.symm
  have e1 : (k - 1) * e = k * e - e := by rw [Int.sub_mul, Int.one_mul]
  symm
  apply Int.le_antisymm
  · apply Int.le_of_lt_add_one
    apply Int.ediv_lt_of_lt_mul he
    rw [Int.add_mul, Int.one_mul]; omega
  · apply Int.le_ediv_of_mul_le he
    rcases h3 with h3 | h3
    · omega
    · subst h3; simp; omega
set_option maxHeartbeats 400000 in
theorem rparts_any (n e : Int) (w : World) (h0 : 0 ≤ n) (h1 : n ≤ 1024) (h2 : 0 < e) (h3 : e ≤ 480) :
    Calls Try.prog 58 #[.int .i64 n, .int .i64 e] w fun r w' => r = .returned (.int .i64 ((n + e - 1) / e)) ∧ w' = w := by
  go_enter Try.func58, Try.ntmps58
  go_wp2_with fail
  go_loop [5] (fun i => ∃ k : Int, 0 ≤ k ∧ k ≤ n ∧ i = .int .i64 k ∧ (k = 0 ∨ (k - 1) * e < n)) (fun i => (n - intOf i).toNat)
  case atStart => exact ⟨0, by omega, h0, rfl, .inl rfl⟩
  case round =>
    obtain ⟨k, hk, hk2, rfl, hkp⟩ := hrel
    have hb : k * e ≤ 1024 * 480 := Int.mul_le_mul (by omega) h3 (by omega) (by omega)
    have hb0 : 0 ≤ k * e := Int.mul_nonneg hk (by omega)
    by_cases hlt : k * e < n
    · have hlt2 : k < n := by
        have : k * 1 ≤ k * e := Int.mul_le_mul_of_nonneg_left (by omega) hk
        omega
      go_wp2
      go_round
      case rel => exact ⟨k + 1, by omega, by omega, by go_num, .inr (by rw [Int.add_sub_cancel]; exact hlt)⟩
      case measure => simp [intOf]; omega
    · have E : Hid (k = (n + e - 1) / e) := ceil_stop h2 hk (by omega) hkp h0
      go_wp2
      go_ret
      exact ⟨by rw [← E.out]; rfl, rfl⟩
set_option maxHeartbeats 400000 in
theorem rtarget_any (n a : Int) (w : World) (h0 : -9223372036854775808 ≤ a) (h1 : a ≤ 9223372036854775807) :
    Calls Try.prog 32 #[.int .i64 n, .int .i64 a] w fun r w' => r = .returned (.bool (tgtB n a)) ∧ w' = w := by
  by_cases ha : 0 ≤ a
  · by_cases hb : a < n
    · by_cases hc : a < 2
      · have e : tgtB n a = true := by unfold tgtB; simp; omega
        rw [e]; clear e
        go_enter Try.func32, Try.ntmps32
        go_wp2
        go_ret
        exact ⟨rfl, rfl⟩
      · have e : tgtB n a = decide (10 < a) := by unfold tgtB; simp [ha, hb, hc]
        rw [e]; clear e
        go_enter Try.func32, Try.ntmps32
        go_wp2
        go_ret
        exact ⟨rfl, rfl⟩
    · have e : tgtB n a = false := by unfold tgtB; simp; omega
      rw [e]; clear e
      go_enter Try.func32, Try.ntmps32
      go_wp2
      go_ret
      exact ⟨rfl, rfl⟩
  · have e : tgtB n a = false := by unfold tgtB; simp; omega
    rw [e]; clear e
    go_enter Try.func32, Try.ntmps32
    go_wp2
    go_ret
    exact ⟨rfl, rfl⟩
set_option maxHeartbeats 400000 in
theorem rof_yes (n : Int) (w : World) (h0 : 64 ≤ n) (h1 : n ≤ 1024) :
    Calls Try.prog 31 #[.int .i64 n] w fun r w' => r = .returned (.tuple #[.agg (gA (geoF n)), .int .i64 0]) ∧ Below w.heap.size w w' := by
  have hG : Hid (gA (geoF n) = #[.int .i64 n, .int .i64 11, .int .i64 ((n + 480 - 1) / 480), .int .i64 (11 + (n + 480 - 1) / 480), .int .i64 (n / 8), .int .i64 (11 + (n + 480 - 1) / 480 + n / 8), .int .i64 (n / 16), .int .i64 (11 + (n + 480 - 1) / 480 + n / 8 + n / 16), .int .i64 (n / 16), .int .i64 (11 + (n + 480 - 1) / 480 + n / 8 + n / 16 + n / 16), .int .i64 ((n / 8 + 15 - 1) / 15), .int .i64 (11 + (n + 480 - 1) / 480 + n / 8 + n / 16 + n / 16 + (n / 8 + 15 - 1) / 15), .int .i64 (n / 8 / 4)]) := by
    show _ = _
    have e1 : n + 480 - 1 = n + 479 := by omega
    have e2 : n / 8 + 15 - 1 = n / 8 + 14 := by omega
    unfold gA geoF
    simp [h0, h1, e1, e2]
  go_enter Try.func31, Try.ntmps31
  go_wp2_with (go_at_call 58; refine (rparts_any _ _ _ (by omega) (by omega) (by omega) (by omega)).mono ?_; rintro e w' ⟨rfl, rfl⟩)
  rw [← hG.out]
  refine geo_bodyPostR 2 3 w.heap.size 83 (geoF n) rfl rfl rfl ?_ ⟨rfl, ?_⟩
  · rw [heap_old _ _ _ (by simp), heap_new]
  · exact ((Below.refl _ _).alloc (Nat.le_refl _) _).alloc (by simp) _
set_option maxHeartbeats 400000 in
theorem rof_no (n : Int) (w : World) (h : ¬ (64 ≤ n ∧ n ≤ 1024)) (h0 : -9223372036854775808 ≤ n) (h1 : n ≤ 9223372036854775807) :
    Calls Try.prog 31 #[.int .i64 n] w fun r w' => r = .returned (.tuple #[.agg (gA fun _ => 0), .int .i64 22]) ∧ Below w.heap.size w w' := by
  by_cases ha : n < 64
  · go_enter Try.func31, Try.ntmps31
    go_wp2
    exact geo_bodyPostR 2 3 w.heap.size 83 (fun _ => 0) rfl rfl rfl (heap_new _ _) ⟨rfl, (Below.refl _ _).alloc (Nat.le_refl _) _⟩
  · have hb : 1024 < n := by omega
    go_enter Try.func31, Try.ntmps31
    go_wp2
    exact geo_bodyPostR 2 3 w.heap.size 83 (fun _ => 0) rfl rfl rfl (heap_new _ _) ⟨rfl, (Below.refl _ _).alloc (Nat.le_refl _) _⟩
end Go.Proofs.Ytpckdkgbeemalaa
