
import Derived.Test.YtakbapdonngpiaaSec
namespace Go.Proofs.Ytakbapdonngpiaa
open Go.RowKit

theorem ret_int {k : IntKind} {a b : Int} (h : a = b) : Ending.returned (.int k a) = .returned (.int k b) := by rw [h]
theorem ret_bool {a b : Bool} (h : a = b) : Ending.returned (.bool a) = .returned (.bool b) := by rw [h]
theorem ret_sec {s t : Nat → UInt8} (h : ∀ i, i < 64 → s i = t i) : Ending.returned (.agg (secA s)) = .returned (.agg (secA t)) := by rw [(secA_inj s t).2 h]

set_option maxHeartbeats 400000 in
theorem within_any (a n : Int) (w : World) (h0 : -9223372036854775808 ≤ a) (h1 : a ≤ 9223372036854775807) (h2 : -9223372036854775808 ≤ n) (h3 : n ≤ 9223372036854775807) :
    Calls Try.prog 17 #[.int .i64 a, .int .i64 n] w fun e w' => e = .returned (.bool (inB a n)) ∧ w' = w := by
  have e : inB a n = (decide (0 ≤ a) && decide (0 ≤ n) && decide (n ≤ 64 - a)) := by simp [inB, Bool.and_assoc]
  rw [e]
  by_cases ha : 0 ≤ a <;> by_cases hn : 0 ≤ n <;> go_enter Try.func17, Try.ntmps17 <;> go_wp2 <;> go_ret <;> simp [ha, hn] <;> omega
/-! Numbers read -/
/-! Numbers put -/
set_option maxHeartbeats 400000 in
theorem putNumber_yes (s : Nat → UInt8) (a n v : Nat) (w : World) (hn : n ≤ 4) (h : a + n ≤ 64) (_hv : v < 4294967296) :
    Calls Try.prog 18 #[.agg (secA s), .int .i64 a, .int .i64 n, .int .u32 v] w fun e w' => e = .returned (.agg (secA (putN s a v n))) ∧ Below w.heap.size w w' := by
  have hw : inB (a : Int) (n : Int) = true := by simp [inB]; omega
  go_enter Try.func18, Try.ntmps18
  go_wp2_with (go_at_call 17; refine (within_any _ _ _ (by omega) (by omega) (by omega) (by omega)).mono ?_; rintro e w' ⟨rfl, rfl⟩)
  go_loopw [16] (fun i w' => ∃ k : Nat, k ≤ n ∧ i = .int .i64 k ∧ w' = (w.alloc (.cells (secA (putN s a v k)) 25)).alloc (.cells (secA secZ) 25)) (fun i _ => n - (intOf i).toNat)
  case atStart => exact ⟨0, Nat.zero_le _, rfl, by rw [putN_zero]⟩
  case round =>
    obtain ⟨k, hk, rfl, rfl⟩ := hrel
    by_cases hlt : k < n
    · have hc := secA_get (putN s a v k) (a + k) (by omega)
      have HS : Hid ((secA (putN s a v k)).setIfInBounds (a + k) (Value.int IntKind.u8 ((v : Int) / 2 ^ (8 * k) % 256)) = secA (putN s a v (k + 1))) := by
        show _ = _
        rw [shr_form, secA_set _ _ _ (by omega), ← putN_succ]
      go_wp2
      go_roundw
      case rel => exact ⟨k + 1, by omega, by go_num, by rw [HS.out]⟩
      case measure => simp [intOf]; omega
    · have e : k = n := by omega
      subst e
      go_wp2
      refine bodyPost_sec 8 (w.heap.size + 1) rfl rfl rfl (by go_simp) ⟨by go_simp, ?_⟩
      exact ((Below.refl _ _).alloc (Nat.le_refl _) _).alloc (by simp) _
set_option maxHeartbeats 400000 in
theorem putNumber_no (s : Nat → UInt8) (a n : Int) (v : Nat) (w : World) (h0 : -9223372036854775808 ≤ a) (h1 : a ≤ 9223372036854775807) (h2 : 0 ≤ n) (h3 : n ≤ 4) (hw : inB a n = false) :
    Calls Try.prog 18 #[.agg (secA s), .int .i64 a, .int .i64 n, .int .u32 v] w fun e w' => e = .returned (.agg (secA s)) ∧ Below w.heap.size w w' := by
  go_enter Try.func18, Try.ntmps18
  go_wp2_with (go_at_call 17; refine (within_any _ _ _ (by omega) (by omega) (by omega) (by omega)).mono ?_; rintro e w' ⟨rfl, rfl⟩)
  refine bodyPost_sec 8 (w.heap.size + 1) rfl rfl rfl (by go_simp) ⟨by go_simp, ?_⟩
  exact ((Below.refl _ _).alloc (Nat.le_refl _) _).alloc (by simp) _
theorem putNumber_any (s : Nat → UInt8) (a n : Int) (v : Int) (w : World) (h0 : -9223372036854775808 ≤ a) (h1 : a ≤ 9223372036854775807) (h2 : 0 ≤ n) (h3 : n ≤ 4) (hv : 0 ≤ v) (hv' : v < 4294967296) :
    Calls Try.prog 18 #[.agg (secA s), .int .i64 a, .int .i64 n, .int .u32 v] w fun e w' => e = .returned (.agg (secA (putI s a v.toNat n.toNat))) ∧ Below w.heap.size w w' := by
  obtain ⟨v', rfl⟩ := Int.eq_ofNat_of_zero_le hv
  obtain ⟨n', rfl⟩ := Int.eq_ofNat_of_zero_le h2
  rw [Int.toNat_natCast, Int.toNat_natCast]
  unfold putI
  cases hw : inB a n'
  · exact putNumber_no s a n' v' w h0 h1 h2 h3 hw
  · rw [inB_iff] at hw
    obtain ⟨a', rfl⟩ := Int.eq_ofNat_of_zero_le hw.1
    exact putNumber_yes s a' n' v' w (by omega) (by omega) (by omega)
set_option maxHeartbeats 400000 in
theorem putU32_any (s : Nat → UInt8) (a v : Int) (w : World) (h0 : -9223372036854775808 ≤ a) (h1 : a ≤ 9223372036854775807) (hv : 0 ≤ v) (hv' : v < 4294967296) :
    Calls Try.prog 12 #[.agg (secA s), .int .i64 a, .int .u32 v] w fun e w' => e = .returned (.agg (secA (putI s a v.toNat 4))) ∧ Below w.heap.size w w' := by
  go_enter Try.func12, Try.ntmps12
  go_wp2_with (go_at_call 18; refine (putNumber_any _ _ _ _ _ (by omega) (by omega) (by omega) (by omega) (by omega) (by omega)).mono ?_; rintro e w1 ⟨rfl, hb⟩; obtain ⟨hr1, hr2⟩ := rows_below hb)
  refine bodyPost_sec 6 (w.heap.size + 1) rfl rfl rfl (by go_simp) ⟨by go_simp, ?_⟩
  exact below_row ((((Below.refl _ _).alloc (Nat.le_refl _) _).alloc (by simp) _).trans (hb.mono (by simp; omega))) (by omega) _
/-! The calls whose answers the document fixes -/
def secT : Nat → UInt8 := putI secZ 2 513 2
theorem secT_num2 : numI secT 2 2 = 513 := by decide
theorem secT_num4 : numI secT 0 4 = 33619968 := by decide
theorem secT_not : secEq secT secZ = false := by decide
theorem secZ_is : secEq secZ secZ = true := by decide
end Go.Proofs.Ytakbapdonngpiaa
