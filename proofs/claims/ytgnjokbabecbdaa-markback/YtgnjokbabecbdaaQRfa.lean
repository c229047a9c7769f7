import Derived.Test.YtgnjokbabecbdaaQByt
import Derived.Test.YtgnjokbabecbdaaQApp
import Derived.Deep.AppendLies
import Derived.OwnWalk
namespace Go.Proofs.Ytgnjokbabecbdaa
open Go.RowKit

/-! The document's own answers of chapter 1: their contracts. -/
set_option maxHeartbeats 400000 in
theorem rwithin_any (a n : Int) (w : World) (h0 : -9223372036854775808 ≤ a) (h1 : a ≤ 9223372036854775807) (h2 : -9223372036854775808 ≤ n) (h3 : n ≤ 9223372036854775807) :
    Calls Try.prog 45 #[.int .i64 a, .int .i64 n] w fun e w' => e = .returned (.bool (inB a n)) ∧ w' = w := by
  have e : inB a n = (decide (0 ≤ a) && decide (0 ≤ n) && decide (a ≤ 64) && decide (n ≤ 64 - a)) := by
    rw [Bool.eq_iff_iff, inB_iff]; simp; omega
  rw [e]
  by_cases ha : 0 ≤ a <;> by_cases hn : 0 ≤ n <;> by_cases h4 : a ≤ 64 <;> go_enter Try.func45, Try.ntmps45 <;> go_wp2 <;> go_ret <;> simp [ha, hn, h4] <;> omega
theorem num_step (N A v b j n : Nat) (hN : N = (A + b * 256 ^ j) + v * 256 ^ (j + 1)) (hv : v < 256 ^ (n - (j + 1))) (hb : b < 256) (hj : j + 1 ≤ n) :
    N = A + (256 * v + b) * 256 ^ j ∧ 256 * v + b < 256 ^ (n - j) := by
  constructor
  · rw [hN, Nat.pow_succ, Nat.add_mul, Nat.add_assoc, Nat.add_comm (b * 256 ^ j), Nat.mul_comm 256 v, Nat.mul_assoc, Nat.mul_comm (256 ^ j) 256]
  · rw [show n - j = (n - (j + 1)) + 1 by omega, Nat.pow_succ]; omega
set_option maxHeartbeats 400000 in
theorem rnumber_yes (s : Nat → UInt8) (a n : Nat) (w : World) (hn : n ≤ 4) (h : a + n ≤ 64) :
    Calls Try.prog 39 #[.agg (secA s), .int .i64 a, .int .i64 n] w fun e w' => e = .returned (.int .u32 (numN s a n)) ∧ Below w.heap.size w w' := by
  have hw : inB (a : Int) (n : Int) = true := by simp [inB]; omega
  go_enter Try.func39, Try.ntmps39
  go_wp2_with (go_at_call 45; refine (rwithin_any _ _ _ (by omega) (by omega) (by omega) (by omega)).mono ?_; rintro e w' ⟨rfl, rfl⟩)
  go_loop [7, 8] (fun v i => ∃ j x : Nat, j ≤ n ∧ i = .int .i64 ((j : Int) - 1) ∧ v = .int .u32 (x : Nat) ∧ numN s a n = numN s a j + x * 256 ^ j ∧ x < 256 ^ (n - j)) (fun _ i => (intOf i + 1).toNat)
  case atStart => exact ⟨n, 0, Nat.le_refl _, by go_num, rfl, by simp, by simp⟩
  case round =>
    obtain ⟨j, x, hj, rfl, rfl, hx, hlt⟩ := hrel
    by_cases h0 : j = 0
    · subst h0
      have HX : Hid (((x : Nat) : Int) = ((numN s a n : Nat) : Int)) := by show _ = _; rw [hx]; simp [numN]
      clear hx
      have hm : ¬ (0 : Int) ≤ ((0 : Nat) : Int) - 1 := by omega
      go_wp2
      go_ret
      exact ⟨ret_int HX.out, (Below.refl _ _).alloc (Nat.le_refl _) _⟩
    · obtain ⟨i, rfl⟩ : ∃ i, j = i + 1 := ⟨j - 1, by omega⟩
      have hc := secA_get s (a + i) (by omega)
      have hb := (s (a + i)).toNat_lt
      obtain ⟨k1, k2⟩ := num_step (numN s a n) (numN s a i) x (s (a + i)).toNat i n (by rw [hx, numN]) hlt hb hj
      have hp : (256 : Nat) ^ (n - (i + 1)) ≤ 256 ^ 3 := Nat.pow_le_pow_right (by omega) (by omega)
      have hx3 : x < 16777216 := by omega
      have K1 : Hid (numN s a n = numN s a i + (256 * x + (s (a + i)).toNat) * 256 ^ i) := k1
      clear k1 hx hlt hp
      have e1 : ((i + 1 : Nat) : Int) - 1 = (i : Int) := by omega
      rw [e1]
      go_wp2
      go_round
      case rel =>
        refine ⟨i, 256 * x + (s (a + i)).toNat, by omega, by go_num, ?_, K1.out, k2⟩
        congr 1
      case measure => simp [intOf]
set_option maxHeartbeats 400000 in
theorem rnumber_no (s : Nat → UInt8) (a n : Int) (w : World) (h0 : -9223372036854775808 ≤ a) (h1 : a ≤ 9223372036854775807) (h2 : 0 ≤ n) (h3 : n ≤ 4) (hw : inB a n = false) :
    Calls Try.prog 39 #[.agg (secA s), .int .i64 a, .int .i64 n] w fun e w' => e = .returned (.int .u32 0) ∧ Below w.heap.size w w' := by
  go_enter Try.func39, Try.ntmps39
  go_wp2_with (go_at_call 45; refine (rwithin_any _ _ _ (by omega) (by omega) (by omega) (by omega)).mono ?_; rintro e w' ⟨rfl, rfl⟩)
  go_ret
  exact ⟨rfl, (Below.refl _ _).alloc (Nat.le_refl _) _⟩
theorem rnumber_any (s : Nat → UInt8) (a n : Int) (w : World) (h0 : -9223372036854775808 ≤ a) (h1 : a ≤ 9223372036854775807) (h2 : 0 ≤ n) (h3 : n ≤ 4) :
    Calls Try.prog 39 #[.agg (secA s), .int .i64 a, .int .i64 n] w fun e w' => e = .returned (.int .u32 (numI s a n)) ∧ Below w.heap.size w w' := by
  unfold numI
  cases hw : inB a n
  · exact rnumber_no s a n w h0 h1 h2 h3 hw
  · rw [inB_iff] at hw
    obtain ⟨a', rfl⟩ := Int.eq_ofNat_of_zero_le hw.1
    obtain ⟨n', rfl⟩ := Int.eq_ofNat_of_zero_le hw.2.1
    exact rnumber_yes s a' n' w (by omega) (by omega)
set_option maxHeartbeats 400000 in
theorem ru16_any (s : Nat → UInt8) (a : Int) (w : World) (h0 : -9223372036854775808 ≤ a) (h1 : a ≤ 9223372036854775807) :
    Calls Try.prog 27 #[.agg (secA s), .int .i64 a] w fun e w' => e = .returned (.int .u16 (numI s a 2)) ∧ Below w.heap.size w w' := by
  have hn := numI_lt s a 2
  go_enter Try.func27, Try.ntmps27
  go_wp2_with (go_at_call 39; refine (rnumber_any _ _ _ _ (by omega) (by omega) (by omega) (by omega)).mono ?_; rintro e w' ⟨rfl, hb⟩)
  go_ret
  refine ⟨ret_int ?_, ((Below.refl _ _).alloc (Nat.le_refl _) _).trans (hb.mono (by simp))⟩
  simp only [IntKind.wrap_u16]
  have e : (256 : Nat) ^ Int.toNat 2 = 65536 := by decide
  omega
/-! ZeroFrom -/
end Go.Proofs.Ytgnjokbabecbdaa
