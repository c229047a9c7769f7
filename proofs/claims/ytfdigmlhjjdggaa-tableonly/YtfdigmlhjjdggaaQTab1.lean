import Derived.Test.YtfdigmlhjjdggaaQTabM
import Derived.Test.YtfdigmlhjjdggaaQTgr
import Derived.Test.YtfdigmlhjjdggaaQNum
import Derived.Test.YtfdigmlhjjdggaaQCrcR2
namespace Go.Proofs.Ytfdigmlhjjdggaa
open Go.RowKit

/-! assayref17: put, get, key -/
set_option maxHeartbeats 800000 in
theorem put17_any (s : Nat → UInt8) (a v : Nat) (w : World) (h : a + 4 ≤ 64) (_hv : v < 4294967296) :
    Calls Try.prog 33 #[.agg (secA s), .int .i64 a, .int .u32 v] w fun e w' => e = .returned (.agg (secA (putN s a v 4))) ∧ Below w.heap.size w w' := by
  go_enter Try.func33, Try.ntmps33
  go_wp2_with fail
  go_loopw [7] (fun i w' => ∃ k : Nat, k ≤ 4 ∧ i = .int .i64 k ∧ w' = (w.alloc (.cells (secA (putN s a v k)) 35)).alloc (.cells (secA secZ) 35)) (fun i _ => 4 - (intOf i).toNat)
  case atStart => exact ⟨0, Nat.zero_le _, rfl, by rw [putN_zero]⟩
  case round =>
    obtain ⟨k, hk, rfl, rfl⟩ := hrel
    by_cases hlt : k < 4
    · have hc := secA_get (putN s a v k) (a + k) (by omega)
      have HS : Hid ((secA (putN s a v k)).setIfInBounds (a + k) (Value.int IntKind.u8 ((v : Int) / 2 ^ (8 * k) % 256)) = secA (putN s a v (k + 1))) := by
        show _ = _
        rw [shr_form, secA_set _ _ _ (by omega), ← putN_succ]
      have i1 : (k : Int) < 4 := by omega
      have HK : Hid (k < 4) := hlt
      obtain ⟨S2, hS2⟩ : ∃ q, putN s a v (k + 1) = q := ⟨_, rfl⟩
      have HS2 : Hid (putN s a v (k + 1) = S2) := hS2
      rw [hS2] at HS
      generalize putN s a v k = S1 at hc HS ⊢
      clear hlt hk hS2
      go_wp2
      go_roundw
      case rel => exact ⟨k + 1, by have := HK.out; omega, by go_num, by rw [HS.out, HS2.out]⟩
      case measure => have := HK.out; simp [intOf]; omega
    · have e : k = 4 := by omega
      subst e
      go_wp2
      refine bodyPost_sec 6 (w.heap.size + 1) rfl rfl rfl (by go_simp) ⟨by go_simp, ?_⟩
      exact ((Below.refl _ _).alloc (Nat.le_refl _) _).alloc (by simp) _
/-- The number of the bytes from i on up to the fourth. -/
def hiN (s : Nat → UInt8) (a : Nat) : Nat → Nat
  | 0 => 0
  | k + 1 => 256 * hiN s a k + (s (a + (3 - k))).toNat
theorem hiN_lt (s : Nat → UInt8) (a : Nat) : ∀ k, k ≤ 4 → hiN s a k < 256 ^ k
  | 0, _ => by simp [hiN]
  | k + 1, h => by
    have h1 := hiN_lt s a k (by omega)
    have h2 := (s (a + (3 - k))).toNat_lt
    rw [hiN, Nat.pow_succ]
    omega
theorem hiN_four (s : Nat → UInt8) (a : Nat) : hiN s a 4 = numN s a 4 := by
  rw [num4]
  simp only [hiN, Nat.reduceSub, Nat.add_zero, Nat.zero_add, Nat.mul_zero]
  omega
theorem or_up (v b : Nat) (hv : v < 16777216) (hb : b < 256) : bits .or .u32 ((v : Int) * 256 % 4294967296) ((b : Int) % 4294967296) = ((256 * v + b : Nat) : Int) := by
  have e1 : (v : Int) * 256 % 4294967296 = ((256 * v : Nat) : Int) := by omega
  have e2 : (b : Int) % 4294967296 = ((b : Nat) : Int) := by omega
  rw [e1, e2, u32_or_nat (256 * v) b (by omega) (by omega)]
  have := Nat.two_pow_add_eq_or_of_lt (i := 8) (b := b) (by omega) v
  rw [show (2 : Nat) ^ 8 = 256 from rfl] at this
  rw [← this]
set_option maxHeartbeats 800000 in
theorem get17_any (s : Nat → UInt8) (a : Nat) (w : World) (h : a + 4 ≤ 64) :
    Calls Try.prog 35 #[.agg (secA s), .int .i64 a] w fun e w' => e = .returned (.int .u32 (numN s a 4 : Nat)) ∧ Below w.heap.size w w' := by
  go_enter Try.func35, Try.ntmps35
  go_wp2_with fail
  go_loop [5, 6] (fun v i => ∃ k : Nat, k ≤ 4 ∧ i = .int .i64 (3 - (k : Int)) ∧ v = .int .u32 (hiN s a k : Nat)) (fun _ i => ((intOf i) + 1).toNat)
  case atStart => exact ⟨0, Nat.zero_le _, rfl, rfl⟩
  case round =>
    obtain ⟨k, hk, rfl, rfl⟩ := hrel
    by_cases hlt : k < 4
    · obtain ⟨j, hj⟩ : ∃ j : Nat, 3 - (k : Int) = (j : Int) := ⟨3 - k, by omega⟩
      have hc := secA_get s (a + j) (by omega)
      have hj0 : (0 : Int) ≤ (j : Int) := by omega
      have hj3 : (a : Int) + (j : Int) < 64 := by omega
      have hj4 : a + j < 64 := by omega
      have hh := hiN_lt s a k (by omega)
      have HS : Hid (bits .or .u32 ((hiN s a k : Int) * 256 % 4294967296) (((s (a + j)).toNat : Int) % 4294967296) = ((hiN s a (k + 1) : Nat) : Int)) := by
        show _ = _
        have h3 : hiN s a k < 16777216 := by
          have : (256 : Nat) ^ k ≤ 256 ^ 3 := Nat.pow_le_pow_right (by omega) (by omega)
          omega
        rw [or_up _ _ h3 (s (a + j)).toNat_lt, hiN, show j = 3 - k by omega]
      have HJ : Hid (k < 4 ∧ 3 - (k : Int) = (j : Int)) := ⟨hlt, hj⟩
      rw [hj]
      clear hh hk hlt hj
      go_wp2
      refine ⟨⟨k + 1, by have := HJ.out; omega, ?_, by rw [HS.out]⟩, ?_⟩
      · have := HJ.out
        exact congrArg (Value.int .i64) (by omega)
      · simp [intOf]
    · obtain rfl : k = 4 := by omega
      have HF : Hid (hiN s a 4 = numN s a 4) := hiN_four s a
      go_wp2
      go_ret
      exact ⟨by rw [HF.out]; rfl, (Below.refl _ _).alloc (Nat.le_refl _) _⟩
def keyT (s : Nat → UInt8) (a k : Nat) : Nat → UInt8 := fun i => if i < k then s (a + i) else 0
theorem keyT_zero (s : Nat → UInt8) (a : Nat) : keyT s a 0 = dg_secZ := by funext i; simp [keyT, dg_secZ]
theorem keyT_succ (s : Nat → UInt8) (a k : Nat) : keyT s a (k + 1) = upd (keyT s a k) k (s (a + k)) := by
  funext i
  unfold keyT upd
  by_cases h : i = k
  · subst h; simp
  · by_cases h2 : i < k
    · simp only [if_neg h, if_pos h2, if_pos (show i < k + 1 by omega)]
    · simp only [if_neg h, if_neg h2, if_neg (show ¬ i < k + 1 by omega)]
theorem keyT_full (s : Nat → UInt8) (a : Nat) : dg_secA (keyT s a 32) = dg_secA (fun i => s (a + i)) := (dg_secA_inj _ _).2 fun i hi => by unfold keyT; rw [if_pos hi]
set_option maxHeartbeats 1600000 in
theorem key17_any (s : Nat → UInt8) (a : Nat) (w : World) (h : a + 32 ≤ 64) :
    Calls Try.prog 34 #[.agg (secA s), .int .i64 a] w fun e w' => e = .returned (.agg (dg_secA (fun i => s (a + i)))) ∧ Below w.heap.size w w' := by
  go_enter Try.func34, Try.ntmps34
  go_wp2_with fail
  go_loopw [6] (fun i w' => ∃ k : Nat, k ≤ 32 ∧ i = .int .i64 k ∧ w' = ((w.alloc (.cells (secA s) 35)).alloc (.cells (dg_secA dg_secZ) 23)).alloc (.cells (dg_secA (keyT s a k)) 23)) (fun i _ => 32 - (intOf i).toNat)
  case atStart => exact ⟨0, Nat.zero_le _, rfl, by rw [keyT_zero]⟩
  case round =>
    obtain ⟨k, hk, rfl, rfl⟩ := hrel
    by_cases hlt : k < 32
    · have hc := secA_get s (a + k) (by omega)
      have hd := dg_secA_get (keyT s a k) k hlt
      have i1 : (k : Int) < 32 := by omega
      have HK : Hid (k < 32) := hlt
      have HS : Hid ((dg_secA (keyT s a k)).setIfInBounds k (Value.int .u8 ((s (a + k)).toNat : Int)) = dg_secA (keyT s a (k + 1))) := by
        show _ = _
        rw [dg_secA_set _ _ _ hlt, ← keyT_succ]
      obtain ⟨S2, hS2⟩ : ∃ q, keyT s a (k + 1) = q := ⟨_, rfl⟩
      have HS2 : Hid (keyT s a (k + 1) = S2) := hS2
      rw [hS2] at HS
      generalize keyT s a k = S1 at hd HS ⊢
      clear hlt hk hS2
      go_wp2
      go_roundw
      case rel => exact ⟨k + 1, by have := HK.out; omega, by go_num, by rw [HS.out, HS2.out]⟩
      case measure => have := HK.out; simp [intOf]; omega
    · have e : k = 32 := by omega
      subst e
      have HF : Hid _ := keyT_full s a
      generalize keyT s a 32 = S1 at HF ⊢
      go_wp2
      refine dg_bodyPost_sec 4 (w.heap.size + 1) rfl rfl rfl (by go_simp) ⟨?_, ?_⟩
      · rw [← HF.out]; go_simp
      · exact (((Below.refl _ _).alloc (Nat.le_refl _) _).alloc (by simp) _).alloc (by simp; omega) _
end Go.Proofs.Ytfdigmlhjjdggaa
