import Derived.Test.YtfihpfaljjljhaaOct
namespace Go.Proofs.Ytfihpfaljjljhaa
open Go.RowKit

set_option maxHeartbeats 400000 in
theorem zeroFrom_no (s : Nat → UInt8) (a b : Int) (w : World) (h : ¬ (0 ≤ a ∧ a ≤ b ∧ b ≤ 64)) :
    Calls Try.prog 7 #[.agg (secA s), .int .i64 a, .int .i64 b] w fun e w' => e = .returned (.bool false) ∧ Below w.heap.size w w' := by
  by_cases h1 : a < 0
  · go_enter Try.func7, Try.ntmps7
    go_wp2
    go_ret
    exact ⟨rfl, (Below.refl _ _).alloc (Nat.le_refl _) _⟩
  · by_cases h2 : b < a
    · go_enter Try.func7, Try.ntmps7
      go_wp2
      go_ret
      exact ⟨rfl, (Below.refl _ _).alloc (Nat.le_refl _) _⟩
    · have h3 : 64 < b := by omega
      go_enter Try.func7, Try.ntmps7
      go_wp2
      go_ret
      exact ⟨rfl, (Below.refl _ _).alloc (Nat.le_refl _) _⟩
set_option maxHeartbeats 400000 in
theorem zeroFrom_yes (s : Nat → UInt8) (a b : Nat) (w : World) (h : a ≤ b) (h' : b ≤ 64) (h4 : a < 64) :
    Calls Try.prog 7 #[.agg (secA s), .int .i64 a, .int .i64 b] w fun e w' => e = .returned (.bool (secEq (blit secZ a s a (b - a)) secZ)) ∧ Below w.heap.size w w' := by
  have hcp : ∀ ty, (Builtin.copy_ #[28, 28] ty #[.slice (some ⟨w.heap.size + 1, a, none⟩) (b - a) (64 - a), .slice (some ⟨w.heap.size, a, none⟩) (b - a) (64 - a)]).run Try.prog
      ((w.alloc (.cells (secA s) 23)).alloc (.cells (secA secZ) 23)).drew = .ok (goInt ((b - a : Nat) : Int)) ((w.alloc (.cells (secA s) 23)).alloc (.cells (secA (blit secZ a s a (b - a))) 23)).drew := by
    intro ty
    rw [run_copy_sec _ _ _ _ _ _ _ _ _ ty secZ s (by go_simp) (by go_simp) (by go_simp) (by go_simp) (b - a) (by simp) (by omega) (by omega)]
    go_simp
  go_enter Try.func7, Try.ntmps7
  go_wp2
  go_region
  go_wp2_with (go_at_call 8; refine (zero_any _ _).mono ?_; rintro e w1 ⟨rfl, hb⟩)
  go_ret
  exact ⟨rfl, ((((Below.refl _ _).alloc (Nat.le_refl _) _).alloc (by simp) _).drew).trans (hb.mono (by simp; omega))⟩
set_option maxHeartbeats 400000 in
theorem zeroFrom_end (s : Nat → UInt8) (w : World) :
    Calls Try.prog 7 #[.agg (secA s), .int .i64 64, .int .i64 64] w fun e w' => e = .returned (.bool true) ∧ Below w.heap.size w w' := by
  have hcp : ∀ ty, (Builtin.copy_ #[28, 28] ty #[.slice (some ⟨w.heap.size + 1, 0, none⟩) 0 0, .slice (some ⟨w.heap.size, 0, none⟩) 0 0]).run Try.prog
      ((w.alloc (.cells (secA s) 23)).alloc (.cells (secA secZ) 23)).drew = .ok (goInt 0) ((w.alloc (.cells (secA s) 23)).alloc (.cells (secA secZ) 23)).drew :=
    fun ty => run_copy_none _ _ _ ty 5 _ _ _ _ _ _ Try.underlying28 (by kernel_rfl) (by simp)
  have z2 := secZ_is
  go_enter Try.func7, Try.ntmps7
  go_wp2
  go_region
  go_wp2_with (go_at_call 8; refine (zero_any _ _).mono ?_; rintro e w1 ⟨rfl, hb⟩)
  go_ret
  exact ⟨rfl, ((((Below.refl _ _).alloc (Nat.le_refl _) _).alloc (by simp) _).drew).trans (hb.mono (by simp; omega))⟩
theorem blit_zero (s : Nat → UInt8) (a b : Nat) (h : a ≤ b) (h' : b ≤ 64) : secEq (blit secZ a s a (b - a)) secZ = zfB s a b := by
  rw [Bool.eq_iff_iff, secEq_iff, zfB_iff]
  constructor
  · intro k
    refine ⟨by omega, fun i hi h1 h2 => ?_⟩
    have := k i hi
    unfold blit at this
    rw [if_pos (by omega), show a + (i - a) = i by omega] at this
    exact this
  · rintro ⟨_, k⟩ i hi
    unfold blit
    split
    · rw [show a + (i - a) = i by omega]; exact k i hi (by omega) (by omega)
    · rfl
theorem zeroFrom_any (s : Nat → UInt8) (a b : Int) (w : World) :
    Calls Try.prog 7 #[.agg (secA s), .int .i64 a, .int .i64 b] w fun e w' => e = .returned (.bool (zfB s a b)) ∧ Below w.heap.size w w' := by
  by_cases h : 0 ≤ a ∧ a ≤ b ∧ b ≤ 64
  · obtain ⟨a', rfl⟩ := Int.eq_ofNat_of_zero_le h.1
    obtain ⟨b', rfl⟩ := Int.eq_ofNat_of_zero_le (Int.le_trans h.1 h.2.1)
    by_cases h4 : a' < 64
    · rw [← blit_zero s a' b' (by omega) (by omega)]
      exact zeroFrom_yes s a' b' w (by omega) (by omega) h4
    · obtain rfl : a' = 64 := by omega
      obtain rfl : b' = 64 := by omega
      have e : zfB s (64 : Nat) (64 : Nat) = true := by rw [zfB_iff]; exact ⟨by omega, fun i hi h1 h2 => by omega⟩
      rw [e]
      exact zeroFrom_end s w
  · have e : zfB s a b = false := by
      cases hz : zfB s a b
      · rfl
      · exact absurd ((zfB_iff s a b).1 hz).1 h
    rw [e]
    exact zeroFrom_no s a b w h
end Go.Proofs.Ytfihpfaljjljhaa
