import Derived.Test.YtpckdkgbeemalaaQNum
import Derived.Deep.AppendLies
import Derived.OwnWalk
namespace Go.Proofs.Ytpckdkgbeemalaa
open Go.RowKit

/-! The document's own answers of chapter 1: their contracts. -/
set_option maxHeartbeats 400000 in
theorem rwithin_any (a n : Int) (w : World) (h0 : -9223372036854775808 ≤ a) (h1 : a ≤ 9223372036854775807) (h2 : -9223372036854775808 ≤ n) (h3 : n ≤ 9223372036854775807) :
    Calls Try.prog 75 #[.int .i64 a, .int .i64 n] w fun e w' => e = .returned (.bool (inB a n)) ∧ w' = w := by
  have e : inB a n = (decide (0 ≤ a) && decide (0 ≤ n) && decide (a ≤ 64) && decide (n ≤ 64 - a)) := by
    rw [Bool.eq_iff_iff, inB_iff]; simp; omega
  rw [e]
  by_cases ha : 0 ≤ a <;> by_cases hn : 0 ≤ n <;> by_cases h4 : a ≤ 64 <;> go_enter Try.func75, Try.ntmps75 <;> go_wp2 <;> go_ret <;> simp [ha, hn, h4] <;> omega
theorem num_step (N A v b j n : Nat) (hN : N = (A + b * 256 ^ j) + v * 256 ^ (j + 1)) (hv : v < 256 ^ (n - (j + 1))) (hb : b < 256) (hj : j + 1 ≤ n) :
    N = A + (256 * v + b) * 256 ^ j ∧ 256 * v + b < 256 ^ (n - j) := by
  constructor
  · rw [hN, Nat.pow_succ, Nat.add_mul, Nat.add_assoc, Nat.add_comm (b * 256 ^ j), Nat.mul_comm 256 v, Nat.mul_assoc, Nat.mul_comm (256 ^ j) 256]
  · rw [show n - j = (n - (j + 1)) + 1 by omega, Nat.pow_succ]; omega
set_option maxHeartbeats 400000 in
theorem rnumber_yes (s : Nat → UInt8) (a n : Nat) (w : World) (hn : n ≤ 4) (h : a + n ≤ 64) :
    Calls Try.prog 88 #[.agg (secA s), .int .i64 a, .int .i64 n] w fun e w' => e = .returned (.int .u32 (numN s a n)) ∧ Below w.heap.size w w' := by
  have hw : inB (a : Int) (n : Int) = true := by simp [inB]; omega
  go_enter Try.func88, Try.ntmps88
  go_wp2_with (go_at_call 75; refine (rwithin_any _ _ _ (by omega) (by omega) (by omega) (by omega)).mono ?_; rintro e w' ⟨rfl, rfl⟩)
  go_loop [7, 8] (fun v i => ∃ j x : Nat, j ≤ n ∧ i = .int .i64 ((j : Int) - 1) ∧ v = .int .u32 (x : Nat) ∧ numN s a n = numN s a j + x * 256 ^ j ∧ x < 256 ^ (n - j)) (fun _ i => (intOf i + 1).toNat)
  case atStart => exact ⟨n, 0, Nat.le_refl _, by go_num, rfl, by simp, by simp⟩
  case round =>
    obtain ⟨j, x, hj, rfl, rfl, hx, hlt⟩ := hrel
    by_cases h0 : j = 0
    · subst h0
      have HX : Hid (((x : Nat) : Int) = ((numN s a n : Nat) : Int)) := by show _ = _; rw [hx]; simp [numN]
      clear hx
      have hm : ¬ (0 : Int) ≤ ((0 : Nat) : Int) - 1 := by omega
      go_wp2
      go_ret
      exact ⟨ret_int HX.out, (Below.refl _ _).alloc (Nat.le_refl _) _⟩
    · obtain ⟨i, rfl⟩ : ∃ i, j = i + 1 := ⟨j - 1, by omega⟩
      have hc := secA_get s (a + i) (by omega)
      have hb := (s (a + i)).toNat_lt
      obtain ⟨k1, k2⟩ := num_step (numN s a n) (numN s a i) x (s (a + i)).toNat i n (by rw [hx, numN]) hlt hb hj
      have hp : (256 : Nat) ^ (n - (i + 1)) ≤ 256 ^ 3 := Nat.pow_le_pow_right (by omega) (by omega)
      have hx3 : x < 16777216 := by omega
      have K1 : Hid (numN s a n = numN s a i + (256 * x + (s (a + i)).toNat) * 256 ^ i) := k1
      clear k1 hx hlt hp
      have e1 : ((i + 1 : Nat) : Int) - 1 = (i : Int) := by omega
      rw [e1]
      go_wp2
      go_round
      case rel =>
        refine ⟨i, 256 * x + (s (a + i)).toNat, by omega, by go_num, ?_, K1.out, k2⟩
        congr 1
      case measure => simp [intOf]
set_option maxHeartbeats 400000 in
theorem rnumber_no (s : Nat → UInt8) (a n : Int) (w : World) (h0 : -9223372036854775808 ≤ a) (h1 : a ≤ 9223372036854775807) (h2 : 0 ≤ n) (h3 : n ≤ 4) (hw : inB a n = false) :
    Calls Try.prog 88 #[.agg (secA s), .int .i64 a, .int .i64 n] w fun e w' => e = .returned (.int .u32 0) ∧ Below w.heap.size w w' := by
  go_enter Try.func88, Try.ntmps88
  go_wp2_with (go_at_call 75; refine (rwithin_any _ _ _ (by omega) (by omega) (by omega) (by omega)).mono ?_; rintro e w' ⟨rfl, rfl⟩)
  go_ret
  exact ⟨rfl, (Below.refl _ _).alloc (Nat.le_refl _) _⟩
theorem rnumber_any (s : Nat → UInt8) (a n : Int) (w : World) (h0 : -9223372036854775808 ≤ a) (h1 : a ≤ 9223372036854775807) (h2 : 0 ≤ n) (h3 : n ≤ 4) :
    Calls Try.prog 88 #[.agg (secA s), .int .i64 a, .int .i64 n] w fun e w' => e = .returned (.int .u32 (numI s a n)) ∧ Below w.heap.size w w' := by
  unfold numI
  cases hw : inB a n
  · exact rnumber_no s a n w h0 h1 h2 h3 hw
  · rw [inB_iff] at hw
    obtain ⟨a', rfl⟩ := Int.eq_ofNat_of_zero_le hw.1
    obtain ⟨n', rfl⟩ := Int.eq_ofNat_of_zero_le hw.2.1
    exact rnumber_yes s a' n' w (by omega) (by omega)
set_option maxHeartbeats 400000 in
theorem ru16_any (s : Nat → UInt8) (a : Int) (w : World) (h0 : -9223372036854775808 ≤ a) (h1 : a ≤ 9223372036854775807) :
    Calls Try.prog 82 #[.agg (secA s), .int .i64 a] w fun e w' => e = .returned (.int .u16 (numI s a 2)) ∧ Below w.heap.size w w' := by
  have hn := numI_lt s a 2
  go_enter Try.func82, Try.ntmps82
  go_wp2_with (go_at_call 88; refine (rnumber_any _ _ _ _ (by omega) (by omega) (by omega) (by omega)).mono ?_; rintro e w' ⟨rfl, hb⟩)
  go_ret
  refine ⟨ret_int ?_, ((Below.refl _ _).alloc (Nat.le_refl _) _).trans (hb.mono (by simp))⟩
  simp only [IntKind.wrap_u16]
  have e : (256 : Nat) ^ Int.toNat 2 = 65536 := by decide
  omega
/-! ZeroFrom -/
end Go.Proofs.Ytpckdkgbeemalaa
namespace Go.Proofs.Ytpckdkgbeemalaa
open Go.RowKit

/-! PutBytes, byte by byte -/
theorem layL_in {s : Nat → UInt8} {a j : Nat} {l : List UInt8} (h : a ≤ j ∧ j < a + l.length) : layL s a l j = l[j - a]'(by omega) := by unfold layL; rw [dif_pos h]
theorem layL_out {s : Nat → UInt8} {a j : Nat} {l : List UInt8} (h : ¬ (a ≤ j ∧ j < a + l.length)) : layL s a l j = s j := by unfold layL; rw [dif_neg h]
theorem layL_succ (s : Nat → UInt8) (a : Nat) (l : List UInt8) (k : Nat) (h : k < l.length) : layL s a (l.take (k + 1)) = upd (layL s a (l.take k)) (a + k) l[k] := by
  funext j
  unfold upd
  by_cases hj : j = a + k
  · subst hj
    rw [layL_in (by simp; omega), if_pos rfl]
    simp
  · rw [if_neg hj]
    by_cases h2 : a ≤ j ∧ j < a + k
    · rw [layL_in (by simp; omega), layL_in (by simp; omega)]
      simp
    · rw [layL_out (by simp; omega), layL_out (by simp; omega)]
set_option maxHeartbeats 400000 in
theorem rputBytes_no (s : Nat → UInt8) (a : Int) (v : Value) (l : List UInt8) (w : World) (h0 : -9223372036854775808 ≤ a) (h1 : a ≤ 9223372036854775807) (h2 : l.length ≤ maxLen) (hv : IsB w v l) (hw : inB a l.length = false) :
    Calls Try.prog 59 #[.agg (secA s), .int .i64 a, v] w fun e w' => e = .returned (.agg (secA s)) ∧ Below w.heap.size w w' := by
  obtain ⟨x, c, rfl⟩ := hv.len
  unfold maxLen at h2
  go_enter Try.func59, Try.ntmps59
  go_wp2_with (go_at_call 75; refine (rwithin_any _ _ _ (by omega) (by omega) (by omega) (by omega)).mono ?_; rintro e w' ⟨rfl, rfl⟩)
  refine bodyPost_sec 6 (w.heap.size + 1) rfl rfl rfl (by go_simp) ⟨by go_simp, ?_⟩
  exact ((Below.refl _ _).alloc (Nat.le_refl _) _).alloc (by simp) _
set_option maxHeartbeats 400000 in
theorem rputBytes_yes (s : Nat → UInt8) (a : Nat) (x : Option Addr) (c : Nat) (l : List UInt8) (w : World) (h : a + l.length ≤ 64) (hv : IsB w (.slice x l.length c) l) :
    Calls Try.prog 59 #[.agg (secA s), .int .i64 a, .slice x l.length c] w fun e w' => e = .returned (.agg (secA (layL s a l))) ∧ Below w.heap.size w w' := by
  have hw : inB (a : Int) l.length = true := by simp [inB]; omega
  have hcells : ∀ k, k < l.length → ∃ b o, x = some ⟨b, o, none⟩ ∧ b < w.heap.size ∧ w.cell? ⟨b, o + k, none⟩ = some (Value.int .u8 ((l[k]?.getD 0).toNat : Int)) := by
    intro k hk
    rcases hv with ⟨_, rfl⟩ | ⟨y, d, he, hc⟩
    · simp at hk
    · simp only [Value.slice.injEq, true_and] at he
      obtain ⟨rfl, rfl⟩ := he
      have h9 := hc k hk
      obtain ⟨b, o, sp⟩ := y
      have hsp : sp = none := by simpa [Addr.add] using World.cell?_spot (hc 0 (by omega))
      subst hsp
      have hlt := World.block_lt_of_cell? w _ h9
      have hadd : (⟨b, o, none⟩ : Addr).add k = ⟨b, o + k, none⟩ := by unfold Addr.add; split <;> simp_all
      rw [hadd] at h9 hlt
      exact ⟨b, o, rfl, hlt, by rw [h9]; simp [hk]⟩
  clear hv
  go_enter Try.func59, Try.ntmps59
  go_wp2_with (go_at_call 75; refine (rwithin_any _ _ _ (by omega) (by omega) (by omega) (by omega)).mono ?_; rintro e w' ⟨rfl, rfl⟩)
  go_loopw [7] (fun i w' => ∃ k : Nat, k ≤ l.length ∧ i = .int .i64 k ∧ w' = (w.alloc (.cells (secA (layL s a (l.take k))) 44)).alloc (.cells (secA secZ) 44)) (fun i _ => l.length - (intOf i).toNat)
  case atStart => exact ⟨0, Nat.zero_le _, rfl, by rw [List.take_zero, layL_nil]⟩
  case round =>
    obtain ⟨k, hk, rfl, rfl⟩ := hrel
    by_cases hlt : k < l.length
    · obtain ⟨b, o, rfl, hbl, hcl⟩ := hcells k hlt
      clear hcells
      have hc := secA_get (layL s a (l.take k)) (a + k) (by omega)
      have HS : Hid ((secA (layL s a (l.take k))).setIfInBounds (a + k) (Value.int IntKind.u8 ((l[k]?.getD 0).toNat : Int)) = secA (layL s a (l.take (k + 1)))) := by
        show _ = _
        rw [secA_set _ _ _ (by omega), layL_succ s a l k hlt]; simp [hlt]
      generalize (l[k]?.getD 0).toNat = bk at hcl HS
      go_wp2
      go_roundw
      case rel => exact ⟨k + 1, by omega, by go_num, by rw [HS.out]⟩
      case measure => simp [intOf]; omega
    · obtain rfl : k = l.length := by omega
      rw [List.take_length]
      go_wp2
      refine bodyPost_sec 6 (w.heap.size + 1) rfl rfl rfl (by go_simp) ⟨by go_simp, ?_⟩
      exact ((Below.refl _ _).alloc (Nat.le_refl _) _).alloc (by simp) _
theorem rputBytes_any (s : Nat → UInt8) (a : Int) (v : Value) (l : List UInt8) (w : World) (h0 : -9223372036854775808 ≤ a) (h1 : a ≤ 9223372036854775807) (h2 : l.length ≤ maxLen) (hv : IsB w v l) :
    Calls Try.prog 59 #[.agg (secA s), .int .i64 a, v] w fun e w' => e = .returned (.agg (secA (layI s a l))) ∧ Below w.heap.size w w' := by
  unfold layI
  cases hw : inB a l.length
  · exact rputBytes_no s a v l w h0 h1 h2 hv hw
  · rw [inB_iff] at hw
    obtain ⟨a', rfl⟩ := Int.eq_ofNat_of_zero_le hw.1
    obtain ⟨x, c, rfl⟩ := hv.len
    rw [if_pos rfl, Int.toNat_natCast]
    exact rputBytes_yes s a' x c l w (by omega) hv
/-! PutU16, PutU32 by bytes -/
theorem ofNat_mod (x : Nat) : UInt8.ofNat (x % 256) = UInt8.ofNat x := by apply UInt8.toNat_inj.1; simp
theorem lay_two (s : Nat → UInt8) (a : Int) (v : Nat) : layI s a [UInt8.ofNat (v % 256), UInt8.ofNat (v / 256)] = putI s a v 2 := by
  unfold layI putI
  have e : (([UInt8.ofNat (v % 256), UInt8.ofNat (v / 256)] : List UInt8).length : Int) = ((2 : Nat) : Int) := rfl
  rw [e]
  split
  · funext j
    unfold putN
    by_cases h : a.toNat ≤ j ∧ j < a.toNat + 2
    · rw [layL_in (by simpa using h), if_pos h]
      rcases (by omega : j = a.toNat ∨ j = a.toNat + 1) with rfl | rfl
      · simp [ofNat_mod]
      · simp
    · rw [layL_out (by simpa using h), if_neg h]
  · rfl
theorem lay_four (s : Nat → UInt8) (a : Int) (v : Nat) : layI s a [UInt8.ofNat (v % 256), UInt8.ofNat (v / 256 % 256), UInt8.ofNat (v / 65536 % 256), UInt8.ofNat (v / 16777216)] = putI s a v 4 := by
  unfold layI putI
  have e : (([UInt8.ofNat (v % 256), UInt8.ofNat (v / 256 % 256), UInt8.ofNat (v / 65536 % 256), UInt8.ofNat (v / 16777216)] : List UInt8).length : Int) = ((4 : Nat) : Int) := rfl
  rw [e]
  split
  · funext j
    unfold putN
    by_cases h : a.toNat ≤ j ∧ j < a.toNat + 4
    · rw [layL_in (by simpa using h), if_pos h]
      rcases (by omega : j = a.toNat ∨ j = a.toNat + 1 ∨ j = a.toNat + 2 ∨ j = a.toNat + 3) with rfl | rfl | rfl | rfl <;> simp [ofNat_mod]
    · rw [layL_out (by simpa using h), if_neg h]
  · rfl
theorem isB_new (X : World) (l : List UInt8) (g c : Nat) (hg : g = X.heap.size) : IsB (X.alloc (.cells (bytesA l) 5)) (.slice (some ⟨g, 0, none⟩) l.length c) l := by
  subst hg
  exact rowB.isB (heap_alloc_last X _) c
set_option maxHeartbeats 400000 in
theorem rputU32_any (s : Nat → UInt8) (a v : Int) (w : World) (h0 : -9223372036854775808 ≤ a) (h1 : a ≤ 9223372036854775807) (hv : 0 ≤ v) (hv' : v < 4294967296) :
    Calls Try.prog 33 #[.agg (secA s), .int .i64 a, .int .u32 v] w fun e w' => e = .returned (.agg (secA (putI s a v.toNat 4))) ∧ Below w.heap.size w w' := by
  obtain ⟨n, rfl⟩ := Int.eq_ofNat_of_zero_le hv
  rw [Int.toNat_natCast, ← lay_four]
  have H1 : Hid (#[Value.int IntKind.u8 ((n : Int) % 256), Value.int IntKind.u8 ((n : Int) / 256 % 256), Value.int IntKind.u8 ((n : Int) / 65536 % 256), Value.int IntKind.u8 ((n : Int) / 16777216)] =
      bytesA [UInt8.ofNat (n % 256), UInt8.ofNat (n / 256 % 256), UInt8.ofNat (n / 65536 % 256), UInt8.ofNat (n / 16777216)]) := by
    show _ = _
    have e1 : n / 16777216 % 256 = n / 16777216 := by omega
    simp [bytesA, e1]
  go_enter Try.func33, Try.ntmps33
  go_wp2_with fail
  rw [H1.out]
  refine (rputBytes_any s a _ [UInt8.ofNat (n % 256), UInt8.ofNat (n / 256 % 256), UInt8.ofNat (n / 65536 % 256), UInt8.ofNat (n / 16777216)] _ h0 h1 (by simp [maxLen]) (isB_new _ _ _ _ (by simp))).mono ?_
  rintro e w1 ⟨rfl, hb⟩
  obtain ⟨hr1, hr2⟩ := rows_below hb
  go_wp2_with fail
  refine bodyPost_sec 6 (w.heap.size + 1) rfl rfl rfl (by go_simp) ⟨by go_simp, ?_⟩
  exact below_row (((((Below.refl _ _).alloc (Nat.le_refl _) _).alloc (by simp) _).alloc (by simp; omega) _).trans (hb.mono (by simp; omega))) (by omega) _
end Go.Proofs.Ytpckdkgbeemalaa
