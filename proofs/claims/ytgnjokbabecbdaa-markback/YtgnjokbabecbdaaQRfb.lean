import Derived.Test.YtgnjokbabecbdaaQRfa
namespace Go.Proofs.Ytgnjokbabecbdaa
open Go.RowKit

/-! PutBytes, byte by byte -/
theorem layL_in {s : Nat → UInt8} {a j : Nat} {l : List UInt8} (h : a ≤ j ∧ j < a + l.length) : layL s a l j = l[j - a]'(by omega) := by unfold layL; rw [dif_pos h]
theorem layL_out {s : Nat → UInt8} {a j : Nat} {l : List UInt8} (h : ¬ (a ≤ j ∧ j < a + l.length)) : layL s a l j = s j := by unfold layL; rw [dif_neg h]
theorem layL_succ (s : Nat → UInt8) (a : Nat) (l : List UInt8) (k : Nat) (h : k < l.length) : layL s a (l.take (k + 1)) = upd (layL s a (l.take k)) (a + k) l[k] := by
  funext j
  unfold upd
  by_cases hj : j = a + k
  · subst hj
    rw [layL_in (by simp; omega), if_pos rfl]
    simp
  · rw [if_neg hj]
    by_cases h2 : a ≤ j ∧ j < a + k
    · rw [layL_in (by simp; omega), layL_in (by simp; omega)]
      simp
    · rw [layL_out (by simp; omega), layL_out (by simp; omega)]
set_option maxHeartbeats 400000 in
theorem rputBytes_no (s : Nat → UInt8) (a : Int) (v : Value) (l : List UInt8) (w : World) (h0 : -9223372036854775808 ≤ a) (h1 : a ≤ 9223372036854775807) (h2 : l.length ≤ maxLen) (hv : IsB w v l) (hw : inB a l.length = false) :
    Calls Try.prog 38 #[.agg (secA s), .int .i64 a, v] w fun e w' => e = .returned (.agg (secA s)) ∧ Below w.heap.size w w' := by
  obtain ⟨x, c, rfl⟩ := hv.len
  unfold maxLen at h2
  go_enter Try.func38, Try.ntmps38
  go_wp2_with (go_at_call 45; refine (rwithin_any _ _ _ (by omega) (by omega) (by omega) (by omega)).mono ?_; rintro e w' ⟨rfl, rfl⟩)
  refine bodyPost_sec 6 (w.heap.size + 1) rfl rfl rfl (by go_simp) ⟨by go_simp, ?_⟩
  exact ((Below.refl _ _).alloc (Nat.le_refl _) _).alloc (by simp) _
set_option maxHeartbeats 400000 in
theorem rputBytes_yes (s : Nat → UInt8) (a : Nat) (x : Option Addr) (c : Nat) (l : List UInt8) (w : World) (h : a + l.length ≤ 64) (hv : IsB w (.slice x l.length c) l) :
    Calls Try.prog 38 #[.agg (secA s), .int .i64 a, .slice x l.length c] w fun e w' => e = .returned (.agg (secA (layL s a l))) ∧ Below w.heap.size w w' := by
  have hw : inB (a : Int) l.length = true := by simp [inB]; omega
  have hcells : ∀ k, k < l.length → ∃ b o, x = some ⟨b, o, none⟩ ∧ b < w.heap.size ∧ w.cell? ⟨b, o + k, none⟩ = some (Value.int .u8 ((l[k]?.getD 0).toNat : Int)) := by
    intro k hk
    rcases hv with ⟨_, rfl⟩ | ⟨y, d, he, hc⟩
    · simp at hk
    · simp only [Value.slice.injEq, true_and] at he
      obtain ⟨rfl, rfl⟩ := he
      have h9 := hc k hk
      obtain ⟨b, o, sp⟩ := y
      have hsp : sp = none := by simpa [Addr.add] using World.cell?_spot (hc 0 (by omega))
      subst hsp
      have hlt := World.block_lt_of_cell? w _ h9
      have hadd : (⟨b, o, none⟩ : Addr).add k = ⟨b, o + k, none⟩ := by unfold Addr.add; split <;> simp_all
      rw [hadd] at h9 hlt
      exact ⟨b, o, rfl, hlt, by rw [h9]; simp [hk]⟩
  clear hv
  go_enter Try.func38, Try.ntmps38
  go_wp2_with (go_at_call 45; refine (rwithin_any _ _ _ (by omega) (by omega) (by omega) (by omega)).mono ?_; rintro e w' ⟨rfl, rfl⟩)
  go_loopw [7] (fun i w' => ∃ k : Nat, k ≤ l.length ∧ i = .int .i64 k ∧ w' = (w.alloc (.cells (secA (layL s a (l.take k))) 28)).alloc (.cells (secA secZ) 28)) (fun i _ => l.length - (intOf i).toNat)
  case atStart => exact ⟨0, Nat.zero_le _, rfl, by rw [List.take_zero, layL_nil]⟩
  case round =>
    obtain ⟨k, hk, rfl, rfl⟩ := hrel
    by_cases hlt : k < l.length
    · obtain ⟨b, o, rfl, hbl, hcl⟩ := hcells k hlt
      clear hcells
      have hc := secA_get (layL s a (l.take k)) (a + k) (by omega)
      have HS : Hid ((secA (layL s a (l.take k))).setIfInBounds (a + k) (Value.int IntKind.u8 ((l[k]?.getD 0).toNat : Int)) = secA (layL s a (l.take (k + 1)))) := by
        show _ = _
        rw [secA_set _ _ _ (by omega), layL_succ s a l k hlt]; simp [hlt]
      generalize (l[k]?.getD 0).toNat = bk at hcl HS
      go_wp2
      go_roundw
      case rel => exact ⟨k + 1, by omega, by go_num, by rw [HS.out]⟩
      case measure => simp [intOf]; omega
    · obtain rfl : k = l.length := by omega
      rw [List.take_length]
      go_wp2
      refine bodyPost_sec 6 (w.heap.size + 1) rfl rfl rfl (by go_simp) ⟨by go_simp, ?_⟩
      exact ((Below.refl _ _).alloc (Nat.le_refl _) _).alloc (by simp) _
theorem rputBytes_any (s : Nat → UInt8) (a : Int) (v : Value) (l : List UInt8) (w : World) (h0 : -9223372036854775808 ≤ a) (h1 : a ≤ 9223372036854775807) (h2 : l.length ≤ maxLen) (hv : IsB w v l) :
    Calls Try.prog 38 #[.agg (secA s), .int .i64 a, v] w fun e w' => e = .returned (.agg (secA (layI s a l))) ∧ Below w.heap.size w w' := by
  unfold layI
  cases hw : inB a l.length
  · exact rputBytes_no s a v l w h0 h1 h2 hv hw
  · rw [inB_iff] at hw
    obtain ⟨a', rfl⟩ := Int.eq_ofNat_of_zero_le hw.1
    obtain ⟨x, c, rfl⟩ := hv.len
    rw [if_pos rfl, Int.toNat_natCast]
    exact rputBytes_yes s a' x c l w (by omega) hv
/-! PutU16, PutU32 by bytes -/
theorem ofNat_mod (x : Nat) : UInt8.ofNat (x % 256) = UInt8.ofNat x := by apply UInt8.toNat_inj.1; simp
theorem lay_two (s : Nat → UInt8) (a : Int) (v : Nat) : layI s a [UInt8.ofNat (v % 256), UInt8.ofNat (v / 256)] = putI s a v 2 := by
  unfold layI putI
  have e : (([UInt8.ofNat (v % 256), UInt8.ofNat (v / 256)] : List UInt8).length : Int) = ((2 : Nat) : Int) := rfl
  rw [e]
  split
  · funext j
    unfold putN
    by_cases h : a.toNat ≤ j ∧ j < a.toNat + 2
    · rw [layL_in (by simpa using h), if_pos h]
      rcases (by omega : j = a.toNat ∨ j = a.toNat + 1) with rfl | rfl
      · simp [ofNat_mod]
      · simp
    · rw [layL_out (by simpa using h), if_neg h]
  · rfl
theorem lay_four (s : Nat → UInt8) (a : Int) (v : Nat) : layI s a [UInt8.ofNat (v % 256), UInt8.ofNat (v / 256 % 256), UInt8.ofNat (v / 65536 % 256), UInt8.ofNat (v / 16777216)] = putI s a v 4 := by
  unfold layI putI
  have e : (([UInt8.ofNat (v % 256), UInt8.ofNat (v / 256 % 256), UInt8.ofNat (v / 65536 % 256), UInt8.ofNat (v / 16777216)] : List UInt8).length : Int) = ((4 : Nat) : Int) := rfl
  rw [e]
  split
  · funext j
    unfold putN
    by_cases h : a.toNat ≤ j ∧ j < a.toNat + 4
    · rw [layL_in (by simpa using h), if_pos h]
      rcases (by omega : j = a.toNat ∨ j = a.toNat + 1 ∨ j = a.toNat + 2 ∨ j = a.toNat + 3) with rfl | rfl | rfl | rfl <;> simp [ofNat_mod]
    · rw [layL_out (by simpa using h), if_neg h]
  · rfl
theorem isB_new (X : World) (l : List UInt8) (g c : Nat) (hg : g = X.heap.size) : IsB (X.alloc (.cells (bytesA l) 5)) (.slice (some ⟨g, 0, none⟩) l.length c) l := by
  subst hg
  exact rowB.isB (heap_alloc_last X _) c
set_option maxHeartbeats 400000 in
theorem rputU32_any (s : Nat → UInt8) (a v : Int) (w : World) (h0 : -9223372036854775808 ≤ a) (h1 : a ≤ 9223372036854775807) (hv : 0 ≤ v) (hv' : v < 4294967296) :
    Calls Try.prog 24 #[.agg (secA s), .int .i64 a, .int .u32 v] w fun e w' => e = .returned (.agg (secA (putI s a v.toNat 4))) ∧ Below w.heap.size w w' := by
  obtain ⟨n, rfl⟩ := Int.eq_ofNat_of_zero_le hv
  rw [Int.toNat_natCast, ← lay_four]
  have H1 : Hid (#[Value.int IntKind.u8 ((n : Int) % 256), Value.int IntKind.u8 ((n : Int) / 256 % 256), Value.int IntKind.u8 ((n : Int) / 65536 % 256), Value.int IntKind.u8 ((n : Int) / 16777216)] =
      bytesA [UInt8.ofNat (n % 256), UInt8.ofNat (n / 256 % 256), UInt8.ofNat (n / 65536 % 256), UInt8.ofNat (n / 16777216)]) := by
    show _ = _
    have e1 : n / 16777216 % 256 = n / 16777216 := by omega
    simp [bytesA, e1]
  go_enter Try.func24, Try.ntmps24
  go_wp2_with fail
  rw [H1.out]
  refine (rputBytes_any s a _ [UInt8.ofNat (n % 256), UInt8.ofNat (n / 256 % 256), UInt8.ofNat (n / 65536 % 256), UInt8.ofNat (n / 16777216)] _ h0 h1 (by simp [maxLen]) (isB_new _ _ _ _ (by simp))).mono ?_
  rintro e w1 ⟨rfl, hb⟩
  obtain ⟨hr1, hr2⟩ := rows_below hb
  go_wp2_with fail
  refine bodyPost_sec 6 (w.heap.size + 1) rfl rfl rfl (by go_simp) ⟨by go_simp, ?_⟩
  exact below_row (((((Below.refl _ _).alloc (Nat.le_refl _) _).alloc (by simp) _).alloc (by simp; omega) _).trans (hb.mono (by simp; omega))) (by omega) _
end Go.Proofs.Ytgnjokbabecbdaa
