import Derived.Test.YtddmmmfpdmejbaaGreatDoorQLexN
import Derived.Test.YtddmmmfpdmejbaaGreatDoorQLex9
import Derived.Lib.RuneBytes
import Derived.Lib.UnsafeStr
namespace Go.Proofs.YtddmmmfpdmejbaaGreatDoor
open Go.RowKit

/-! What a range over a text yields, in the words of LexM -/
theorem get_lB (s : ByteArray) (i : Nat) : s.get! i = lB (lS s) i := by
  unfold lB lS
  obtain ⟨a⟩ := s
  show a[i]! = _
  rw [Array.getElem?_toList]
  rw [Array.getElem!_eq_getD, Array.getD_eq_getD_getElem?]
  rfl
def dcN (b0 b1 b2 b3 n : Nat) : Nat × Nat :=
  if b0 < 128 then (b0, 1)
  else if b0 / 32 = 6 ∧ 2 ≤ n ∧ b1 / 64 = 2 then (if 128 ≤ b0 % 32 * 64 + b1 % 64 then (b0 % 32 * 64 + b1 % 64, 2) else (65533, 1))
  else if b0 / 16 = 14 ∧ (2 ≤ n ∧ b1 / 64 = 2) ∧ 3 ≤ n ∧ b2 / 64 = 2 then (if 2048 ≤ b0 % 16 * 4096 + b1 % 64 * 64 + b2 % 64 ∧ Utf8.valid ((b0 % 16 * 4096 + b1 % 64 * 64 + b2 % 64 : Nat) : Int) = true then (b0 % 16 * 4096 + b1 % 64 * 64 + b2 % 64, 3) else (65533, 1))
  else if b0 / 8 = 30 ∧ (2 ≤ n ∧ b1 / 64 = 2) ∧ (3 ≤ n ∧ b2 / 64 = 2) ∧ 4 ≤ n ∧ b3 / 64 = 2 then (if 65536 ≤ b0 % 8 * 262144 + b1 % 64 * 4096 + b2 % 64 * 64 + b3 % 64 ∧ Utf8.valid ((b0 % 8 * 262144 + b1 % 64 * 4096 + b2 % 64 * 64 + b3 % 64 : Nat) : Int) = true then (b0 % 8 * 262144 + b1 % 64 * 4096 + b2 % 64 * 64 + b3 % 64, 4) else (65533, 1))
  else (65533, 1)
theorem dec_dcN (s : ByteArray) (k : Nat) (hk : k < s.size) : Utf8.decode s k = dcN (lB ((lS s).drop k) 0).toNat (lB ((lS s).drop k) 1).toNat (lB ((lS s).drop k) 2).toNat (lB ((lS s).drop k) 3).toNat ((lS s).drop k).length := by
  have hd : ∀ j, lB ((lS s).drop k) j = lB (lS s) (k + j) := fun j => by unfold lB; rw [List.getElem?_drop]
  have hl : ((lS s).drop k).length = s.size - k := by rw [List.length_drop, lS_len]
  unfold Utf8.decode dcN
  simp only [get_lB, hd, hl, Bool.and_eq_true, decide_eq_true_eq, beq_iff_eq, Utf8.runeError, and_assoc]
  have e1 : (k + 1 < s.size) ↔ 2 ≤ s.size - k := by omega
  have e2 : (k + 2 < s.size) ↔ 3 ≤ s.size - k := by omega
  have e3 : (k + 3 < s.size) ↔ 4 ≤ s.size - k := by omega
  simp only [e1, e2, e3, ge_iff_le]
theorem valid_nat (c : Nat) : Utf8.valid (c : Int) = true ↔ c < 55296 ∨ (57344 ≤ c ∧ c ≤ 1114111) := by
  unfold Utf8.valid
  simp only [Bool.or_eq_true, Bool.and_eq_true, decide_eq_true_eq]
  omega
theorem isC_div (b : UInt8) : isC b = true ↔ b.toNat / 64 = 2 := by
  unfold isC
  rw [decide_eq_true_eq]
  omega
theorem cvR_yes (l : List UInt8) (v k u : Nat) (h : cvR l v k = some u) (hc : (lB l (k + 1)).toNat / 64 = 2) : cvR l v (k + 1) = some (64 * u + (lB l (k + 1)).toNat % 64) := by
  rw [cv_step l v k u ((lB l (k + 1)).toNat % 64) h (by omega) (by omega)]
theorem cvR_no (l : List UInt8) (v k : Nat) (hc : ¬ (lB l (k + 1)).toNat / 64 = 2) : cvR l v (k + 1) = none := by
  rw [cvR]
  split
  · rfl
  · rw [if_neg (fun h => hc ((isC_div _).1 h))]
theorem cvR_none (l : List UInt8) (v k : Nat) (h : cvR l v k = none) : cvR l v (k + 1) = none := by rw [cvR, h]
theorem rnN_no (l : List UInt8) (n v : Nat) (h : cvR l v (n - 1) = none) : (rnN l n v).2 = 0 := by
  unfold rnN
  split
  · rfl
  · rw [h]
theorem rnN_ok (l : List UInt8) (n v u : Nat) (_ : 0 < n) (hl : n ≤ l.length) (h : cvR l v (n - 1) = some u) : rnN l n v = if okR n u = true then (u, n) else (0, 0) := by
  unfold rnN
  rw [if_neg (by omega), h]
theorem rnN_short (l : List UInt8) (n v : Nat) (h : l.length < n) : rnN l n v = (0, 0) := by
  unfold rnN
  rw [if_pos h]
def stR (x : Nat × Nat) : Nat × Nat := if x.2 = 0 then (65533, 1) else x
theorem stR0 {x : Nat × Nat} (h : x.2 = 0) : stR x = (65533, 1) := if_pos h
theorem dec_rn (s : ByteArray) (k : Nat) (hk : k < s.size) : Utf8.decode s k = stR (rn ((lS s).drop k)) := by
  rw [dec_dcN s k hk]
  have hl : 0 < ((lS s).drop k).length := by rw [List.length_drop, lS_len]; omega
  generalize (lS s).drop k = x at hl
  obtain ⟨b, hb⟩ : ∃ q, (lB x 0).toNat = q := ⟨_, rfl⟩
  have hb8 : b < 256 := by rw [← hb]; exact (lB x 0).toNat_lt
  rw [rn_b x b (by omega) hb, hb]
  unfold dcN
  by_cases h1 : b < 128
  · rw [if_pos h1, if_pos h1]; rfl
  rw [if_neg h1, if_neg h1]
  by_cases h2 : 192 ≤ b ∧ b < 224
  · rw [if_pos h2]
    by_cases hn : 2 ≤ x.length
    · by_cases hc : (lB x 1).toNat / 64 = 2
      · have e := cvR_yes x (b - 192) 0 _ rfl hc
        rw [rnN_ok x 2 _ _ (by omega) hn e, if_pos ⟨by omega, hn, hc⟩]
        have ev : 64 * (b - 192) + (lB x (0 + 1)).toNat % 64 = b % 32 * 64 + (lB x 1).toNat % 64 := by rw [Nat.zero_add]; omega
        rw [ev]
        generalize hv : b % 32 * 64 + (lB x 1).toNat % 64 = v
        by_cases ho : 128 ≤ v
        · rw [if_pos ho, if_pos ((okR_iff _ _).2 ⟨ho, by omega, by omega⟩)]; rfl
        · rw [if_neg ho, if_neg (fun h => ho ((okR_iff _ _).1 h).1)]; rfl
      · rw [stR0 (rnN_no x 2 _ (cvR_no x _ 0 hc)), if_neg (by omega), if_neg (by omega), if_neg (by omega)]
    · rw [rnN_short x 2 _ (by omega), if_neg (by omega), if_neg (by omega), if_neg (by omega)]; rfl
  rw [if_neg h2, if_neg (by omega : ¬ (b / 32 = 6 ∧ _))]
  by_cases h3 : 224 ≤ b ∧ b < 240
  · rw [if_pos h3]
    by_cases hn : 3 ≤ x.length
    · by_cases hc : (lB x 1).toNat / 64 = 2
      · have e := cvR_yes x (b - 224) 0 _ rfl hc
        by_cases hc2 : (lB x 2).toNat / 64 = 2
        · have e2 := cvR_yes x (b - 224) 1 _ e hc2
          rw [rnN_ok x 3 _ _ (by omega) hn e2, if_pos ⟨by omega, ⟨by omega, hc⟩, hn, hc2⟩]
          have ev : 64 * (64 * (b - 224) + (lB x (0 + 1)).toNat % 64) + (lB x (1 + 1)).toNat % 64 = b % 16 * 4096 + (lB x 1).toNat % 64 * 64 + (lB x 2).toNat % 64 := by simp only [Nat.zero_add, Nat.reduceAdd]; omega
          rw [ev]
          generalize hv : b % 16 * 4096 + (lB x 1).toNat % 64 * 64 + (lB x 2).toNat % 64 = v
          by_cases ho : 2048 ≤ v ∧ Utf8.valid (v : Int) = true
          · have := (valid_nat v).1 ho.2
            rw [if_pos ho, if_pos ((okR_iff _ _).2 ⟨ho.1, by omega, by omega⟩)]; rfl
          · rw [if_neg ho, if_neg (fun h => ho ⟨((okR_iff _ _).1 h).1, (valid_nat v).2 (by have := ((okR_iff _ _).1 h).2; omega)⟩)]; rfl
        · rw [stR0 (rnN_no x 3 _ (cvR_no x _ 1 hc2)), if_neg (by omega), if_neg (by omega)]
      · rw [stR0 (rnN_no x 3 _ (cvR_none x _ 1 (cvR_no x _ 0 hc))), if_neg (by omega), if_neg (by omega)]
    · rw [rnN_short x 3 _ (by omega), if_neg (by omega), if_neg (by omega)]; rfl
  rw [if_neg h3, if_neg (by omega : ¬ (b / 16 = 14 ∧ _))]
  by_cases h4 : 240 ≤ b ∧ b < 248
  · rw [if_pos h4]
    by_cases hn : 4 ≤ x.length
    · by_cases hc : (lB x 1).toNat / 64 = 2
      · have e := cvR_yes x (b - 240) 0 _ rfl hc
        by_cases hc2 : (lB x 2).toNat / 64 = 2
        · have e2 := cvR_yes x (b - 240) 1 _ e hc2
          by_cases hc3 : (lB x 3).toNat / 64 = 2
          · have e3 := cvR_yes x (b - 240) 2 _ e2 hc3
            rw [rnN_ok x 4 _ _ (by omega) hn e3, if_pos ⟨by omega, ⟨by omega, hc⟩, ⟨by omega, hc2⟩, hn, hc3⟩]
            have ev : 64 * (64 * (64 * (b - 240) + (lB x (0 + 1)).toNat % 64) + (lB x (1 + 1)).toNat % 64) + (lB x (2 + 1)).toNat % 64 = b % 8 * 262144 + (lB x 1).toNat % 64 * 4096 + (lB x 2).toNat % 64 * 64 + (lB x 3).toNat % 64 := by simp only [Nat.zero_add, Nat.reduceAdd]; omega
            rw [ev]
            generalize hv : b % 8 * 262144 + (lB x 1).toNat % 64 * 4096 + (lB x 2).toNat % 64 * 64 + (lB x 3).toNat % 64 = v
            by_cases ho : 65536 ≤ v ∧ Utf8.valid (v : Int) = true
            · have := (valid_nat v).1 ho.2
              rw [if_pos ho, if_pos ((okR_iff _ _).2 ⟨ho.1, by omega, by omega⟩)]; rfl
            · rw [if_neg ho, if_neg (fun h => ho ⟨((okR_iff _ _).1 h).1, (valid_nat v).2 (by have := ((okR_iff _ _).1 h).2; omega)⟩)]; rfl
          · rw [stR0 (rnN_no x 4 _ (cvR_no x _ 2 hc3)), if_neg (by omega)]
        · rw [stR0 (rnN_no x 4 _ (cvR_none x _ 2 (cvR_no x _ 1 hc2))), if_neg (by omega)]
      · rw [stR0 (rnN_no x 4 _ (cvR_none x _ 2 (cvR_none x _ 1 (cvR_no x _ 0 hc)))), if_neg (by omega)]
    · rw [rnN_short x 4 _ (by omega), if_neg (by omega)]; rfl
  rw [if_neg h4, if_neg (by omega : ¬ (b / 8 = 30 ∧ _))]
  rfl
/-- Is what a range told as rune v, at the front of l, a byte that belongs to none? -/
def stray (v : Nat) (l : List UInt8) : Bool := decide (v = 65533) && !decide (l.take 3 = [239, 191, 189])
theorem enc_err : enc 65533 = [239, 191, 189] := by decide
theorem stray_rn (x : List UInt8) : stray (stR (rn x)).1 x = decide ((rn x).2 = 0) := by
  unfold stray
  by_cases h0 : (rn x).2 = 0
  · rw [stR0 h0, decide_eq_true h0, decide_eq_true rfl, Bool.true_and]
    rw [decide_eq_false, Bool.not_false]
    intro h
    have e : x = enc 65533 ++ x.drop 3 := by rw [enc_err, ← h, List.take_append_drop]
    rw [e, rn_enc 65533 ⟨by omega, by omega⟩] at h0
    rw [enc_err] at h0
    simp at h0
  · rw [decide_eq_false h0]
    have e1 : stR (rn x) = rn x := if_neg h0
    rw [e1]
    by_cases hv : (rn x).1 = 65533
    · obtain ⟨ht, _, hl⟩ := enc_rn x (rn x).1 (rn x).2 rfl h0
      rw [hv, enc_err] at ht
      have h3 : (rn x).2 = 3 := by
        have := congrArg List.length ht
        rw [List.length_take] at this
        simp at this
        omega
      rw [h3] at ht
      rw [decide_eq_true ht, Bool.not_true, Bool.and_false]
    · rw [decide_eq_false hv, Bool.false_and]
theorem stR_pos (x : Nat × Nat) : 1 ≤ (stR x).2 := by
  unfold stR
  split
  · exact Nat.le_refl _
  · omega
theorem toUInt8_u8 (n : Nat) : n.toUInt8 = u8 n := rfl
theorem enc_Z (v : Nat) (hv : vR v) : Lib.encodeRune (v : Int) = enc v := by
  obtain ⟨h1, h2⟩ := hv
  unfold Lib.encodeRune Lib.encodeRuneZ enc
  by_cases a : v < 128
  · rw [if_pos (by omega), if_pos a]
    simp [toUInt8_u8]
  rw [if_neg (by omega), if_neg a]
  by_cases b : v < 2048
  · rw [if_pos (by omega), if_pos b]
    have e1 : (192 + (v : Int) / 64).toNat = 192 + v / 64 := by omega
    have e2 : (128 + (v : Int) % 64).toNat = 128 + v % 64 := by omega
    simp only [List.map_cons, List.map_nil, e1, e2, toUInt8_u8]
  rw [if_neg (by omega), if_neg b]
  by_cases c : v < 65536
  · rw [if_pos (by omega), if_pos c]
    have e1 : (224 + (v : Int) / 4096).toNat = 224 + v / 4096 := by omega
    have e2 : (128 + (v : Int) / 64 % 64).toNat = 128 + v / 64 % 64 := by omega
    have e3 : (128 + (v : Int) % 64).toNat = 128 + v % 64 := by omega
    simp only [List.map_cons, List.map_nil, e1, e2, e3, toUInt8_u8]
  rw [if_neg (by omega), if_neg c, if_pos (by omega)]
  have e1 : (240 + (v : Int) / 262144).toNat = 240 + v / 262144 := by omega
  have e2 : (128 + (v : Int) / 4096 % 64).toNat = 128 + v / 4096 % 64 := by omega
  have e3 : (128 + (v : Int) / 64 % 64).toNat = 128 + v / 64 % 64 := by omega
  have e4 : (128 + (v : Int) % 64).toNat = 128 + v % 64 := by omega
  simp only [List.map_cons, List.map_nil, e1, e2, e3, e4, toUInt8_u8]
end Go.Proofs.YtddmmmfpdmejbaaGreatDoor
