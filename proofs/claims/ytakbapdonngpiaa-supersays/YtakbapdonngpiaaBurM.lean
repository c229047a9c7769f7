
import Derived.Test.YtakbapdonngpiaaCrcS
namespace Go.Proofs.Ytakbapdonngpiaa

/-! Bits turned in a row, as plain mathematics -/
def fbit (s : Nat → UInt8) (j : Nat) : Bool := (s (j / 8)).toNat.testBit (j % 8)
def oneAt (j : Nat) : UInt8 := UInt8.ofNat (2 ^ (j % 8))
def flip (s : Nat → UInt8) (j : Nat) : Nat → UInt8 := upd s (j / 8) (s (j / 8) ^^^ oneAt j)
/-- The bits bit + i with P i turned, i < k. -/
def turnS (s : Nat → UInt8) (P : Nat → Bool) (bit : Nat) : Nat → Nat → UInt8
  | 0 => s
  | k + 1 => bif P k then flip (turnS s P bit k) (bit + k) else turnS s P bit k
def anyP (P : Nat → Bool) : Nat → Bool
  | 0 => false
  | k + 1 => bif P k then true else anyP P k
theorem oneAt_bit (j r : Nat) (hr : r < 8) : (oneAt j).toNat.testBit r = decide (r = j % 8) := by
  have h : ∀ a : Fin 8, ∀ b : Fin 8, (UInt8.ofNat (2 ^ a.val)).toNat.testBit b.val = decide (b.val = a.val) := by decide
  exact h ⟨j % 8, by omega⟩ ⟨r, hr⟩
set_option linter.unusedSimpArgs false in
theorem fbit_flip (s : Nat → UInt8) (j i : Nat) : fbit (flip s j) i = (fbit s i ^^ decide (i = j)) := by
  unfold fbit flip upd
  by_cases h : i / 8 = j / 8
  · simp only [h, if_true, ↓reduceIte]
    rw [UInt8.toNat_xor, Nat.testBit_xor, oneAt_bit j (i % 8) (by omega)]
    congr 1
    by_cases h2 : i % 8 = j % 8
    · have : i = j := by omega
      simp [h2, this]
    · have : i ≠ j := fun e => h2 (by rw [e])
      simp [h2, this]
  · have : i ≠ j := fun e => h (by rw [e])
    simp [h, this]
set_option linter.unusedSimpArgs false in
theorem fbit_turn (s : Nat → UInt8) (P : Nat → Bool) (bit : Nat) : ∀ k j, fbit (turnS s P bit k) j = (fbit s j ^^ (decide (bit ≤ j ∧ j < bit + k) && P (j - bit)))
  | 0, j => by
    have : ¬ (bit ≤ j ∧ j < bit + 0) := by omega
    rw [decide_eq_false this]; simp [turnS]
  | k + 1, j => by
    rw [turnS]
    by_cases h : j = bit + k
    · subst h
      have h1 : ¬ (bit ≤ bit + k ∧ bit + k < bit + k) := by omega
      have h2 : bit ≤ bit + k ∧ bit + k < bit + (k + 1) := by omega
      have h3 : bit + k - bit = k := by omega
      cases hP : P k
      · simp only [cond_false, fbit_turn s P bit k, h1, h2, h3, hP, decide_false, Bool.false_and, Bool.and_false]
      · simp only [cond_true, fbit_flip, fbit_turn s P bit k, h1, h2, h3, hP, decide_false, Bool.false_and]; simp
    · have h1 : decide (bit ≤ j ∧ j < bit + (k + 1)) = decide (bit ≤ j ∧ j < bit + k) := by
        rw [decide_eq_decide]; omega
      rw [h1]
      cases P k
      · simp only [cond_false, fbit_turn s P bit k]
      · simp only [cond_true, fbit_flip, fbit_turn s P bit k, h, decide_false, Bool.xor_false]
theorem anyP_iff (P : Nat → Bool) : ∀ k, anyP P k = true ↔ ∃ i, i < k ∧ P i = true
  | 0 => by simp [anyP]
  | k + 1 => by
    rw [anyP]
    cases hP : P k
    · rw [cond_false, anyP_iff P k]
      constructor
      · rintro ⟨i, h1, h2⟩; exact ⟨i, by omega, h2⟩
      · rintro ⟨i, h1, h2⟩
        refine ⟨i, ?_, h2⟩
        rcases Nat.lt_or_ge i k with h | h
        · exact h
        · have : i = k := by omega
          subst this; rw [hP] at h2; cases h2
    · exact ⟨fun _ => ⟨k, by omega, hP⟩, fun _ => rfl⟩
theorem turnS_none (s : Nat → UInt8) (P : Nat → Bool) (bit : Nat) : ∀ k, anyP P k = false → turnS s P bit k = s
  | 0, _ => rfl
  | k + 1, h => by
    rw [anyP] at h
    cases hP : P k
    · rw [hP, cond_false] at h; rw [turnS, hP, cond_false]; exact turnS_none s P bit k h
    · rw [hP, cond_true] at h; cases h
theorem bitAt_sub (s : Nat → UInt8) (n j : Nat) (h : j < 8 * n) : bitAt (subL s 0 n) j = fbit s j := by
  unfold bitAt fbit
  have h2 : j / 8 < (subL s 0 n).length := by rw [subL_length]; omega
  rw [List.getElem?_eq_getElem h2, Option.getD_some, subL_get, Nat.zero_add]
/-- Turned bits make another sum. -/
theorem turn_sum (s : Nat → UInt8) (P : Nat → Bool) (bit n : Nat) (hP : ∀ i, P i = true → bit + i < 8 * n) (ha : anyP P 32 = true) : sumL (subL s 0 n) ≠ sumL (subL (turnS s P bit 32) 0 n) := by
  refine sumL_differ _ _ bit (by rw [subL_length, subL_length]) (fun k hk hd => ?_) ?_
  · rw [subL_length] at hk
    rw [bitAt_sub s n k hk, bitAt_sub _ n k hk, fbit_turn] at hd
    by_cases h : bit ≤ k ∧ k < bit + 32
    · exact h
    · rw [decide_eq_false h] at hd; simp at hd
  · obtain ⟨i, hi, hPi⟩ := (anyP_iff P 32).1 ha
    have h1 := hP i hPi
    refine ⟨bit + i, by rw [subL_length]; exact h1, ?_⟩
    rw [bitAt_sub s n _ h1, bitAt_sub _ n _ h1, fbit_turn]
    have h2 : bit ≤ bit + i ∧ bit + i < bit + 32 := by omega
    have h3 : bit + i - bit = i := by omega
    rw [decide_eq_true h2, h3, hPi]
    simp
/-! Sealed sectors have one and the same remainder -/
theorem numV_get : ∀ (l : List Bool) (i : Nat), l.length ≤ 32 → i < 32 → (numV l).getLsbD i = l[i]?.getD false
  | [], i, _, _ => by simp [numV]
  | b :: r, i, h, hi => by
    have h' : r.length ≤ 31 := by simpa using h
    rw [numV, BitVec.getLsbD_xor, BitVec.getLsbD_shiftLeft]
    rcases i with _ | i
    · cases b <;> simp [bitV]
    · have e1 : (bitV b).getLsbD (i + 1) = false := by
        cases b
        · simp [bitV]
        · simp only [bitV, cond_true, BitVec.getLsbD_one]; simp
      rw [e1]
      have e2 := numV_get r i (by omega) (by omega)
      simp [hi, e2]
theorem numV_bytes (x : BitVec 32) (l : List UInt8) (hl : l.length = 4) (h : ∀ i, i < 4 → l[i]?.getD 0 = UInt8.ofNat (x.toNat / 256 ^ i)) : numV (bitsL l) = x := by
  apply BitVec.eq_of_getLsbD_eq
  intro i hi
  have hb : (bitsL l).length = 32 := by rw [bitsL_length, hl]
  rw [numV_get _ i (by omega) hi, bitsL_get l i (by omega), Option.getD_some]
  unfold bitAt
  rw [h (i / 8) (by omega), UInt8.toNat_ofNat']
  have e8 : (2 : Nat) ^ 8 = 256 := by decide
  have e : x.getLsbD i = x.toNat.testBit i := rfl
  rw [e, Nat.testBit_mod_two_pow, show (256 : Nat) = 2 ^ 8 from e8.symm, ← Nat.pow_mul, Nat.testBit_div_two_pow]
  have h1 : i % 8 < 8 := by omega
  have h2 : i % 8 + 8 * (i / 8) = i := by omega
  simp [h1, h2]
theorem sealed_rest (s : Nat → UInt8) (h : ∀ i, i < 64 → sealS s i = s i) : sumL (subL s 0 64) = stN 32 ones ^^^ ones := by
  have e : subL s 0 64 = subL s 0 60 ++ subL s 60 4 := by
    apply List.ext_getElem
    · simp
    · intro i h1 h2
      rw [subL_get]
      by_cases hi : i < 60
      · rw [List.getElem_append_left (by simpa using hi), subL_get]
      · rw [List.getElem_append_right (by simpa using hi), subL_get]
        simp only [subL_length]
        congr 1; omega
  have hn : numV (bitsL (subL s 60 4)) = secSum s := by
    refine numV_bytes _ _ (by simp) fun i hi => ?_
    have hlt : i < (subL s 60 4).length := by simpa using hi
    rw [List.getElem?_eq_getElem hlt, Option.getD_some, subL_get, ← h (60 + i) (by omega)]
    unfold sealS putN
    rw [if_pos (by omega), show 60 + i - 60 = i by omega]
  unfold sumL
  rw [e, crcL_append, crcL_feed (subL s 60 4), feed_num _ _ (by rw [bitsL_length]; simp), hn]
  have hl : (bitsL (subL s 60 4)).length = 32 := by rw [bitsL_length]; simp
  rw [hl]
  unfold secSum sumL
  rw [← BitVec.xor_assoc, BitVec.xor_self, BitVec.zero_xor]
theorem sealS_idem (s : Nat → UInt8) : sealS (sealS s) = sealS s := by
  have e : secSum (sealS s) = secSum s := by
    unfold secSum
    congr 1
  funext j
  unfold sealS at *
  rw [e]
  unfold putN
  split <;> rfl
/-- A sealed sector whose bits are turned, up to 32 in a row: not sealed. -/
theorem turn_sealed (s : Nat → UInt8) (P : Nat → Bool) (bit : Nat) (hP : ∀ i, P i = true → bit + i < 512) : secEq (sealS (turnS (sealS s) P bit 32)) (turnS (sealS s) P bit 32) = !(anyP P 32) := by
  cases ha : anyP P 32
  · rw [turnS_none _ _ _ _ ha, sealS_idem]
    exact (secEq_iff _ _).2 fun _ _ => rfl
  · rw [Bool.not_true]
    cases hq : secEq (sealS (turnS (sealS s) P bit 32)) (turnS (sealS s) P bit 32)
    · rfl
    · exfalso
      have h1 := sealed_rest _ ((secEq_iff _ _).1 hq)
      have h2 := sealed_rest (sealS s) (fun i _ => by rw [sealS_idem])
      exact turn_sum (sealS s) P bit 64 (fun i h => by have := hP i h; omega) ha (by rw [h2, h1])
end Go.Proofs.Ytakbapdonngpiaa
