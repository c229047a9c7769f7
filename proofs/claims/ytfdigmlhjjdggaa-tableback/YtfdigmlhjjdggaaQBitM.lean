import Derived.Test.YtfdigmlhjjdggaaQCrcR2
import Derived.Test.YtfdigmlhjjdggaaQDev2
namespace Go.Proofs.Ytfdigmlhjjdggaa

/-! The bitmap, as plain mathematics -/
def manyN (n : Nat) : Nat := if 64 ≤ n ∧ n ≤ 1024 then (n + 479) / 480 else 0
/-- Is there a bit, of the first m, that belongs to no sector of the disk? -/
def overU (s : Sc) (k n : Nat) : Nat → Bool
  | 0 => false
  | m + 1 => overU s k n m || (decide (n ≤ k * 480 + m) && fbit s m)
def isSl (s : Sc) : Bool := secEq (sealS s) s
def tornB (s : Sc) (k n : Nat) : Bool := !isSl s || overU s k n 480
def bitOf (l : List Sc) (n i : Nat) : Bool := match l[i / 480]? with | some s => !tornB s (i / 480) n && fbit s (i % 480) | none => false
def getBits (l : List Sc) (n : Nat) : List Bool := if manyN n ≠ 0 ∧ l.length = manyN n then (List.range n).map (bitOf l n) else []
def badU (l : List Sc) (n : Nat) : Nat → List Nat
  | 0 => []
  | k + 1 => badU l n k ++ (match l[k]? with | some s => bif tornB s k n then [k] else [] | none => [])
def getBad (l : List Sc) (n : Nat) : List Nat := if manyN n ≠ 0 ∧ l.length = manyN n then badU l n l.length else []
def bAt (b : List Bool) (i : Nat) : Bool := b[i]?.getD false
def rawS (b : List Bool) (k : Nat) : Sc := turnS secZ (fun i => bAt b (k * 480 + i)) 0 480
def putS (b : List Bool) (k : Nat) : Sc := sealS (rawS b k)
def putL (b : List Bool) : List Sc := (List.range (manyN b.length)).map (putS b)
theorem manyN_pos {n : Nat} : manyN n ≠ 0 ↔ 64 ≤ n ∧ n ≤ 1024 := by
  unfold manyN
  split <;> rename_i h
  · exact ⟨fun _ => h, fun _ => by omega⟩
  · exact ⟨fun hh => absurd rfl hh, fun hh => absurd hh h⟩
theorem manyN_le (n : Nat) : manyN n ≤ 3 := by unfold manyN; split <;> omega
theorem manyN_mul {n : Nat} (h : manyN n ≠ 0) (i : Nat) : i < n → i / 480 < manyN n := by
  have := manyN_pos.1 h
  unfold manyN
  rw [if_pos this]; omega
theorem overU_iff (s : Sc) (k n : Nat) : ∀ m, overU s k n m = true ↔ ∃ i, i < m ∧ n ≤ k * 480 + i ∧ fbit s i = true
  | 0 => by simp [overU]
  | m + 1 => by
    rw [overU, Bool.or_eq_true, overU_iff s k n m, Bool.and_eq_true, decide_eq_true_iff]
    constructor
    · rintro (⟨i, h1, h2⟩ | h)
      · exact ⟨i, by omega, h2⟩
      · exact ⟨m, by omega, h⟩
    · rintro ⟨i, h1, h2⟩
      by_cases h : i = m
      · subst h; exact .inr h2
      · exact .inl ⟨i, by omega, h2⟩
theorem fbit_z (i : Nat) : fbit secZ i = false := by simp [fbit, secZ]
theorem fbit_raw (b : List Bool) (k i : Nat) (h : i < 480) : fbit (rawS b k) i = bAt b (k * 480 + i) := by
  unfold rawS
  rw [fbit_turn, fbit_z]
  simp [h]
/-- The first sixty bytes are as they were. -/
theorem sealS_low (s : Sc) (i : Nat) (h : i < 60) : sealS s i = s i := by
  unfold sealS
  rw [← put_four]
  unfold upd
  rw [if_neg (by omega), if_neg (by omega), if_neg (by omega), if_neg (by omega)]
theorem fbit_seal (s : Sc) (i : Nat) (h : i < 480) : fbit (sealS s) i = fbit s i := by
  unfold fbit
  rw [sealS_low s _ (by omega)]
theorem isSl_seal (s : Sc) : isSl (sealS s) = true := by
  unfold isSl
  rw [sealS_idem, secEq_dec]
  simp
theorem isSl_iff (s : Sc) : isSl s = true ↔ kS (sealS s) = kS s := by
  unfold isSl
  rw [secEq_dec, decide_eq_true_iff]
theorem kS_get (s : Sc) (i : Nat) (h : i < 64) : (kS s)[i]? = some (s i) := by simp [kS, h]
theorem kS_at {a b : Sc} (h : kS a = kS b) (i : Nat) (hi : i < 64) : a i = b i := by
  have := kS_get a i hi
  rw [h, kS_get b i hi] at this
  exact (Option.some.inj this).symm
theorem kS_of {a b : Sc} (h : ∀ i, i < 64 → a i = b i) : kS a = kS b := by
  unfold kS
  apply List.map_congr_left
  intro i hi
  exact h i (by simpa using hi)
theorem u8_bits (a b : UInt8) (h : ∀ r, r < 8 → a.toNat.testBit r = b.toNat.testBit r) : a = b := by
  apply UInt8.toNat.inj
  apply Nat.eq_of_testBit_eq
  intro r
  by_cases hr : r < 8
  · exact h r hr
  · rw [Nat.testBit_lt_two_pow (Nat.lt_of_lt_of_le a.toNat_lt (by exact Nat.pow_le_pow_right (by omega) (by omega : 8 ≤ r))), Nat.testBit_lt_two_pow (Nat.lt_of_lt_of_le b.toNat_lt (by exact Nat.pow_le_pow_right (by omega) (by omega : 8 ≤ r)))]
/-- The first sixty bytes hang on the first 480 bits. -/
theorem low_of_bits {a b : Sc} (h : ∀ i, i < 480 → fbit a i = fbit b i) (j : Nat) (hj : j < 60) : a j = b j := by
  apply u8_bits
  intro r hr
  have := h (8 * j + r) (by omega)
  unfold fbit at this
  rw [show (8 * j + r) / 8 = j by omega, show (8 * j + r) % 8 = r by omega] at this
  exact this
theorem sealS_congr {a b : Sc} (h : ∀ j, j < 60 → a j = b j) : kS (sealS a) = kS (sealS b) := by
  have e : secSum a = secSum b := by
    unfold secSum
    congr 1
    unfold subL
    apply List.map_congr_left
    intro i hi
    have : i < 60 := by simpa using hi
    simpa using h i this
  apply kS_of
  intro i hi
  unfold sealS
  rw [← put_four, ← put_four, e]
  unfold upd
  by_cases h0 : i < 60
  · rw [if_neg (by omega), if_neg (by omega), if_neg (by omega), if_neg (by omega), if_neg (by omega), if_neg (by omega), if_neg (by omega), if_neg (by omega)]
    exact h i h0
  · by_cases h3 : i = 63
    · rw [if_pos h3, if_pos h3]
    · rw [if_neg h3, if_neg h3]
      by_cases h2 : i = 62
      · rw [if_pos h2, if_pos h2]
      · rw [if_neg h2, if_neg h2]
        by_cases h1 : i = 61
        · rw [if_pos h1, if_pos h1]
        · rw [if_neg h1, if_neg h1, if_pos (by omega), if_pos (by omega)]
/-- A sector that is sealed is what its bits are, sealed. -/
theorem seal_bits {a b : Sc} (ha : isSl a = true) (h : ∀ i, i < 480 → fbit a i = fbit b i) : kS (sealS b) = kS a := by
  rw [← (isSl_iff a).1 ha]
  exact sealS_congr fun j hj => (low_of_bits h j hj).symm
theorem isSl_congr {a b : Sc} (h : kS a = kS b) : isSl a = isSl b := by
  have h1 : kS (sealS a) = kS (sealS b) := sealS_congr fun j hj => kS_at h j (by omega)
  rw [Bool.eq_iff_iff, isSl_iff, isSl_iff, h, h1]
theorem fbit_congr {a b : Sc} (h : kS a = kS b) (i : Nat) (hi : i < 480) : fbit a i = fbit b i := by
  unfold fbit; rw [kS_at h _ (by omega)]
theorem overU_congr {a b : Sc} (h : kS a = kS b) (k n : Nat) : ∀ m, m ≤ 480 → overU a k n m = overU b k n m
  | 0, _ => rfl
  | m + 1, hm => by rw [overU, overU, overU_congr h k n m (by omega), fbit_congr h m (by omega)]
theorem tornB_congr {a b : Sc} (h : kS a = kS b) (k n : Nat) : tornB a k n = tornB b k n := by
  unfold tornB; rw [isSl_congr h, overU_congr h k n 480 (by omega)]
theorem torn_put (b : List Bool) (k : Nat) : tornB (putS b k) k b.length = false := by
  unfold tornB putS
  rw [isSl_seal]
  simp only [Bool.not_true, Bool.false_or]
  rw [Bool.eq_false_iff]
  intro h
  obtain ⟨i, h1, h2, h3⟩ := (overU_iff _ _ _ _).1 h
  rw [fbit_seal _ _ h1, fbit_raw b k i h1] at h3
  unfold bAt at h3
  rw [List.getElem?_eq_none (by omega)] at h3
  exact absurd h3 (by simp)
theorem putL_get (b : List Bool) (k : Nat) (h : k < manyN b.length) : (putL b)[k]? = some (putS b k) := by simp [putL, h]
theorem putL_len (b : List Bool) : (putL b).length = manyN b.length := by simp [putL]
theorem badU_none (l : List Sc) (n : Nat) (h : ∀ k s, l[k]? = some s → tornB s k n = false) : ∀ m, badU l n m = []
  | 0 => rfl
  | m + 1 => by
    rw [badU, badU_none l n h m]
    cases hq : l[m]? with
    | none => rfl
    | some s => simp [h m s hq]
theorem mem_badU (l : List Sc) (n k : Nat) : ∀ m, k ∈ badU l n m ↔ k < m ∧ ∃ s, l[k]? = some s ∧ tornB s k n = true
  | 0 => by simp [badU]
  | m + 1 => by
    rw [badU, List.mem_append, mem_badU l n k m]
    constructor
    · rintro (⟨h1, h2⟩ | h)
      · exact ⟨by omega, h2⟩
      · cases hq : l[m]? with
        | none => simp [hq] at h
        | some s =>
          cases ht : tornB s m n with
          | false => simp [hq, ht] at h
          | true =>
            simp [hq, ht] at h
            subst h
            exact ⟨by omega, s, hq, ht⟩
    · rintro ⟨h1, s, h2, h3⟩
      by_cases hk : k = m
      · subst hk
        right
        simp [h2, h3]
      · exact .inl ⟨by omega, s, h2, h3⟩
/-- There and back: the bits. -/
theorem get_put (b : List Bool) (h : manyN b.length ≠ 0) : getBits (putL b) b.length = b ∧ getBad (putL b) b.length = [] := by
  have hl := putL_len b
  constructor
  · unfold getBits
    rw [if_pos ⟨h, hl⟩]
    apply List.ext_getElem (by simp)
    intro i h1 h2
    simp only [List.getElem_map, List.getElem_range]
    unfold bitOf
    rw [putL_get b _ (manyN_mul h i h2)]
    simp only
    rw [torn_put]
    unfold putS
    rw [fbit_seal _ _ (by omega), fbit_raw b _ _ (by omega), show i / 480 * 480 + i % 480 = i by omega]
    unfold bAt
    rw [List.getElem?_eq_getElem h2]; rfl
  · unfold getBad
    rw [if_pos ⟨h, hl⟩]
    apply badU_none
    intro k s hk
    have hk2 : k < manyN b.length := by rw [← hl]; exact (List.getElem?_eq_some_iff.1 hk).1
    rw [putL_get b k hk2] at hk
    rw [← Option.some.inj hk, torn_put]
theorem getBits_len {l : List Sc} {n : Nat} (h : manyN n ≠ 0 ∧ l.length = manyN n) : (getBits l n).length = n := by
  unfold getBits; rw [if_pos h]; simp
theorem getBits_get {l : List Sc} {n : Nat} (h : manyN n ≠ 0 ∧ l.length = manyN n) (i : Nat) (hi : i < n) : (getBits l n)[i]? = some (bitOf l n i) := by
  unfold getBits; rw [if_pos h]; simp [hi]
/-- Where none is torn, Put of the bits is what was read. -/
theorem put_get {l : List Sc} {n : Nat} (h : manyN n ≠ 0 ∧ l.length = manyN n) (hb : getBad l n = []) : (putL (getBits l n)).map kS = l.map kS := by
  have hlen := getBits_len h
  have hall : ∀ k s, l[k]? = some s → tornB s k n = false := by
    intro k s hk
    cases ht : tornB s k n with
    | false => rfl
    | true =>
      have hk2 : k < l.length := (List.getElem?_eq_some_iff.1 hk).1
      have : k ∈ getBad l n := by
        unfold getBad
        rw [if_pos h]
        exact (mem_badU l n k _).2 ⟨hk2, s, hk, ht⟩
      rw [hb] at this
      simp at this
  apply List.ext_getElem?
  intro k
  rw [List.getElem?_map, List.getElem?_map]
  by_cases hk : k < manyN n
  · have hk' : k < manyN (getBits l n).length := by rw [hlen]; exact hk
    rw [putL_get _ k hk']
    obtain ⟨s, hs⟩ : ∃ s, l[k]? = some s := ⟨l[k]'(by omega), List.getElem?_eq_getElem (by omega)⟩
    rw [hs]
    simp only [Option.map_some, Option.some.injEq]
    have ht := hall k s hs
    have ht2 : isSl s = true ∧ overU s k n 480 = false := by
      unfold tornB at ht
      simpa [Bool.or_eq_false_iff] using ht
    unfold putS
    apply seal_bits ht2.1
    intro i hi
    rw [fbit_raw _ _ _ hi]
    unfold bAt
    by_cases hin : k * 480 + i < n
    · rw [getBits_get h _ hin]
      unfold bitOf
      rw [show (k * 480 + i) / 480 = k by omega, show (k * 480 + i) % 480 = i by omega, hs]
      simp [ht]
    · rw [List.getElem?_eq_none (by omega)]
      simp only [Option.getD_none]
      cases hf : fbit s i with
      | false => rfl
      | true =>
        have : overU s k n 480 = true := (overU_iff s k n 480).2 ⟨i, hi, by omega, hf⟩
        rw [ht2.2] at this
        exact absurd this (by simp)
  · rw [List.getElem?_eq_none (by rw [putL_len, hlen]; omega), List.getElem?_eq_none (by omega)]
/-- The bits of a torn sector are all false. -/
theorem bad_false {l : List Sc} {n k i : Nat} (hk : k ∈ getBad l n) (h1 : 480 * k ≤ i) (h2 : i < 480 * k + 480) : bitOf l n i = false := by
  unfold getBad at hk
  split at hk
  · obtain ⟨_, s, h3, h4⟩ := (mem_badU _ _ _ _).1 hk
    unfold bitOf
    rw [show i / 480 = k by omega, h3]
    simp [h4]
  · simp at hk
theorem bad_lt {l : List Sc} {n k : Nat} (hk : k ∈ getBad l n) : k < l.length := by
  unfold getBad at hk
  split at hk
  · exact ((mem_badU _ _ _ _).1 hk).1
  · simp at hk
end Go.Proofs.Ytfdigmlhjjdggaa
