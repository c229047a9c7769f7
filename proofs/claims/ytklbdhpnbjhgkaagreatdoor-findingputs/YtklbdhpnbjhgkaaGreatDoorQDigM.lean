import Derived.WalkKit
namespace Go.Proofs.YtklbdhpnbjhgkaaGreatDoor

/-! Digests as numbers and as texts: plain mathematics. -/
/-- The number that the first k bytes make. -/
def dnum (s : Nat → UInt8) : Nat → Nat
  | 0 => 0
  | k + 1 => dnum s k * 256 + (s k).toNat
theorem dnum_congr (a b : Nat → UInt8) : ∀ k, (∀ i, i < k → a i = b i) → dnum a k = dnum b k
  | 0, _ => rfl
  | k + 1, h => by rw [dnum, dnum, dnum_congr a b k (fun i hi => h i (by omega)), h k (by omega)]
theorem dnum_lt (a b : Nat → UInt8) (i : Nat) (h : ∀ j, j < i → a j = b j) (hl : (a i).toNat < (b i).toNat) : ∀ k, i < k → dnum a k < dnum b k
  | 0, hk => by omega
  | k + 1, hk => by
    rw [dnum, dnum]
    have h1 := (a k).toNat_lt
    have h2 := (b k).toNat_lt
    rcases Nat.lt_or_ge i k with hik | hik
    · have := dnum_lt a b i h hl k hik
      omega
    · have e : k = i := by omega
      subst e
      rw [dnum_congr a b k h]
      omega
theorem dnum_inj (a b : Nat → UInt8) : ∀ k, dnum a k = dnum b k → ∀ i, i < k → a i = b i
  | 0, _, i, hi => by omega
  | k + 1, h, i, hi => by
    rw [dnum, dnum] at h
    have h1 := (a k).toNat_lt
    have h2 := (b k).toNat_lt
    have e1 : dnum a k = dnum b k := by omega
    have e2 : (a k).toNat = (b k).toNat := by omega
    rcases Nat.lt_or_ge i k with hik | hik
    · exact dnum_inj a b k e1 i hik
    · have : i = k := by omega
      subst this
      exact UInt8.toNat_inj.1 e2
/-- The order of two digests. -/
def dcmp (a b : Nat → UInt8) : Int := if dnum a 32 < dnum b 32 then -1 else if dnum b 32 < dnum a 32 then 1 else 0
theorem dcmp_lt {a b : Nat → UInt8} {i : Nat} (h : ∀ j, j < i → a j = b j) (hl : (a i).toNat < (b i).toNat) (hi : i < 32) : dcmp a b = -1 := by
  unfold dcmp
  rw [if_pos (dnum_lt a b i h hl 32 hi)]
theorem dcmp_gt {a b : Nat → UInt8} {i : Nat} (h : ∀ j, j < i → a j = b j) (hl : (b i).toNat < (a i).toNat) (hi : i < 32) : dcmp a b = 1 := by
  have := dnum_lt b a i (fun j hj => (h j hj).symm) hl 32 hi
  unfold dcmp
  rw [if_neg (by omega), if_pos this]
theorem dcmp_eq {a b : Nat → UInt8} (h : ∀ j, j < 32 → a j = b j) : dcmp a b = 0 := by
  have := dnum_congr a b 32 h
  unfold dcmp
  rw [if_neg (by omega), if_neg (by omega)]
def digS : List UInt8 := [48, 49, 50, 51, 52, 53, 54, 55, 56, 57, 97, 98, 99, 100, 101, 102]
def frontS : List UInt8 := [115, 104, 97, 50, 53, 54, 58]
def digC (n : Nat) : UInt8 := digS[n]?.getD 0
/-- The text's signs of the first k bytes. -/
def hexL (s : Nat → UInt8) : Nat → List UInt8
  | 0 => []
  | k + 1 => hexL s k ++ [digC ((s k).toNat / 16), digC ((s k).toNat % 16)]
def textL (s : Nat → UInt8) : List UInt8 := frontS ++ hexL s 32
theorem hexL_len (s : Nat → UInt8) : ∀ k, (hexL s k).length = 2 * k
  | 0 => rfl
  | k + 1 => by rw [hexL, List.length_append, hexL_len s k]; simp; omega
theorem textL_len (s : Nat → UInt8) : (textL s).length = 71 := by rw [textL, List.length_append, hexL_len]; rfl
/-- A sign's value; -1: it is none. -/
def digV (c : UInt8) : Int := if digS.contains c then (digS.idxOf c : Int) else -1
theorem digV_C (n : Nat) (h : n < 16) : digV (digC n) = n := by
  rcases (by omega : n = 0 ∨ n = 1 ∨ n = 2 ∨ n = 3 ∨ n = 4 ∨ n = 5 ∨ n = 6 ∨ n = 7 ∨ n = 8 ∨ n = 9 ∨ n = 10 ∨ n = 11 ∨ n = 12 ∨ n = 13 ∨ n = 14 ∨ n = 15) with rfl | rfl | rfl | rfl | rfl | rfl | rfl | rfl | rfl | rfl | rfl | rfl | rfl | rfl | rfl | rfl <;> decide
theorem digV_range (c : UInt8) : -1 ≤ digV c ∧ digV c < 16 := by
  unfold digV
  split
  · rename_i h
    have : digS.idxOf c < digS.length := List.idxOf_lt_length_of_mem (by simpa using h)
    have e : digS.length = 16 := rfl
    omega
  · omega
/-- i of the sixteen signs have been looked at: none was c. -/
theorem digV_at (c : UInt8) (i : Nat) (hi : i < 16) (_h : ∀ j, j < i → digC j ≠ c) (he : digC i = c) : digV c = i := by
  rw [← he, digV_C i hi]
theorem digV_none (c : UInt8) (h : ∀ j, j < 16 → digC j ≠ c) : digV c = -1 := by
  unfold digV
  rw [if_neg]
  intro hc
  have hm : c ∈ digS := by simpa using hc
  obtain ⟨i, hi, rfl⟩ := List.getElem_of_mem hm
  have hi' : i < 16 := hi
  exact h i hi' (by unfold digC; rw [List.getElem?_eq_getElem hi]; rfl)
theorem digV_back (c : UInt8) (h : 0 ≤ digV c) : digC (digV c).toNat = c := by
  unfold digV at h ⊢
  split
  · rename_i hc
    have hm : c ∈ digS := by simpa using hc
    have hl := List.idxOf_lt_length_of_mem hm
    unfold digC
    rw [Int.toNat_natCast, List.getElem?_eq_getElem hl, List.getElem_idxOf hl]; rfl
  · rename_i hc
    rw [if_neg hc] at h; omega
/-! Texts that are read -/
def lAt (l : List UInt8) (i : Nat) : UInt8 := l[i]?.getD 0
def hiV (l : List UInt8) (i : Nat) : Int := digV (lAt l (7 + 2 * i))
def loV (l : List UInt8) (i : Nat) : Int := digV (lAt l (8 + 2 * i))
def PUp (l : List UInt8) (k : Nat) : Prop := ∀ i, i < k → 0 ≤ hiV l i ∧ 0 ≤ loV l i
def PGood (l : List UInt8) : Prop := l.length = 71 ∧ l.take 7 = frontS ∧ PUp l 32
def pval (l : List UInt8) : Nat → UInt8 := fun i => UInt8.ofNat (16 * hiV l i + loV l i).toNat
theorem pval_nat (l : List UInt8) (i : Nat) (h : 0 ≤ hiV l i ∧ 0 ≤ loV l i) : ((pval l i).toNat : Int) = 16 * hiV l i + loV l i := by
  have h1 : -1 ≤ hiV l i ∧ hiV l i < 16 := digV_range _
  have h2 : -1 ≤ loV l i ∧ loV l i < 16 := digV_range _
  unfold pval
  rw [UInt8.toNat_ofNat']
  omega
theorem hexL_get (s : Nat → UInt8) : ∀ k i, i < k → (hexL s k)[2 * i]? = some (digC ((s i).toNat / 16)) ∧ (hexL s k)[2 * i + 1]? = some (digC ((s i).toNat % 16))
  | 0, i, h => by omega
  | k + 1, i, h => by
    have hl := hexL_len s k
    rw [hexL]
    rcases Nat.lt_or_ge i k with hik | hik
    · have := hexL_get s k i hik
      rw [List.getElem?_append_left (by omega), List.getElem?_append_left (by omega)]
      exact this
    · have e : i = k := by omega
      subst e
      rw [List.getElem?_append_right (by omega), List.getElem?_append_right (by omega), hl]
      simp
theorem textL_at (s : Nat → UInt8) (i : Nat) (h : i < 32) : lAt (textL s) (7 + 2 * i) = digC ((s i).toNat / 16) ∧ lAt (textL s) (8 + 2 * i) = digC ((s i).toNat % 16) := by
  have hf : frontS.length = 7 := rfl
  obtain ⟨h1, h2⟩ := hexL_get s 32 i h
  unfold lAt textL
  rw [List.getElem?_append_right (by omega), List.getElem?_append_right (by omega), hf, Nat.add_sub_cancel_left, show 8 + 2 * i - 7 = 2 * i + 1 by omega, h1, h2]
  exact ⟨rfl, rfl⟩
/-- There and back. -/
theorem text_good (s : Nat → UInt8) : PGood (textL s) ∧ ∀ i, i < 32 → pval (textL s) i = s i := by
  have hv : ∀ i, i < 32 → hiV (textL s) i = ((s i).toNat / 16 : Nat) ∧ loV (textL s) i = ((s i).toNat % 16 : Nat) := fun i hi => by
    obtain ⟨h1, h2⟩ := textL_at s i hi
    have := (s i).toNat_lt
    unfold hiV loV
    rw [h1, h2, digV_C _ (by omega), digV_C _ (by omega)]
    exact ⟨rfl, rfl⟩
  refine ⟨⟨textL_len s, rfl, fun i hi => ?_⟩, fun i hi => ?_⟩
  · obtain ⟨h1, h2⟩ := hv i hi
    rw [h1, h2]; omega
  · obtain ⟨h1, h2⟩ := hv i hi
    apply UInt8.toNat_inj.1
    have := pval_nat (textL s) i (by rw [h1, h2]; omega)
    rw [h1, h2] at this
    omega
theorem good_text (l : List UInt8) (h : PGood l) : textL (pval l) = l := by
  obtain ⟨h71, hf, hu⟩ := h
  have hl := textL_len (pval l)
  apply List.ext_getElem?
  intro j
  by_cases hj : j < 71
  · by_cases h7 : j < 7
    · unfold textL
      rw [List.getElem?_append_left (by show j < 7; exact h7), ← hf, List.getElem?_take, if_pos h7]
    · obtain ⟨i, hi, he⟩ : ∃ i, i < 32 ∧ (j = 7 + 2 * i ∨ j = 8 + 2 * i) := ⟨(j - 7) / 2, by omega, by omega⟩
      have hb := hu i hi
      have hn := pval_nat l i hb
      have h1 : -1 ≤ hiV l i ∧ hiV l i < 16 := digV_range _
      have h2 : -1 ≤ loV l i ∧ loV l i < 16 := digV_range _
      obtain ⟨t1, t2⟩ := textL_at (pval l) i hi
      have e1 : (pval l i).toNat / 16 = (hiV l i).toNat := by omega
      have e2 : (pval l i).toNat % 16 = (loV l i).toNat := by omega
      have b1 : digC (hiV l i).toNat = lAt l (7 + 2 * i) := digV_back _ hb.1
      have b2 : digC (loV l i).toNat = lAt l (8 + 2 * i) := digV_back _ hb.2
      rw [e1, b1] at t1
      rw [e2, b2] at t2
      have g : ∀ p, p < 71 → lAt (textL (pval l)) p = lAt l p → (textL (pval l))[p]? = l[p]? := fun p hp hq => by
        unfold lAt at hq
        rw [List.getElem?_eq_getElem (by omega), List.getElem?_eq_getElem (by omega)] at hq ⊢
        simpa using hq
      rcases he with rfl | rfl
      · exact g _ hj t1
      · exact g _ hj t2
  · rw [List.getElem?_eq_none (by omega), List.getElem?_eq_none (by omega)]
end Go.Proofs.YtklbdhpnbjhgkaaGreatDoor
