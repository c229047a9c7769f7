import Derived.WalkKit
namespace Go.Proofs.YtalnbddkhojjbaaGreatDoor

def dnum (s : Nat → UInt8) : Nat → Nat
  | 0 => 0
  | k + 1 => dnum s k * 256 + (s k).toNat
def digS : List UInt8 := [48, 49, 50, 51, 52, 53, 54, 55, 56, 57, 97, 98, 99, 100, 101, 102]
def frontS : List UInt8 := [115, 104, 97, 50, 53, 54, 58]
def digC (n : Nat) : UInt8 := digS[n]?.getD 0
def hexL (s : Nat → UInt8) : Nat → List UInt8
  | 0 => []
  | k + 1 => hexL s k ++ [digC ((s k).toNat / 16), digC ((s k).toNat % 16)]
def textL (s : Nat → UInt8) : List UInt8 := frontS ++ hexL s 32
theorem hexL_len (s : Nat → UInt8) : ∀ k, (hexL s k).length = 2 * k
  | 0 => rfl
  | k + 1 => by rw [hexL, List.length_append, hexL_len s k]; simp; omega
theorem textL_len (s : Nat → UInt8) : (textL s).length = 71 := by rw [textL, List.length_append, hexL_len]; rfl
def digV (c : UInt8) : Int := if digS.contains c then (digS.idxOf c : Int) else -1
theorem digV_C (n : Nat) (h : n < 16) : digV (digC n) = n := by
  rcases (by omega : n = 0 ∨ n = 1 ∨ n = 2 ∨ n = 3 ∨ n = 4 ∨ n = 5 ∨ n = 6 ∨ n = 7 ∨ n = 8 ∨ n = 9 ∨ n = 10 ∨ n = 11 ∨ n = 12 ∨ n = 13 ∨ n = 14 ∨ n = 15) with rfl | rfl | rfl | rfl | rfl | rfl | rfl | rfl | rfl | rfl | rfl | rfl | rfl | rfl | rfl | rfl <;> decide
theorem digV_range (c : UInt8) : -1 ≤ digV c ∧ digV c < 16 := by
  unfold digV
  split
  · rename_i h
    have : digS.idxOf c < digS.length := List.idxOf_lt_length_of_mem (by simpa using h)
    have e : digS.length = 16 := rfl
    omega
  · omega
theorem digV_at (c : UInt8) (i : Nat) (hi : i < 16) (_h : ∀ j, j < i → digC j ≠ c) (he : digC i = c) : digV c = i := by
  rw [← he, digV_C i hi]
theorem digV_none (c : UInt8) (h : ∀ j, j < 16 → digC j ≠ c) : digV c = -1 := by
  unfold digV
  rw [if_neg]
  intro hc
  have hm : c ∈ digS := by simpa using hc
  obtain ⟨i, hi, rfl⟩ := List.getElem_of_mem hm
  have hi' : i < 16 := hi
  exact h i hi' (by unfold digC; rw [List.getElem?_eq_getElem hi]; rfl)
def lAt (l : List UInt8) (i : Nat) : UInt8 := l[i]?.getD 0
def hiV (l : List UInt8) (i : Nat) : Int := digV (lAt l (7 + 2 * i))
def loV (l : List UInt8) (i : Nat) : Int := digV (lAt l (8 + 2 * i))
def PUp (l : List UInt8) (k : Nat) : Prop := ∀ i, i < k → 0 ≤ hiV l i ∧ 0 ≤ loV l i
def PGood (l : List UInt8) : Prop := l.length = 71 ∧ l.take 7 = frontS ∧ PUp l 32
def pval (l : List UInt8) : Nat → UInt8 := fun i => UInt8.ofNat (16 * hiV l i + loV l i).toNat
theorem pval_nat (l : List UInt8) (i : Nat) (h : 0 ≤ hiV l i ∧ 0 ≤ loV l i) : ((pval l i).toNat : Int) = 16 * hiV l i + loV l i := by
  have h1 : -1 ≤ hiV l i ∧ hiV l i < 16 := digV_range _
  have h2 : -1 ≤ loV l i ∧ loV l i < 16 := digV_range _
  unfold pval
  rw [UInt8.toNat_ofNat']
  omega
theorem hexL_get (s : Nat → UInt8) : ∀ k i, i < k → (hexL s k)[2 * i]? = some (digC ((s i).toNat / 16)) ∧ (hexL s k)[2 * i + 1]? = some (digC ((s i).toNat % 16))
  | 0, i, h => by omega
  | k + 1, i, h => by
    have hl := hexL_len s k
    rw [hexL]
    rcases Nat.lt_or_ge i k with hik | hik
    · have := hexL_get s k i hik
      rw [List.getElem?_append_left (by omega), List.getElem?_append_left (by omega)]
      exact this
    · have e : i = k := by omega
      subst e
      rw [List.getElem?_append_right (by omega), List.getElem?_append_right (by omega), hl]
      simp
theorem textL_at (s : Nat → UInt8) (i : Nat) (h : i < 32) : lAt (textL s) (7 + 2 * i) = digC ((s i).toNat / 16) ∧ lAt (textL s) (8 + 2 * i) = digC ((s i).toNat % 16) := by
  have hf : frontS.length = 7 := rfl
  obtain ⟨h1, h2⟩ := hexL_get s 32 i h
  unfold lAt textL
  rw [List.getElem?_append_right (by omega), List.getElem?_append_right (by omega), hf, Nat.add_sub_cancel_left, show 8 + 2 * i - 7 = 2 * i + 1 by omega, h1, h2]
  exact ⟨rfl, rfl⟩
theorem text_good (s : Nat → UInt8) : PGood (textL s) ∧ ∀ i, i < 32 → pval (textL s) i = s i := by
  have hv : ∀ i, i < 32 → hiV (textL s) i = ((s i).toNat / 16 : Nat) ∧ loV (textL s) i = ((s i).toNat % 16 : Nat) := fun i hi => by
    obtain ⟨h1, h2⟩ := textL_at s i hi
    have := (s i).toNat_lt
    unfold hiV loV
    rw [h1, h2, digV_C _ (by omega), digV_C _ (by omega)]
    exact ⟨rfl, rfl⟩
  refine ⟨⟨textL_len s, rfl, fun i hi => ?_⟩, fun i hi => ?_⟩
  · obtain ⟨h1, h2⟩ := hv i hi
    rw [h1, h2]; omega
  · obtain ⟨h1, h2⟩ := hv i hi
    apply UInt8.toNat_inj.1
    have := pval_nat (textL s) i (by rw [h1, h2]; omega)
    rw [h1, h2] at this
    omega
end Go.Proofs.YtalnbddkhojjbaaGreatDoor
