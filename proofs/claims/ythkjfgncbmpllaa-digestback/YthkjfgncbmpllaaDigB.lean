
import Derived.Test.YthkjfgncbmpllaaDsS
namespace Go.Proofs.Ythkjfgncbmpllaa
open Go.RowKit

/-! The order of texts is the order of digests. -/
theorem first_diff (a b : Dg) : ∀ k, (∀ j, j < k → a j = b j) ∨ ∃ i, i < k ∧ (∀ j, j < i → a j = b j) ∧ a i ≠ b i
  | 0 => .inl fun j hj => by omega
  | k + 1 => by
    rcases first_diff a b k with h | ⟨i, hi, h, hn⟩
    · by_cases e : a k = b k
      · refine .inl fun j hj => ?_
        rcases Nat.lt_or_ge j k with h1 | h1
        · exact h j h1
        · obtain rfl : j = k := by omega
          exact e
      · exact .inr ⟨k, by omega, h, e⟩
    · exact .inr ⟨i, by omega, h, hn⟩
theorem lt_first (a b : Dg) (h : dN a < dN b) : ∃ i, i < 32 ∧ (∀ j, j < i → a j = b j) ∧ (a i).toNat < (b i).toNat := by
  rcases first_diff a b 32 with e | ⟨i, hi, he, hn⟩
  · have := dnum_congr a b 32 e
    unfold dN at h; omega
  · have hne : (a i).toNat ≠ (b i).toNat := fun e => hn (UInt8.toNat_inj.1 e)
    rcases (by omega : (a i).toNat < (b i).toNat ∨ (b i).toNat < (a i).toNat) with h1 | h1
    · exact ⟨i, hi, he, h1⟩
    · have := dnum_lt b a i (fun j hj => (he j hj).symm) h1 32 hi
      unfold dN at h; omega
theorem digC_mono (x y : Nat) (hy : y < 16) (h : x < y) : digC x < digC y := by
  have key : ∀ y : Fin 16, ∀ x : Fin 16, x.1 < y.1 → digC x.1 < digC y.1 := by decide
  exact key ⟨y, hy⟩ ⟨x, by omega⟩ h
theorem less_first : ∀ (n : Nat) (l m : List UInt8) (c d : UInt8), (∀ j, j < n → l[j]? = m[j]?) → l[n]? = some c → m[n]? = some d → c < d → Op.bytesLess l m = true ∧ Op.bytesLess m l = false
  | 0, [], _, c, d, _, h, _, _ => by simp at h
  | 0, _ :: _, [], c, d, _, _, h, _ => by simp at h
  | 0, x :: l, y :: m, c, d, _, h1, h2, h3 => by
    simp at h1 h2; subst h1; subst h2
    have h4 : ¬ y < x := fun h => by
      rw [UInt8.lt_iff_toNat_lt] at h h3; omega
    have h5 : (y == x) = false := beq_eq_false_iff_ne.2 fun e => by subst e; rw [UInt8.lt_iff_toNat_lt] at h3; omega
    simp [Op.bytesLess, h3, h4, h5]
  | n + 1, [], _, c, d, _, h, _, _ => by simp at h
  | n + 1, _ :: _, [], c, d, _, _, h, _ => by simp at h
  | n + 1, x :: l, y :: m, c, d, h0, h1, h2, h3 => by
    have e : x = y := by have := h0 0 (by omega); simpa using this
    subst e
    have ih := less_first n l m c d (fun j hj => by have := h0 (j + 1) (by omega); simpa using this) (by simpa using h1) (by simpa using h2) h3
    have hx : ¬ x < x := fun h => by rw [UInt8.lt_iff_toNat_lt] at h; omega
    simp [Op.bytesLess, ih.1, ih.2, hx]
theorem less_self : ∀ l : List UInt8, Op.bytesLess l l = false
  | [] => rfl
  | x :: l => by
    have hx : ¬ x < x := fun h => by rw [UInt8.lt_iff_toNat_lt] at h; omega
    simp [Op.bytesLess, less_self l, hx]
theorem text_same (a b : Dg) (h : ∀ j, j < 32 → a j = b j) : textL a = textL b := by
  have : ∀ k, k ≤ 32 → hexL a k = hexL b k := by
    intro k
    induction k with
    | zero => intro _; rfl
    | succ k ih => intro hk; rw [hexL, hexL, ih (by omega), h k (by omega)]
  unfold textL
  rw [this 32 (Nat.le_refl _)]
theorem lAt_get (l : List UInt8) (i : Nat) (h : i < l.length) : l[i]? = some (lAt l i) := by unfold lAt; rw [List.getElem?_eq_getElem h]; rfl
theorem text_less (a b : Dg) (h : dN a < dN b) : Op.bytesLess (textL a) (textL b) = true ∧ Op.bytesLess (textL b) (textL a) = false := by
  obtain ⟨i, hi, he, hl⟩ := lt_first a b h
  have la := textL_len a
  have lb := textL_len b
  have hA := (a i).toNat_lt
  have hBt := (b i).toNat_lt
  have pre : ∀ p, p < 7 + 2 * i → (textL a)[p]? = (textL b)[p]? := fun p hp => by
    by_cases h7 : p < 7
    · unfold textL
      rw [List.getElem?_append_left (by show p < 7; exact h7), List.getElem?_append_left (by show p < 7; exact h7)]
    · obtain ⟨j, hj, hq⟩ : ∃ j, j < i ∧ (p = 7 + 2 * j ∨ p = 8 + 2 * j) := ⟨(p - 7) / 2, by omega, by omega⟩
      obtain ⟨a1, a2⟩ := textL_at a j (by omega)
      obtain ⟨b1, b2⟩ := textL_at b j (by omega)
      rw [he j hj] at a1 a2
      rcases hq with rfl | rfl
      · rw [lAt_get _ _ (by omega), lAt_get _ _ (by omega), a1, b1]
      · rw [lAt_get _ _ (by omega), lAt_get _ _ (by omega), a2, b2]
  obtain ⟨a1, a2⟩ := textL_at a i hi
  obtain ⟨b1, b2⟩ := textL_at b i hi
  by_cases hh : (a i).toNat / 16 = (b i).toNat / 16
  · refine less_first (8 + 2 * i) _ _ _ _ (fun p hp => ?_) (by rw [lAt_get _ _ (by omega), a2]) (by rw [lAt_get _ _ (by omega), b2]) (digC_mono _ _ (by omega) (by omega))
    rcases Nat.lt_or_ge p (7 + 2 * i) with h1 | h1
    · exact pre p h1
    · obtain rfl : p = 7 + 2 * i := by omega
      rw [lAt_get _ _ (by omega), lAt_get _ _ (by omega), a1, b1, hh]
  · exact less_first (7 + 2 * i) _ _ _ _ pre (by rw [lAt_get _ _ (by omega), a1]) (by rw [lAt_get _ _ (by omega), b1]) (digC_mono _ _ (by omega) (by omega))
theorem text_inj (a b : Dg) (h : textL a = textL b) : dN a = dN b := by
  rcases (by omega : dN a < dN b ∨ dN b < dN a ∨ dN a = dN b) with h1 | h1 | h1
  · have := (text_less a b h1).1
    rw [h, less_self] at this; cases this
  · have := (text_less b a h1).1
    rw [h, less_self] at this; cases this
  · exact h1
end Go.Proofs.Ythkjfgncbmpllaa
