
import Derived.Test.YtafbkdpheneceaaExtN
namespace Go.Proofs.Ytafbkdpheneceaa

/-! Ranges that rise, touch nowhere and hold just the free ones are the ranges -/
theorem isIn_low {z a i : Nat} : ∀ {l : List (Nat × Nat)} (_ : Rises z a l), i < a → isIn i l = false
  | [], _, _ => rfl
  | (x, n) :: r, h, hi => by
    obtain ⟨h1, h2, h3, h4⟩ := h
    rw [isIn_cons, isIn_low h4 (by omega), decide_eq_false (by simp only; omega)]; rfl
theorem rises_unique {z : Nat} : ∀ {l s : List (Nat × Nat)} {a : Nat} (_ : Rises z a l) (_ : Rises z a s) (_ : ∀ i, isIn i l = isIn i s), l = s
  | [], [], _, _, _, _ => rfl
  | [], (y, m) :: s, a, _, h2, h => by
    obtain ⟨g1, g2, g3, g4⟩ := h2
    have := h y
    rw [isIn_cons, decide_eq_true (by simp only; omega)] at this
    cases this
  | (x, n) :: r, [], a, h1, _, h => by
    obtain ⟨g1, g2, g3, g4⟩ := h1
    have := h x
    rw [isIn_cons, decide_eq_true (by simp only; omega)] at this
    cases this
  | (x, n) :: r, (y, m) :: s, a, h1, h2, h => by
    obtain ⟨g1, g2, g3, g4⟩ := h1
    obtain ⟨k1, k2, k3, k4⟩ := h2
    have hxy : y ≤ x := by
      have := h x
      rw [isIn_cons, decide_eq_true (show (x, n).1 ≤ x ∧ x < (x, n).1 + (x, n).2 by simp only; omega), Bool.true_or, isIn_cons] at this
      by_cases hh : x < y
      · rw [isIn_low k4 (by omega), decide_eq_false (by simp only; omega)] at this; cases this
      · omega
    have hyx : x ≤ y := by
      have := h y
      rw [isIn_cons (l := s), decide_eq_true (show (y, m).1 ≤ y ∧ y < (y, m).1 + (y, m).2 by simp only; omega), Bool.true_or, isIn_cons] at this
      by_cases hh : y < x
      · rw [isIn_low g4 (by omega), decide_eq_false (by simp only; omega)] at this; cases this
      · omega
    obtain rfl : x = y := by omega
    have hnm : n = m := by
      have e1 := h (x + n)
      have e2 := h (x + m)
      rw [isIn_cons, isIn_cons, isIn_low g4 (by omega), decide_eq_false (show ¬ ((x, n).1 ≤ x + n ∧ x + n < (x, n).1 + (x, n).2) by simp only; omega)] at e1
      rw [isIn_cons, isIn_cons, isIn_low k4 (by omega), decide_eq_false (show ¬ ((x, m).1 ≤ x + m ∧ x + m < (x, m).1 + (x, m).2) by simp only; omega)] at e2
      by_cases hlt : n < m
      · rw [decide_eq_true (show (x, m).1 ≤ x + n ∧ x + n < (x, m).1 + (x, m).2 by simp only; omega)] at e1
        cases e1
      · by_cases hgt : m < n
        · rw [decide_eq_true (show (x, n).1 ≤ x + m ∧ x + m < (x, n).1 + (x, n).2 by simp only; omega)] at e2
          cases e2
        · omega
    subst hnm
    have ht : ∀ i, isIn i r = isIn i s := fun i => by
      by_cases hi : i < x + n + 1
      · rw [isIn_low g4 hi, isIn_low k4 hi]
      · have := h i
        rw [isIn_cons, isIn_cons, decide_eq_false (by simp only; omega), Bool.false_or, Bool.false_or] at this
        exact this
    rw [rises_unique g4 k4 ht]
theorem runs_unique (f : Nat → Bool) (a k : Nat) (l : List (Nat × Nat)) (hr : Rises (a + k) a l) (hin : ∀ i, a ≤ i → i < a + k → (isIn i l = true ↔ f i = false)) : l = runs f a k := by
  refine rises_unique hr (runs_rises f k a) fun i => ?_
  rw [runs_in]
  by_cases h : a ≤ i ∧ i < a + k
  · rw [decide_eq_true h, Bool.true_and, Bool.eq_iff_iff, hin i h.1 h.2]
    cases f i <;> simp
  · rw [decide_eq_false h, Bool.false_and]
    by_cases h1 : i < a
    · exact isIn_low hr h1
    · have h2 : a + k ≤ i := by omega
      have key : ∀ {l : List (Nat × Nat)} {b : Nat} (_ : Rises (a + k) b l), isIn i l = false := by
        intro l
        induction l with
        | nil => intro b _; rfl
        | cons p r ih =>
          intro b hb
          obtain ⟨x, n⟩ := p
          obtain ⟨g1, g2, g3, g4⟩ := hb
          rw [isIn_cons, ih g4, decide_eq_false (by simp only; omega)]; rfl
      exact key hr
/-- Lowest of ranges, found in any way. -/
theorem lowR_first (n : Int) (l : List (Nat × Nat)) (i : Nat) (p : Nat × Nat) (hp : l[i]? = some p) (h0 : 0 < n) (h1 : n ≤ (p.2 : Int)) (hno : ∀ (j : Nat) q, j < i → l[j]? = some q → (q.2 : Int) < n) : lowR n l = some p.1 := by
  induction l generalizing i with
  | nil => simp at hp
  | cons q r ih =>
    obtain ⟨x, m⟩ := q
    rw [lowR]
    rcases i with _ | i
    · simp at hp
      subst hp
      rw [if_pos ⟨h0, h1⟩]
    · have := hno 0 (x, m) (by omega) rfl
      rw [if_neg (fun hh => by simp only at this; omega)]
      exact ih i (by simpa using hp) (fun j q hj hq => hno (j + 1) q (by omega) (by simpa using hq))
theorem lowR_none (n : Int) (l : List (Nat × Nat)) (hno : n ≤ 0 ∨ ∀ q ∈ l, (q.2 : Int) < n) : lowR n l = none := by
  induction l with
  | nil => rfl
  | cons q r ih =>
    obtain ⟨x, m⟩ := q
    rw [lowR, if_neg]
    · exact ih (hno.imp id (fun h q hq => h q (by simp [hq])))
    · rintro ⟨h1, h2⟩
      rcases hno with h | h
      · omega
      · have := h (x, m) (by simp)
        simp only at this
        omega
end Go.Proofs.Ytafbkdpheneceaa
