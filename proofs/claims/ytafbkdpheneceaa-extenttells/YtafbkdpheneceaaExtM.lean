
import Derived.Test.YtafbkdpheneceaaKfr
namespace Go.Proofs.Ytafbkdpheneceaa

/-! Ranges of sectors, by definition: from fr on and below to; f: which are taken -/
structure XSt where
  fr : Nat
  hi : Nat
  f : Nat → Bool
def allU (f : Nat → Bool) (a : Nat) (b : Bool) : Nat → Bool
  | 0 => true
  | k + 1 => allU f a b k && (f (a + k) == b)
theorem allU_iff (f : Nat → Bool) (a : Nat) (b : Bool) : ∀ k, allU f a b k = true ↔ ∀ i, i < k → f (a + i) = b
  | 0 => by simp [allU]
  | k + 1 => by
    rw [allU, Bool.and_eq_true, allU_iff f a b k, beq_iff_eq]
    constructor
    · rintro ⟨h1, h2⟩ i hi
      by_cases e : i = k
      · subst e; exact h2
      · exact h1 i (by omega)
    · intro h
      exact ⟨fun i hi => h i (by omega), h k (by omega)⟩
/-- May n from s on be turned to b? -/
def xOk (st : XSt) (s n : Int) (b : Bool) : Bool := decide (n = 0) || (decide (0 < n ∧ (st.fr : Int) ≤ s ∧ s + n ≤ (st.hi : Int)) && allU st.f s.toNat (!b) n.toNat)
def xTurn (st : XSt) (s n : Int) (b : Bool) : XSt := if xOk st s n b = true then { st with f := fun i => if s ≤ (i : Int) ∧ (i : Int) < s + n then b else st.f i } else st
def xTaken (st : XSt) (a : Int) : Bool := decide ((st.fr : Int) ≤ a ∧ a < (st.hi : Int)) && st.f a.toNat
/-- The free ones of k sectors from a on, as few ranges as there can be. -/
def runs (f : Nat → Bool) : Nat → Nat → List (Nat × Nat)
  | _, 0 => []
  | a, k + 1 =>
    bif f a then runs f (a + 1) k else
      match runs f (a + 1) k with
      | [] => [(a, 1)]
      | (x, n) :: r => if x = a + 1 then (a, n + 1) :: r else (a, 1) :: (x, n) :: r
def xRuns (st : XSt) : List (Nat × Nat) := runs st.f st.fr (st.hi - st.fr)
def leftU (f : Nat → Bool) (a : Nat) : Nat → Nat
  | 0 => 0
  | k + 1 => leftU f a k + (bif f (a + k) then 0 else 1)
def xLeft (st : XSt) : Nat := leftU st.f st.fr (st.hi - st.fr)
def lowR (n : Int) : List (Nat × Nat) → Option Nat
  | [] => none
  | (a, m) :: r => if 0 < n ∧ n ≤ (m : Int) then some a else lowR n r
def xLow (st : XSt) (n : Int) : Option Nat := lowR n (xRuns st)
def isIn (i : Nat) (l : List (Nat × Nat)) : Bool := l.any fun p => decide (p.1 ≤ i ∧ i < p.1 + p.2)
def sumR : List (Nat × Nat) → Nat
  | [] => 0
  | p :: r => p.2 + sumR r
/-- Ranges that rise and touch nowhere, within a and z. -/
def Rises (z : Nat) : Nat → List (Nat × Nat) → Prop
  | _, [] => True
  | a, (x, n) :: r => a ≤ x ∧ 1 ≤ n ∧ x + n ≤ z ∧ Rises z (x + n + 1) r
theorem Rises.mono {z a b : Nat} (h : b ≤ a) : ∀ {l : List (Nat × Nat)}, Rises z a l → Rises z b l
  | [], _ => trivial
  | (_, _) :: _, ⟨h1, h2, h3, h4⟩ => ⟨Nat.le_trans h h1, h2, h3, h4⟩
theorem runs_rises (f : Nat → Bool) : ∀ k a, Rises (a + k) a (runs f a k)
  | 0, a => trivial
  | k + 1, a => by
    have ih := runs_rises f k (a + 1)
    rw [show a + 1 + k = a + (k + 1) by omega] at ih
    rw [runs]
    cases hf : f a
    · simp only [cond_false]
      cases hr : runs f (a + 1) k with
      | nil => exact ⟨Nat.le_refl _, Nat.le_refl _, by omega, trivial⟩
      | cons p r =>
        obtain ⟨x, n⟩ := p
        rw [hr] at ih
        obtain ⟨h1, h2, h3, h4⟩ := ih
        by_cases hx : x = a + 1
        · simp only [hx, if_true]
          refine ⟨Nat.le_refl _, by omega, by omega, ?_⟩
          rw [show a + (n + 1) + 1 = x + n + 1 by omega]; exact h4
        · simp only [hx, if_false]
          exact ⟨Nat.le_refl _, Nat.le_refl _, by omega, by omega, h2, h3, h4⟩
    · simp only [cond_true]
      exact ih.mono (by omega)
theorem isIn_cons (i : Nat) (p : Nat × Nat) (l : List (Nat × Nat)) : isIn i (p :: l) = (decide (p.1 ≤ i ∧ i < p.1 + p.2) || isIn i l) := by simp [isIn]
theorem runs_in (f : Nat → Bool) (i : Nat) : ∀ k a, isIn i (runs f a k) = (decide (a ≤ i ∧ i < a + k) && !f i)
  | 0, a => by
    rw [decide_eq_false (show ¬ (a ≤ i ∧ i < a + 0) by omega)]
    rfl
  | k + 1, a => by
    have ih := runs_in f i k (a + 1)
    rw [runs]
    cases hf : f a
    · simp only [cond_false]
      cases hr : runs f (a + 1) k with
      | nil =>
        rw [hr] at ih
        rw [isIn_cons]
        simp only
        rw [show isIn i [] = false from rfl] at ih ⊢
        by_cases he : i = a
        · subst he; simp [hf]
        · have h1 : ¬ (a ≤ i ∧ i < a + 1) := by omega
          rw [decide_eq_false h1]
          by_cases h2 : a ≤ i ∧ i < a + (k + 1)
          · rw [decide_eq_true (show a + 1 ≤ i ∧ i < a + 1 + k by omega)] at ih
            rw [decide_eq_true h2]; simpa using ih
          · simp [h2]
      | cons p r =>
        obtain ⟨x, n⟩ := p
        have hri := runs_rises f k (a + 1)
        rw [hr] at ih hri
        obtain ⟨h1, h2, h3, h4⟩ := hri
        rw [isIn_cons] at ih
        simp only at ih
        by_cases hx : x = a + 1
        · simp only [hx, if_true]
          rw [isIn_cons]
          simp only
          by_cases he : i = a
          · subst he
            rw [decide_eq_true (show i ≤ i ∧ i < i + (n + 1) by omega), decide_eq_true (show i ≤ i ∧ i < i + (k + 1) by omega), hf]; rfl
          · have e1 : decide (a ≤ i ∧ i < a + (n + 1)) = decide (x ≤ i ∧ i < x + n) := by
              rw [decide_eq_decide]; omega
            have e2 : decide (a ≤ i ∧ i < a + (k + 1)) = decide (a + 1 ≤ i ∧ i < a + 1 + k) := by
              rw [decide_eq_decide]; omega
            rw [e1, e2, ih]
        · simp only [hx, if_false]
          rw [isIn_cons, isIn_cons]
          simp only
          by_cases he : i = a
          · subst he
            rw [decide_eq_true (show i ≤ i ∧ i < i + 1 by omega), decide_eq_true (show i ≤ i ∧ i < i + (k + 1) by omega), hf]; rfl
          · have e1 : decide (a ≤ i ∧ i < a + 1) = false := by rw [decide_eq_false_iff_not]; omega
            have e2 : decide (a ≤ i ∧ i < a + (k + 1)) = decide (a + 1 ≤ i ∧ i < a + 1 + k) := by
              rw [decide_eq_decide]; omega
            rw [e1, e2, ih, Bool.false_or]
    · simp only [cond_true]
      rw [ih]
      by_cases he : i = a
      · subst he; simp [hf]
      · have e2 : decide (a ≤ i ∧ i < a + (k + 1)) = decide (a + 1 ≤ i ∧ i < a + 1 + k) := by
          rw [decide_eq_decide]; omega
        rw [e2]
theorem leftU_front (f : Nat → Bool) : ∀ k a, leftU f a (k + 1) = (bif f a then 0 else 1) + leftU f (a + 1) k
  | 0, a => by simp [leftU]
  | k + 1, a => by
    rw [leftU, leftU_front f k a, leftU, show a + 1 + k = a + (k + 1) by omega]
    omega
theorem runs_sum (f : Nat → Bool) : ∀ k a, sumR (runs f a k) = leftU f a k
  | 0, a => rfl
  | k + 1, a => by
    have ih := runs_sum f k (a + 1)
    rw [runs, leftU_front]
    cases hf : f a
    · simp only [cond_false]
      cases hr : runs f (a + 1) k with
      | nil => rw [hr] at ih; rw [← ih]; rfl
      | cons p r =>
        obtain ⟨x, n⟩ := p
        rw [hr] at ih
        by_cases hx : x = a + 1
        · simp only [hx, if_true]
          rw [← ih]; simp only [sumR]; omega
        · simp only [hx, if_false]
          rw [← ih]; simp only [sumR]
    · simp only [cond_true]
      rw [ih]; omega
theorem xTurn_ends (st : XSt) (s n : Int) (b : Bool) : (xTurn st s n b).fr = st.fr ∧ (xTurn st s n b).hi = st.hi := by
  unfold xTurn
  split <;> exact ⟨rfl, rfl⟩
end Go.Proofs.Ytafbkdpheneceaa
