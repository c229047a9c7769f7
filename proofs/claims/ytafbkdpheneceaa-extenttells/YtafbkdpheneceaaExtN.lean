
import Derived.Test.YtafbkdpheneceaaExtM
namespace Go.Proofs.Ytafbkdpheneceaa

/-! What the ranges tell, one behind the other -/
theorem rises_at {z : Nat} : ∀ {l : List (Nat × Nat)} {a : Nat} (_ : Rises z a l) (i : Nat) (p : Nat × Nat), l[i]? = some p → 1 ≤ p.2 ∧ a ≤ p.1 ∧ p.1 + p.2 ≤ z
  | [], _, _, i, p, hp => by simp at hp
  | (x, n) :: r, a, h, 0, p, hp => by
    simp at hp
    subst hp
    exact ⟨h.2.1, h.1, h.2.2.1⟩
  | (x, n) :: r, a, h, i + 1, p, hp => by
    obtain ⟨h1, h2, h3, h4⟩ := h
    have := rises_at h4 i p (by simpa using hp)
    exact ⟨this.1, by omega, this.2.2⟩
theorem rises_next {z : Nat} : ∀ {l : List (Nat × Nat)} {a : Nat} (_ : Rises z a l) (i : Nat) (p q : Nat × Nat), l[i]? = some p → l[i + 1]? = some q → p.1 + p.2 < q.1
  | [], _, _, i, p, q, hp, _ => by simp at hp
  | (x, n) :: r, a, h, 0, p, q, hp, hq => by
    simp at hp
    subst hp
    obtain ⟨h1, h2, h3, h4⟩ := h
    have := rises_at h4 0 q (by simpa using hq)
    simp only; omega
  | (x, n) :: r, a, h, i + 1, p, q, hp, hq => by
    obtain ⟨h1, h2, h3, h4⟩ := h
    exact rises_next h4 i p q (by simpa using hp) (by simpa using hq)
theorem rises_len {z : Nat} : ∀ {l : List (Nat × Nat)} {a : Nat} (_ : Rises z a l), l = [] ∨ a + l.length ≤ z
  | [], _, _ => .inl rfl
  | (x, n) :: r, a, h => by
    obtain ⟨h1, h2, h3, h4⟩ := h
    rcases rises_len h4 with h5 | h5
    · subst h5; right; simp only [List.length_cons, List.length_nil]; omega
    · right; simp only [List.length_cons]; omega
theorem take_snoc {α : Type} (l : List α) (i : Nat) (p : α) (h : l[i]? = some p) : l.take (i + 1) = l.take i ++ [p] := by
  rw [List.take_add_one, h]; rfl
theorem sumR_app : ∀ (l r : List (Nat × Nat)), sumR (l ++ r) = sumR l + sumR r
  | [], r => by simp [sumR]
  | p :: l, r => by rw [List.cons_append, sumR, sumR, sumR_app l r]; omega
theorem sumR_snoc (l : List (Nat × Nat)) (i : Nat) (p : Nat × Nat) (h : l[i]? = some p) : sumR (l.take (i + 1)) = sumR (l.take i) + p.2 := by
  rw [take_snoc l i p h, sumR_app]; rfl
theorem isIn_snoc (k : Nat) (l : List (Nat × Nat)) (i : Nat) (p : Nat × Nat) (h : l[i]? = some p) : isIn k (l.take (i + 1)) = (isIn k (l.take i) || decide (p.1 ≤ k ∧ k < p.1 + p.2)) := by
  rw [take_snoc l i p h]; simp [isIn]
theorem lowR_app (n : Int) : ∀ (l r : List (Nat × Nat)), lowR n (l ++ r) = match lowR n l with | some a => some a | none => lowR n r
  | [], r => rfl
  | (a, m) :: l, r => by
    rw [List.cons_append, lowR, lowR]
    split
    · rfl
    · exact lowR_app n l r
theorem lowR_snoc (n : Int) (l : List (Nat × Nat)) (i : Nat) (p : Nat × Nat) (h : l[i]? = some p) : lowR n (l.take (i + 1)) = match lowR n (l.take i) with | some a => some a | none => if 0 < n ∧ n ≤ (p.2 : Int) then some p.1 else none := by
  rw [take_snoc l i p h, lowR_app]
  obtain ⟨a, m⟩ := p
  rfl
def cntIn (l : List (Nat × Nat)) : Nat → Nat
  | 0 => 0
  | k + 1 => cntIn l k + (bif isIn k l then 1 else 0)
theorem cntIn_runs (f : Nat → Bool) (a k : Nat) : ∀ m, cntIn (runs f a k) m = leftU f a (min (m - a) k)
  | 0 => by simp [cntIn, leftU]
  | m + 1 => by
    rw [cntIn, cntIn_runs f a k m, runs_in]
    by_cases h : a ≤ m ∧ m < a + k
    · rw [show min (m + 1 - a) k = min (m - a) k + 1 by omega, leftU, decide_eq_true h, Bool.true_and, show a + min (m - a) k = m by omega]
      cases f m <;> rfl
    · rw [decide_eq_false h, Bool.false_and, show min (m + 1 - a) k = min (m - a) k by omega]; rfl
theorem cntIn_le (l : List (Nat × Nat)) : ∀ m, cntIn l m ≤ m
  | 0 => Nat.le_refl _
  | m + 1 => by
    have := cntIn_le l m
    rw [cntIn]
    cases isIn m l <;> simp <;> omega
theorem sumR_le {z : Nat} : ∀ {l : List (Nat × Nat)} {a : Nat} (_ : Rises z a l), a ≤ z + 1 → sumR l ≤ z + 1 - a
  | [], _, _, _ => by simp [sumR]
  | (x, n) :: r, a, h, _ => by
    obtain ⟨h1, h2, h3, h4⟩ := h
    have := sumR_le h4 (by omega)
    rw [sumR]; simp only; omega
theorem rises_take {z : Nat} : ∀ {l : List (Nat × Nat)} {a : Nat} (_ : Rises z a l) (i : Nat), Rises z a (l.take i)
  | [], _, _, i => by simp [Rises]
  | (x, n) :: r, a, h, 0 => trivial
  | (x, n) :: r, a, h, i + 1 => by
    obtain ⟨h1, h2, h3, h4⟩ := h
    exact ⟨h1, h2, h3, rises_take h4 i⟩
end Go.Proofs.Ytafbkdpheneceaa
