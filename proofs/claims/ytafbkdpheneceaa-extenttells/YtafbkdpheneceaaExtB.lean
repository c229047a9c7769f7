
import Derived.Test.YtafbkdpheneceaaExtN
namespace Go.Proofs.Ytafbkdpheneceaa

/-! What is held: ranges apart from one another -/
theorem runs_congr {f h : Nat → Bool} : ∀ (k a : Nat), (∀ i, a ≤ i → i < a + k → f i = h i) → runs f a k = runs h a k
  | 0, _, _ => rfl
  | k + 1, a, e => by
    rw [runs, runs, runs_congr k (a + 1) (fun i h1 h2 => e i (by omega) (by omega)), e a (Nat.le_refl _) (by omega)]
theorem lowR_mem (n : Int) : ∀ (l : List (Nat × Nat)) (a : Nat), lowR n l = some a → 0 < n ∧ ∃ m, (a, m) ∈ l ∧ n ≤ (m : Int)
  | [], a, h => by simp [lowR] at h
  | (x, m) :: r, a, h => by
    rw [lowR] at h
    split at h
    · rename_i hc
      cases h
      exact ⟨hc.1, m, by simp, hc.2⟩
    · obtain ⟨h1, m', h2, h3⟩ := lowR_mem n r a h
      exact ⟨h1, m', by simp [h2], h3⟩
theorem isIn_mem {l : List (Nat × Nat)} {a m i : Nat} (h : (a, m) ∈ l) (h1 : a ≤ i) (h2 : i < a + m) : isIn i l = true := by
  unfold isIn
  rw [List.any_eq_true]
  exact ⟨(a, m), h, by simp [h1, h2]⟩
/-- Where Lowest says, there are so many free ones. -/
theorem low_spec (st : XSt) (n : Int) (a : Nat) (h : xLow st n = some a) : 0 < n ∧ st.fr ≤ a ∧ (a : Int) + n ≤ (st.fr + (st.hi - st.fr) : Nat) ∧ ∀ i, i < n.toNat → st.f (a + i) = false := by
  obtain ⟨h1, m, h2, h3⟩ := lowR_mem n _ a h
  have key : ∀ i, i < m → st.fr ≤ a + i ∧ a + i < st.fr + (st.hi - st.fr) ∧ st.f (a + i) = false := fun i hi => by
    have hin := isIn_mem h2 (show a ≤ a + i by omega) (by omega)
    unfold xRuns at hin
    rw [runs_in, Bool.and_eq_true, decide_eq_true_iff] at hin
    exact ⟨hin.1.1, hin.1.2, by simpa using hin.2⟩
  have hm : 0 < m := by omega
  have k0 := key 0 hm
  have k1 := key (m - 1) (by omega)
  exact ⟨h1, by omega, by omega, fun i hi => (key i (by omega)).2.2⟩
theorem xOk_yes (st : XSt) (a n : Int) (b : Bool) (h0 : 0 < n) (h1 : (st.fr : Int) ≤ a) (h2 : a + n ≤ (st.hi : Int)) (h3 : ∀ i, i < n.toNat → st.f (a.toNat + i) = !b) : xOk st a n b = true := by
  unfold xOk
  rw [Bool.or_eq_true, Bool.and_eq_true, allU_iff]
  exact .inr ⟨by simp; omega, h3⟩
theorem xOk_no (st : XSt) (a : Int) (b : Bool) (h : st.f a.toNat = b) : xOk st a 1 b = false := by
  rw [Bool.eq_false_iff]
  intro hy
  unfold xOk at hy
  rw [Bool.or_eq_true, Bool.and_eq_true, allU_iff] at hy
  rcases hy with hy | hy
  · simp at hy
  · have := hy.2 0 (by simp)
    rw [Nat.add_zero, h] at this
    cases b <;> cases this
theorem xTurn_no (st : XSt) (a n : Int) (b : Bool) (h : xOk st a n b = false) : xTurn st a n b = st := by
  unfold xTurn; rw [h]; rfl
def inP (p : Nat × Nat) (i : Nat) : Bool := decide (p.1 ≤ i ∧ i < p.1 + p.2)
/-- Hld8 of 200 sectors: hs, each apart from the others and from what was there. -/
structure Hld8 (st : XSt) (hs : List (Nat × Nat)) : Prop where
  fr : st.fr = 0
  hi : st.hi = 200
  pos : ∀ p ∈ hs, 1 ≤ p.2 ∧ p.1 + p.2 ≤ 200
  f : ∀ i, i < 200 → (st.f i = true ↔ (50 ≤ i ∧ i < 57) ∨ ∃ p ∈ hs, inP p i = true)
  off : ∀ p ∈ hs, ∀ i, inP p i = true → ¬ (50 ≤ i ∧ i < 57)
  apart : ∀ (j k : Nat) p q, hs[j]? = some p → hs[k]? = some q → j ≠ k → ∀ i, inP p i = true → inP q i = true → False
theorem inP_iff (p : Nat × Nat) (i : Nat) : inP p i = true ↔ p.1 ≤ i ∧ i < p.1 + p.2 := by simp [inP]
theorem Hld8.more {st : XSt} {hs : List (Nat × Nat)} (h : Hld8 st hs) (a n : Nat) (hn : 0 < n) (hz : a + n ≤ 200) (hf : ∀ i, i < n → st.f (a + i) = false) :
    xOk st (a : Int) (n : Int) true = true ∧ Hld8 (xTurn st (a : Int) (n : Int) true) (hs ++ [(a, n)]) ∧ (xTurn st (a : Int) (n : Int) true).f a = true := by
  have hok : xOk st (a : Int) (n : Int) true = true := xOk_yes st _ _ _ (by omega) (by rw [h.fr]; omega) (by rw [h.hi]; omega) (fun i hi => by simpa using hf i (by omega))
  have e : xTurn st (a : Int) (n : Int) true = { st with f := fun i => if (a : Int) ≤ (i : Int) ∧ (i : Int) < (a : Int) + (n : Int) then true else st.f i } := by unfold xTurn; rw [hok]; rfl
  have hnew : ∀ i, inP (a, n) i = true → st.f i = false := fun i hi => by
    rw [inP_iff] at hi
    have := hf (i - a) (by simp only at hi; omega)
    rwa [show a + (i - a) = i by simp only at hi; omega] at this
  have hold : ∀ p ∈ hs, ∀ i, inP p i = true → inP (a, n) i = true → False := fun p hp i h1 h2 => by
    have h3 := hnew i h2
    have h4 := (inP_iff p i).1 h1
    have h5 := (h.pos p hp).2
    rw [(h.f i (by omega)).2 (.inr ⟨p, hp, h1⟩)] at h3
    cases h3
  refine ⟨hok, ?_, by rw [e]; simp; omega⟩
  rw [e]
  refine ⟨h.fr, h.hi, ?_, ?_, ?_, ?_⟩
  · intro p hp
    rcases List.mem_append.1 hp with hp | hp
    · exact h.pos p hp
    · simp at hp; subst hp; exact ⟨hn, hz⟩
  · intro i hi
    simp only
    by_cases hin : inP (a, n) i = true
    · have hin' := (inP_iff _ _).1 hin
      simp only at hin'
      rw [if_pos (by omega)]
      exact ⟨fun _ => .inr ⟨(a, n), by simp, hin⟩, fun _ => rfl⟩
    · have hin' : ¬ (a ≤ i ∧ i < a + n) := fun hh => hin ((inP_iff _ _).2 hh)
      rw [if_neg (by omega), h.f i hi]
      constructor
      · rintro (hh | ⟨p, hp, hpi⟩)
        · exact .inl hh
        · exact .inr ⟨p, by simp [hp], hpi⟩
      · rintro (hh | ⟨p, hp, hpi⟩)
        · exact .inl hh
        · rcases List.mem_append.1 hp with hp | hp
          · exact .inr ⟨p, hp, hpi⟩
          · simp at hp; subst hp; exact absurd hpi hin
  · intro p hp i hpi
    rcases List.mem_append.1 hp with hp | hp
    · exact h.off p hp i hpi
    · simp at hp; subst hp
      intro h57
      have h3 := hnew i hpi
      rw [(h.f i (by omega)).2 (.inl h57)] at h3
      cases h3
  · intro j k p q hj hk hne i h1 h2
    rw [List.getElem?_append] at hj hk
    split at hj <;> split at hk
    · exact h.apart j k p q hj hk hne i h1 h2
    · have : q = (a, n) := by
        rcases hz' : k - hs.length with _ | m
        · rw [hz'] at hk; simp at hk; exact hk.symm
        · rw [hz'] at hk; simp at hk
      subst this
      exact hold p (List.mem_of_getElem? hj) i h1 h2
    · have : p = (a, n) := by
        rcases hz' : j - hs.length with _ | m
        · rw [hz'] at hj; simp at hj; exact hj.symm
        · rw [hz'] at hj; simp at hj
      subst this
      exact hold q (List.mem_of_getElem? hk) i h2 h1
    · exfalso
      rcases hz1 : j - hs.length with _ | m1
      · rcases hz2 : k - hs.length with _ | m2
        · omega
        · rw [hz2] at hk; simp at hk
      · rw [hz1] at hj; simp at hj
theorem Hld8.less {st : XSt} {hs : List (Nat × Nat)} (h : Hld8 st hs) (j a n : Nat) (hj : hs[j]? = some (a, n)) :
    xOk st (a : Int) (n : Int) false = true ∧ Hld8 (xTurn st (a : Int) (n : Int) false) (hs.take j ++ hs.drop (j + 1)) ∧ (xTurn st (a : Int) (n : Int) false).f a = false := by
  have hm := List.mem_of_getElem? hj
  have hp := h.pos _ hm
  simp only at hp
  have hok : xOk st (a : Int) (n : Int) false = true := xOk_yes st _ _ _ (by omega) (by rw [h.fr]; omega) (by rw [h.hi]; omega) (fun i hi => by
    rw [Int.toNat_natCast]
    exact (h.f (a + i) (by omega)).2 (.inr ⟨(a, n), hm, (inP_iff _ _).2 (by simp only; omega)⟩))
  have e : xTurn st (a : Int) (n : Int) false = { st with f := fun i => if (a : Int) ≤ (i : Int) ∧ (i : Int) < (a : Int) + (n : Int) then false else st.f i } := by unfold xTurn; rw [hok]; rfl
  have hlt := (List.getElem?_eq_some_iff.1 hj).1
  have hat : ∀ i : Nat, (hs.take j ++ hs.drop (j + 1))[i]? = hs[if i < j then i else i + 1]? := fun i => by
    rw [List.getElem?_append, List.length_take, show min j hs.length = j by omega]
    by_cases hi : i < j
    · rw [if_pos hi, if_pos hi, List.getElem?_take, if_pos hi]
    · rw [if_neg hi, if_neg hi, List.getElem?_drop, show j + 1 + (i - j) = i + 1 by omega]
  have hmem : ∀ p, p ∈ hs.take j ++ hs.drop (j + 1) ↔ ∃ k, k ≠ j ∧ hs[k]? = some p := fun p => by
    rw [List.mem_iff_getElem?]
    constructor
    · rintro ⟨i, hi⟩
      rw [hat] at hi
      exact ⟨_, by split <;> omega, hi⟩
    · rintro ⟨k, hk, hp⟩
      by_cases hkj : k < j
      · exact ⟨k, by rw [hat, if_pos hkj]; exact hp⟩
      · exact ⟨k - 1, by rw [hat, if_neg (by omega), show k - 1 + 1 = k by omega]; exact hp⟩
  refine ⟨hok, ?_, by rw [e]; simp; omega⟩
  rw [e]
  refine ⟨h.fr, h.hi, ?_, ?_, ?_, ?_⟩
  · intro p hp'
    obtain ⟨k, _, hk⟩ := (hmem p).1 hp'
    exact h.pos p (List.mem_of_getElem? hk)
  · intro i hi
    simp only
    by_cases hin : inP (a, n) i = true
    · have hin' := (inP_iff _ _).1 hin
      simp only at hin'
      rw [if_pos (by omega)]
      constructor
      · intro hh; cases hh
      · rintro (hh | ⟨p, hp', hpi⟩)
        · exact absurd hh (h.off _ hm i hin)
        · obtain ⟨k, hkj, hk⟩ := (hmem p).1 hp'
          exact (h.apart k j p (a, n) hk hj hkj i hpi hin).elim
    · have hin' : ¬ (a ≤ i ∧ i < a + n) := fun hh => hin ((inP_iff _ _).2 hh)
      rw [if_neg (by omega), h.f i hi]
      constructor
      · rintro (hh | ⟨p, hp', hpi⟩)
        · exact .inl hh
        · obtain ⟨k, hk⟩ := List.mem_iff_getElem?.1 hp'
          by_cases hkj : k = j
          · subst hkj; rw [hj] at hk; cases hk; exact absurd hpi hin
          · exact .inr ⟨p, (hmem p).2 ⟨k, hkj, hk⟩, hpi⟩
      · rintro (hh | ⟨p, hp', hpi⟩)
        · exact .inl hh
        · obtain ⟨k, _, hk⟩ := (hmem p).1 hp'
          exact .inr ⟨p, List.mem_of_getElem? hk, hpi⟩
  · intro p hp' i hpi
    obtain ⟨k, _, hk⟩ := (hmem p).1 hp'
    exact h.off p (List.mem_of_getElem? hk) i hpi
  · intro j' k' p q hj' hk' hne i h1 h2
    rw [hat] at hj' hk'
    exact h.apart _ _ p q hj' hk' (by split <;> split <;> omega) i h1 h2
def x200 : XSt := xTurn ⟨0, 200, fun _ => false⟩ 50 7 true
theorem x200_ok : xOk ⟨0, 200, fun _ => false⟩ 50 7 true = true := by decide +kernel
theorem x200_f (i : Nat) : x200.f i = decide (50 ≤ i ∧ i < 57) := by
  unfold x200 xTurn
  rw [x200_ok]
  simp only [if_true]
  by_cases h : 50 ≤ i ∧ i < 57
  · rw [if_pos (by omega), decide_eq_true h]
  · rw [if_neg (by omega), decide_eq_false h]
theorem x200_ends : x200.fr = 0 ∧ x200.hi = 200 := by
  have := xTurn_ends ⟨0, 200, fun _ => false⟩ 50 7 true
  exact this
theorem held_zero : Hld8 x200 [] :=
  ⟨x200_ends.1, x200_ends.2, fun p hp => by simp at hp, fun i hi => by rw [x200_f]; simp, fun p hp => by simp at hp, fun j k p q hj => by simp at hj⟩
theorem held_none {st : XSt} (h : Hld8 st []) : xRuns st = xRuns x200 := by
  unfold xRuns
  rw [h.fr, h.hi, x200_ends.1, x200_ends.2]
  refine runs_congr _ _ fun i _ hi => ?_
  rw [Bool.eq_iff_iff, h.f i (by omega), x200_f]
  simp
end Go.Proofs.Ytafbkdpheneceaa
