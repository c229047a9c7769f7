import Derived.Test.YtklbdhpnbjhgkaaGreatDoorQFrd
namespace Go.Proofs.YtklbdhpnbjhgkaaGreatDoor
open Go.RowKit Go.Sort

/-! The document's own Get, as mathematics -/
def hdS (b : List UInt8) : Rs :=
  let p := takeS 4 b (0, 0, 0)
  let S2 := if p.1.take 3 = headB then p.2 else failS 11 0 p.2
  if okSt ((lB p.1 3).toNat : Int) = true then S2 else failS 1 3 S2
def smS (b : List UInt8) (S6 : Rs) : Rs :=
  let q4 := numS 4 b S6
  if q4.2.2.1 = 0 ∧ q4.1 ≠ (sumL (b.take S6.1)).toNat then failS 12 S6.1 q4.2 else q4.2
def rsS (b : List UInt8) (S8 : Rs) : Rs := if S8.2.1 = 0 ∧ S8.1 < b.length then failS 14 S8.1 S8 else S8
def getRs (b : List UInt8) : Rp × Rs :=
  let q1 := listS (bdF b) b (hdS b)
  let q2 := listS (bdD b) b q1.2
  let q3 := listS (bdI b) b q2.2
  (⟨((lB (takeS 4 b (0, 0, 0)).1 3).toNat : Int), q1.1, q2.1, q3.1⟩, rsS b (smS b q3.2))
theorem smS_no {b : List UInt8} {S : Rs} (h : S.2.1 ≠ 0) : smS b S = S := by
  unfold smS
  rw [numS_no h]
  simp only
  rw [if_neg (fun h9 => h h9.1)]
theorem rsS_no {b : List UInt8} {S : Rs} (h : S.2.1 ≠ 0) : rsS b S = S := by
  unfold rsS
  rw [if_neg (fun h9 => h h9.1)]
theorem hdS_is (b : List UInt8) : match rdH b with
    | .ok s => hdS b = (4, 0, 0) ∧ s = ((lB (takeS 4 b (0, 0, 0)).1 3).toNat : Int)
    | .error (a, cd) => cd ≠ 0 ∧ (hdS b).2 = (cd, a) := by
  unfold rdH hdS
  by_cases h4 : b.length < 4
  · rw [if_pos h4]
    have e : takeS 4 b (0, 0, 0) = (List.replicate 4 0, (0, 10, 0)) := by unfold takeS; rw [if_pos rfl, if_pos (by simp only; omega)]
    have e2 : ∀ x y : Nat, failS x y (0, 10, 0) = (0, 10, 0) := fun x y => failS_no (by simp)
    simp only [e, e2, ite_self]
    exact ⟨by simp, trivial⟩
  · rw [if_neg h4]
    have e : takeS 4 b (0, 0, 0) = ((b.drop 0).take 4, (4, 0, 0)) := by unfold takeS; rw [if_pos rfl, if_neg (by simp only; omega)]
    have e3 : ((b.drop 0).take 4).take 3 = b.take 3 := by simp [List.take_take]
    have e4 : lB ((b.drop 0).take 4) 3 = lB b 3 := by unfold lB; simp
    simp only [e, e3, e4]
    by_cases h3 : b.take 3 = headB
    · rw [if_pos h3, if_pos h3]
      cases ho : okSt ((lB b 3).toNat : Int)
      · simp only [cond_false, Bool.false_eq_true, if_false]
        exact ⟨by simp, rfl⟩
      · simp only [cond_true, if_true]
        exact ⟨trivial, trivial⟩
    · rw [if_neg h3, if_neg h3]
      have e5 : failS 11 0 (4, 0, 0) = (4, 11, 0) := if_pos rfl
      have e6 : failS 1 3 (4, 11, 0) = (4, 11, 0) := failS_no (by simp)
      simp only [e5, e6, ite_self]
      exact ⟨by simp, trivial⟩
theorem end_no {b : List UInt8} {S : Rs} {a cd : Nat} (hc : cd ≠ 0) (h : S.2 = (cd, a)) : (rsS b (smS b S)).2 = (cd, a) := by
  have h1 : S.2.1 ≠ 0 := by rw [h]; exact hc
  rw [smS_no h1, rsS_no h1, h]
theorem getRs_is (b : List UInt8) : match getM b with
    | .ok r => (getRs b).1 = r ∧ (getRs b).2.2.1 = 0
    | .error (a, cd) => cd ≠ 0 ∧ (getRs b).2.2 = (cd, a) := by
  unfold getM rdR getRs
  have hh := hdS_is b
  cases hr : rdH b with
  | error p =>
    obtain ⟨a, cd⟩ := p
    rw [hr] at hh
    obtain ⟨hc, hS⟩ := hh
    have h1 : (hdS b).2.1 ≠ 0 := by rw [hS]; exact hc
    simp only [listS_no h1]
    exact ⟨hc, end_no hc hS⟩
  | ok s =>
    rw [hr] at hh
    obtain ⟨hS, hs⟩ := hh
    simp only [hS]
    have h1 := listS_is (ltF_bd b) 4 0
    cases hf : rdC rdF ltF b 4 with
    | error p =>
      obtain ⟨a, cd⟩ := p
      rw [hf] at h1
      obtain ⟨hc, hS1⟩ := h1
      have h2 : (listS (bdF b) b (4, 0, 0)).2.2.1 ≠ 0 := by rw [hS1]; exact hc
      simp only [listS_no h2]
      exact ⟨hc, end_no hc hS1⟩
    | ok p =>
      obtain ⟨fs, i1⟩ := p
      rw [hf] at h1
      have h1' : listS (bdF b) b (4, 0, 0) = (fs, (i1, 0, 0)) := h1
      simp only [h1']
      have h2 := listS_is (ltD_bd b) i1 0
      cases hd : rdC rdD ltD b i1 with
      | error p =>
        obtain ⟨a, cd⟩ := p
        rw [hd] at h2
        obtain ⟨hc, hS1⟩ := h2
        have h3 : (listS (bdD b) b (i1, 0, 0)).2.2.1 ≠ 0 := by rw [hS1]; exact hc
        simp only [listS_no h3]
        exact ⟨hc, end_no hc hS1⟩
      | ok p =>
        obtain ⟨ds, i2⟩ := p
        rw [hd] at h2
        have h2' : listS (bdD b) b (i1, 0, 0) = (ds, (i2, 0, 0)) := h2
        simp only [h2']
        have h3 := listS_is (ltI_bd b) i2 0
        cases hi : rdC rdS ltI b i2 with
        | error p =>
          obtain ⟨a, cd⟩ := p
          rw [hi] at h3
          obtain ⟨hc, hS1⟩ := h3
          exact ⟨hc, end_no hc hS1⟩
        | ok p =>
          obtain ⟨dr, i3⟩ := p
          rw [hi] at h3
          have h3' : listS (bdI b) b (i2, 0, 0) = (dr, (i3, 0, 0)) := h3
          simp only [h3']
          unfold rdE
          by_cases h9 : b.length < i3 + 4
          · rw [if_pos h9]
            have e : smS b (i3, 0, 0) = (i3, 10, i3) := by
              unfold smS
              rw [numS_short h9]
              simp
            rw [e, rsS_no (by simp)]
            exact ⟨by simp, rfl⟩
          · rw [if_neg h9]
            by_cases hm : numN (lB b) i3 4 = (sumL (b.take i3)).toNat
            · rw [if_pos hm]
              have e : smS b (i3, 0, 0) = (i3 + 4, 0, 0) := by
                unfold smS
                rw [numS_ok (by omega)]
                simp [hm]
              rw [e]
              by_cases hl : i3 + 4 < b.length
              · rw [if_pos hl]
                have e2 : rsS b (i3 + 4, 0, 0) = (i3 + 4, 14, i3 + 4) := by unfold rsS; rw [if_pos ⟨rfl, hl⟩]; rfl
                rw [e2]
                exact ⟨by simp, rfl⟩
              · rw [if_neg hl]
                have e2 : rsS b (i3 + 4, 0, 0) = (i3 + 4, 0, 0) := by unfold rsS; rw [if_neg (fun h => hl h.2)]
                rw [e2, ← hs]
                exact ⟨rfl, rfl⟩
            · rw [if_neg hm]
              have e : smS b (i3, 0, 0) = (i3 + 4, 12, i3) := by
                unfold smS
                rw [numS_ok (by omega)]
                simp only
                rw [if_pos ⟨trivial, hm⟩]
                rfl
              rw [e, rsS_no (by simp)]
              exact ⟨by simp, rfl⟩
end Go.Proofs.YtklbdhpnbjhgkaaGreatDoor
