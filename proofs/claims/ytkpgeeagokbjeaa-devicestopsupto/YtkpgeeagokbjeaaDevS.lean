
import Derived.Test.YtkpgeeagokbjeaaDevO
namespace Go.Proofs.Ytkpgeeagokbjeaa
open Go.RowKit

/-! A device with a stop behind k acts -/
def doneN (k : Int) (i : Nat) : Nat := if k < 0 then i else min i k.toNat
def stopRes (k : Int) (i : Nat) : Int := if k < 0 ∨ (i : Int) < k then 0 else 21
structure Stp (k : Int) (i : Nat) (st : DSt) : Prop where
  len : st.last.length = 64
  pend : st.pend.length ≤ i
  cnt : st.wt + st.fl = doneN k i
  left : st.left = if k < 0 then -1 else if (i : Int) ≤ k then k - (i : Int) else 0
  down : st.down = decide (0 ≤ k ∧ k < (i : Int))
theorem doneN_le (k : Int) (i : Nat) : doneN k i ≤ i := by unfold doneN; split <;> omega
theorem doneN_go (k : Int) (i : Nat) (h : k < 0 ∨ (i : Int) < k) : doneN k i = i ∧ doneN k (i + 1) = i + 1 := by unfold doneN; split <;> omega
theorem doneN_stop (k : Int) (i : Nat) (h : ¬ (k < 0 ∨ (i : Int) < k)) : (doneN k i : Int) = k ∧ doneN k (i + 1) = doneN k i := by unfold doneN; split <;> omega
theorem Stp.start (k : Int) (fs : List UInt8) : Stp k 0 (stSt (newS (fillL 64 fs)) k) := by
  refine ⟨fillL_len _ _, Nat.le_refl _, ?_, ?_, ?_⟩
  · unfold doneN; split <;> simp [stSt, newS]
  · show (if k < 0 then (-1 : Int) else k) = _
    split
    · rfl
    · rw [if_pos (by omega)]; omega
  · show false = _
    symm
    rw [decide_eq_false_iff_not]
    omega
theorem Stp.may {k : Int} {i : Nat} {st : DSt} (h : Stp k i st) (hd : st.down = false) : mayB st = decide (k < 0 ∨ (i : Int) < k) ∧ (mayS st).left = (if k < 0 then -1 else if ((i + 1 : Nat) : Int) ≤ k then k - ((i + 1 : Nat) : Int) else 0) ∧ (mayS st).down = decide (0 ≤ k ∧ k < ((i + 1 : Nat) : Int)) := by
  have hl := h.left
  have hdn := h.down
  rw [hd] at hdn
  have hdn' := decide_eq_false_iff_not.1 hdn.symm
  unfold mayB mayS
  by_cases h0 : k < 0
  · rw [if_pos h0] at hl
    rw [hl, if_neg (by omega), if_neg (by omega), if_pos h0, hl, hd]
    refine ⟨?_, rfl, ?_⟩
    · rw [decide_eq_decide]; omega
    · symm; rw [decide_eq_false_iff_not]; omega
  · rw [if_neg h0, if_pos (by omega)] at hl
    rw [hl, if_neg h0]
    by_cases h1 : (i : Int) = k
    · rw [if_pos (by omega), if_neg (by omega)]
      refine ⟨?_, by show k - (i : Int) = 0; omega, ?_⟩
      · rw [decide_eq_decide]; omega
      · symm; rw [decide_eq_true_iff]; omega
    · rw [if_neg (by omega), if_pos (by omega), if_pos (by omega)]
      refine ⟨?_, by show k - (i : Int) - 1 = _; omega, ?_⟩
      · rw [decide_eq_decide]; omega
      · show st.down = _
        rw [hd]
        symm; rw [decide_eq_false_iff_not]; omega
theorem Stp.gone {k : Int} {i : Nat} {st : DSt} (h : Stp k i st) (hd : st.down = true) : ¬ (k < 0 ∨ (i : Int) < k) ∧ Stp k (i + 1) st := by
  have hdn := h.down
  rw [hd] at hdn
  have hdn' := of_decide_eq_true hdn.symm
  have hl := h.left
  rw [if_neg (by omega), if_neg (by omega)] at hl
  refine ⟨by omega, h.len, by have := h.pend; omega, ?_, ?_, ?_⟩
  · rw [h.cnt, (doneN_stop k i (by omega)).2]
  · rw [hl, if_neg (by omega), if_neg (by omega)]
  · rw [hd]; symm; rw [decide_eq_true_iff]; omega
theorem Stp.flush {k : Int} {i : Nat} {st : DSt} (h : Stp k i st) : flRes st = stopRes k i ∧ Stp k (i + 1) (flSt st) := by
  have hp := h.pend
  unfold flRes flSt stopRes
  cases hd : st.down with
  | true =>
    obtain ⟨h1, h2⟩ := h.gone hd
    rw [if_neg h1]
    exact ⟨rfl, h2⟩
  | false =>
    obtain ⟨h1, h2, h3⟩ := h.may hd
    obtain ⟨s1, s2, s3, s4, s5⟩ := mayS_same st
    simp only [Bool.false_eq_true, if_false]
    rw [h1]
    by_cases hc : k < 0 ∨ (i : Int) < k
    · simp only [hc, decide_true, if_true]
      refine ⟨trivial, by simp only [over_len]; exact h.len, by simp, ?_, h2, h3⟩
      simp only
      rw [s4, (doneN_go k i hc).2]
      have := h.cnt
      rw [(doneN_go k i hc).1] at this
      omega
    · simp only [hc, decide_false, Bool.false_eq_true, if_false]
      refine ⟨trivial, by rw [s1]; exact h.len, by rw [s2]; omega, ?_, h2, h3⟩
      rw [s4, s5, (doneN_stop k i hc).2, h.cnt]
theorem Stp.write {k : Int} {i : Nat} {st : DSt} (h : Stp k i st) (a : Nat) (s : Sc) (ha : a < 64) : wrRes st (a : Int) = stopRes k i ∧ Stp k (i + 1) (wrSt st (a : Int) s) := by
  have hp := h.pend
  have ht : thereB st (a : Int) = true := by unfold thereB; rw [decide_eq_true_iff, h.len]; omega
  unfold wrRes wrSt stopRes
  rw [ht]
  cases hd : st.down with
  | true =>
    obtain ⟨h1, h2⟩ := h.gone hd
    rw [if_neg h1]
    exact ⟨rfl, h2⟩
  | false =>
    obtain ⟨h1, h2, h3⟩ := h.may hd
    obtain ⟨s1, s2, s3, s4, s5⟩ := mayS_same st
    simp only [Bool.false_eq_true, if_false, if_true]
    rw [h1]
    by_cases hc : k < 0 ∨ (i : Int) < k
    · simp only [hc, decide_true, if_true]
      refine ⟨trivial, by simp only [s1]; exact h.len, by simp only [List.length_append, List.length_cons, List.length_nil]; omega, ?_, h2, h3⟩
      simp only
      rw [s5, (doneN_go k i hc).2]
      have := h.cnt
      rw [(doneN_go k i hc).1] at this
      omega
    · simp only [hc, decide_false, Bool.false_eq_true, if_false]
      refine ⟨trivial, by rw [s1]; exact h.len, by rw [s2]; omega, ?_, h2, h3⟩
      rw [s4, s5, (doneN_stop k i hc).2, h.cnt]
theorem Stp.bounds {k : Int} {i : Nat} {st : DSt} (h : Stp k i st) : st.wt ≤ i ∧ st.fl ≤ i := by
  have h1 := h.cnt
  have h2 := doneN_le k i
  omega
/-- Whatever it was, it runs again. -/
theorem reRuns (st : DSt) (bs : List Bool) (i n : Nat) (hl : st.last.length = n) (hw : st.wt ≤ i) (hf : st.fl ≤ i) : Runs n i (reSt st bs) :=
  ⟨by simp only [reSt, over_len]; exact hl, rfl, rfl, by simp [reSt], hw, hf⟩
theorem Runs.wr {n i : Nat} {st : DSt} (h : Runs n i st) (a : Int) (ha : 0 ≤ a ∧ a < (n : Int)) : wrRes st a = 0 := by
  unfold wrRes thereB
  rw [h.down, h.may.1, h.len, if_neg (by simp), if_pos (by simpa using ha), if_pos rfl]
/-- Slices of truths. -/
theorem boolsElt : Elt 23 4 1 := ⟨Try.underlying23, by
  have h : (Try.prog.info? 4).map (fun i => (i.zero, i.size, i.bytes)) = some (some (.bool false), 1, 1) := by kernel_rfl
  obtain ⟨i, hi, hz⟩ := Option.map_eq_some_iff.1 h
  simp only [Prod.mk.injEq] at hz
  exact ⟨i, _, hi, hz.1, hz.2.1, hz.2.2, rfl⟩⟩
end Go.Proofs.Ytkpgeeagokbjeaa
