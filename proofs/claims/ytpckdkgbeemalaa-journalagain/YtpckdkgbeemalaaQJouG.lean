import Derived.Test.YtpckdkgbeemalaaQJou7
namespace Go.Proofs.Ytpckdkgbeemalaa
open Go.RowKit

/-! How far an act of a script moves a state's numbers -/
def Gr (k : Nat) (s t : DSt) : Prop := t.pend.length ≤ s.pend.length + k ∧ t.rd ≤ s.rd + k ∧ t.wt ≤ s.wt + k ∧ t.fl ≤ s.fl + k
theorem Gr.refl (k : Nat) (s : DSt) : Gr k s s := ⟨by omega, by omega, by omega, by omega⟩
theorem Gr.trans {j k : Nat} {s t u : DSt} (h : Gr j s t) (h' : Gr k t u) : Gr (j + k) s u := by
  obtain ⟨a1, a2, a3, a4⟩ := h
  obtain ⟨b1, b2, b3, b4⟩ := h'
  exact ⟨by omega, by omega, by omega, by omega⟩
theorem Gr.mono {j k : Nat} {s t : DSt} (h : Gr j s t) (hj : j ≤ k) : Gr k s t := by
  obtain ⟨a1, a2, a3, a4⟩ := h
  exact ⟨by omega, by omega, by omega, by omega⟩
theorem wr_gr (st : DSt) (a : Int) (s : Sc) : Gr 1 st (wrSt st a s) := by
  obtain ⟨m1, m2, m3, m4, m5⟩ := mayS_same st
  unfold wrSt
  split
  · exact Gr.refl _ _
  · split
    · split
      · refine ⟨by simp, ?_, ?_, ?_⟩
        · show (mayS st).rd ≤ _; omega
        · show st.wt + 1 ≤ _; omega
        · show (mayS st).fl ≤ _; omega
      · exact ⟨by rw [m2]; omega, by omega, by omega, by omega⟩
    · exact Gr.refl _ _
theorem fl_gr (st : DSt) : Gr 1 st (flSt st) := by
  obtain ⟨m1, m2, m3, m4, m5⟩ := mayS_same st
  unfold flSt
  split
  · exact Gr.refl _ _
  · split
    · refine ⟨by simp, ?_, ?_, ?_⟩
      · show (mayS st).rd ≤ _; omega
      · show (mayS st).wt ≤ _; omega
      · show st.fl + 1 ≤ _; omega
    · exact ⟨by rw [m2]; omega, by omega, by omega, by omega⟩
theorem ac_gr (st : DSt) : ∀ a : JAc, Gr 1 st (acS st a)
  | some x => wr_gr st x.1 x.2
  | none => fl_gr st
theorem run_gr : ∀ (az : List JAc) (st : DSt), Gr az.length st (runS st az)
  | [], st => Gr.refl _ _
  | a :: r, st => by
    unfold runS
    split
    · exact (Gr.trans (ac_gr st a) (run_gr r _)).mono (by simp; omega)
    · exact (ac_gr st a).mono (by simp)
theorem bat_eight {n : Int} {l : List Wr} (h : batB n l = true) : l.length ≤ 8 := by
  unfold batB lenB at h
  simp only [Bool.and_eq_true, decide_eq_true_eq] at h
  omega
theorem op_gr {st : DSt} (h0 : 64 ≤ st.last.length) (h1 : st.last.length ≤ 1024) (kd k : Int) (ol : List Wr) (bs : List Bool) (v : Sc) : Gr 40 st (opS st kd k ol bs v) := by
  unfold opS
  split
  · unfold doS
    rcases mPut_bat h0 h1 ol with ⟨e1, e2, e3⟩ | ⟨e1, e2⟩
    · rw [if_pos (show mPutE ol (dnI st) = 0 from e1), (seq_run _ st).2]
      refine (run_gr _ st).mono ?_
      rw [acLs_len]
      have := bat_eight e3
      simp only [doL, clrL, List.map_cons, List.map_nil, List.sum_cons, List.sum_nil, jlW_len, List.length_cons, List.length_nil]
      omega
    · rw [if_neg (show ¬ mPutE ol (dnI st) = 0 by show ¬ mPutE ol (st.last.length : Int) = 0; omega)]
      exact Gr.refl _ _
  · split
    · unfold repS
      split
      · exact Gr.refl _ _
      · rw [(seq_run _ _).2]
        have h9 : Gr 9 st (rd9 st) := ⟨by show st.pend.length ≤ _; omega, by show st.rd + 9 ≤ _; omega, by show st.wt ≤ _; omega, by show st.fl ≤ _; omega⟩
        refine (h9.trans (run_gr _ _)).mono ?_
        rw [acLs_len]
        unfold rpLs
        split
        · rename_i h2
          have := bat_eight (dK_two h2)
          simp only [rpL, clrL, List.map_cons, List.map_nil, List.sum_cons, List.sum_nil, List.length_cons, List.length_nil]
          omega
        · split
          · simp [clrL]
          · simp
    · split
      · rw [(put_run clrL st).2]
        exact (run_gr _ st).mono (by rw [acL_len]; simp [clrL])
      · split
        · exact ⟨by show st.pend.length ≤ _; omega, by show st.rd ≤ _; omega, by show st.wt ≤ _; omega, by show st.fl ≤ _; omega⟩
        · split
          · exact ⟨by simp [reSt], by show st.rd ≤ _; omega, by show st.wt ≤ _; omega, by show st.fl ≤ _; omega⟩
          · split
            · exact (wr_gr st 2 v).mono (by omega)
            · exact Gr.refl _ _
/-! How long the list of writes that wait can grow -/
theorem may_yes {st : DSt} (hd : st.down = false) (hm : mayB st = true) : (mayS st).down = false := by
  have h0 : st.left ≠ 0 := of_decide_eq_true hm
  unfold mayS
  rw [if_neg h0]
  split
  · exact hd
  · exact hd
theorem may_no {st : DSt} (hm : ¬ mayB st = true) : (mayS st).down = true := by
  have h0 : st.left = 0 := by
    apply Classical.byContradiction
    intro h
    exact hm (decide_eq_true h)
  unfold mayS
  rw [if_pos h0]
def inL (n : Nat) (l : List Wr) : Prop := ∀ x ∈ l, 0 ≤ x.1 ∧ x.1 < (n : Int)
theorem jp_down {st : DSt} (hd : st.down = true) (l : List Wr) : jpS st l = st ∧ jpR st l = 21 := by
  cases l with
  | nil => simp only [jpS, jpR]; unfold flSt flRes; rw [if_pos hd, if_pos hd]; exact ⟨rfl, rfl⟩
  | cons x r =>
    have h1 : wrRes st x.1 = 21 := by unfold wrRes; rw [if_pos hd]
    have h2 : wrSt st x.1 x.2 = st := by unfold wrSt; rw [if_pos hd]
    simp only [jpS, jpR, h1, h2]
    rw [if_neg (by omega), if_neg (by omega)]
    exact ⟨rfl, rfl⟩
theorem seq_down {st : DSt} (hd : st.down = true) (ls : List (List Wr)) : seqS st ls = st := by
  cases ls with
  | nil => rfl
  | cons l r =>
    obtain ⟨h1, h2⟩ := jp_down hd l
    simp only [seqS, h1, h2]
    rw [if_neg (by omega)]
theorem jp_pd (n : Nat) : ∀ (l : List Wr) (st : DSt), st.down = false → st.last.length = n → inL n l →
    (jpR st l = 0 ∧ (jpS st l).pend.length = 0 ∧ (jpS st l).down = false ∧ (jpS st l).last.length = n) ∨ (¬ jpR st l = 0 ∧ (jpS st l).down = true ∧ (jpS st l).pend.length ≤ st.pend.length + l.length)
  | [], st, hd, hn, _ => by
    simp only [jpR, jpS]
    have hd' : ¬ st.down = true := by rw [hd]; simp
    by_cases hm : mayB st = true
    · have f1 : flRes st = 0 := by unfold flRes; rw [if_neg hd', if_pos hm]
      have f2 : flSt st = { mayS st with last := over st.last st.pend, pend := [], fl := st.fl + 1 } := by unfold flSt; rw [if_neg hd', if_pos hm]
      rw [f1, f2]
      exact .inl ⟨rfl, rfl, may_yes hd hm, by show (over _ _).length = _; rw [over_len, hn]⟩
    · have f1 : flRes st = 21 := by unfold flRes; rw [if_neg hd', if_neg hm]
      have f2 : flSt st = mayS st := by unfold flSt; rw [if_neg hd', if_neg hm]
      rw [f1, f2]
      exact .inr ⟨by omega, may_no hm, by rw [(mayS_same st).2.1]; simp⟩
  | x :: r, st, hd, hn, hin => by
    have hx := hin x (by simp)
    have ht : thereB st x.1 = true := by unfold thereB; rw [hn]; exact decide_eq_true hx
    simp only [jpR, jpS]
    have hd' : ¬ st.down = true := by rw [hd]; simp
    by_cases hm : mayB st = true
    · have f1 : wrRes st x.1 = 0 := by unfold wrRes; rw [if_neg hd', if_pos ht, if_pos hm]
      rw [f1, if_pos rfl, if_pos rfl]
      have hw : wrSt st x.1 x.2 = { mayS st with pend := st.pend ++ [(x.1, x.2)], wt := st.wt + 1 } := by unfold wrSt; rw [if_neg (by rw [hd]; simp), if_pos ht, if_pos hm]
      have q1 : (wrSt st x.1 x.2).down = false := by rw [hw]; exact may_yes hd hm
      have q2 : (wrSt st x.1 x.2).last.length = n := by rw [hw]; show (mayS st).last.length = n; rw [(mayS_same st).1, hn]
      have q3 : (wrSt st x.1 x.2).pend.length = st.pend.length + 1 := by rw [hw]; simp
      rcases jp_pd n r _ q1 q2 (fun y hy => hin y (by simp [hy])) with h | ⟨h1, h2, h3⟩
      · exact .inl h
      · exact .inr ⟨h1, h2, by rw [q3] at h3; simp only [List.length_cons]; omega⟩
    · have f1 : wrRes st x.1 = 21 := by unfold wrRes; rw [if_neg hd', if_pos ht, if_neg hm]
      rw [f1, if_neg (by omega), if_neg (by omega)]
      have hw : wrSt st x.1 x.2 = mayS st := by unfold wrSt; rw [if_neg (by rw [hd]; simp), if_pos ht, if_neg hm]
      rw [hw]
      exact .inr ⟨by omega, may_no hm, by rw [(mayS_same st).2.1]; simp⟩
theorem seq_pd (n : Nat) : ∀ (ls : List (List Wr)) (st : DSt), st.down = false → st.last.length = n → (∀ l ∈ ls, inL n l ∧ l.length ≤ 8) →
    ((seqS st ls).down = false ∧ (seqS st ls).pend.length ≤ st.pend.length) ∨ ((seqS st ls).down = true ∧ (seqS st ls).pend.length ≤ st.pend.length + 8)
  | [], st, hd, _, _ => .inl ⟨hd, Nat.le_refl _⟩
  | l :: r, st, hd, hn, hin => by
    obtain ⟨h1, h8⟩ := hin l (by simp)
    simp only [seqS]
    rcases jp_pd n l st hd hn h1 with ⟨a1, a2, a3, a4⟩ | ⟨a1, a2, a3⟩
    · rw [if_pos a1]
      rcases seq_pd n r _ a3 a4 (fun y hy => hin y (by simp [hy])) with ⟨b1, b2⟩ | ⟨b1, b2⟩
      · exact .inl ⟨b1, by omega⟩
      · exact .inr ⟨b1, by omega⟩
    · rw [if_neg a1]
      exact .inr ⟨a2, by omega⟩
/-- After k acts: at most k writes wait, and eight more where the device went down. -/
def Iv (k : Nat) (st : DSt) : Prop := (st.down = false → st.pend.length ≤ k) ∧ st.pend.length ≤ k + 8
theorem Iv.of {k : Nat} {s : DSt} {p : Nat} (hp : p ≤ k) (h : (s.down = false ∧ s.pend.length ≤ p) ∨ (s.down = true ∧ s.pend.length ≤ p + 8)) : Iv k s := by
  rcases h with ⟨h1, h2⟩ | ⟨h1, h2⟩
  · exact ⟨fun _ => by omega, by omega⟩
  · exact ⟨fun h => (by rw [h1] at h; cases h), by omega⟩
theorem Iv.up {k : Nat} {s : DSt} (h : Iv k s) : Iv (k + 1) s := ⟨fun hd => by have := h.1 hd; omega, by have := h.2; omega⟩
theorem clr_in {n : Nat} (h0 : 64 ≤ n) : inL n clrL ∧ clrL.length ≤ 8 := ⟨fun x hx => by simp [clrL] at hx; subst hx; exact ⟨by simp, by show (2 : Int) < _; omega⟩, by simp [clrL]⟩
theorem bat_in {n : Nat} {l : List Wr} (hb : batB (n : Int) l = true) : inL n l ∧ l.length ≤ 8 := ⟨fun x hx => (bat_pos hb x hx).1, bat_eight hb⟩
theorem jl_in {n : Nat} {l : List Wr} (h0 : 64 ≤ n) (h8 : l.length ≤ 8) : inL n (jlW l) ∧ (jlW l).length ≤ 8 := ⟨fun x hx => by
    obtain ⟨i, hi, rfl⟩ := jlW_mem hx
    exact ⟨by simp only; omega, by simp only; omega⟩, by rw [jlW_len]; exact h8⟩
theorem op_iv {st : DSt} {m : Nat} (h0 : 64 ≤ st.last.length) (h1 : st.last.length ≤ 1024) (h : Iv m st) (kd k : Int) (ol : List Wr) (bs : List Bool) (v : Sc) : Iv (m + 1) (opS st kd k ol bs v) := by
  unfold opS
  by_cases hd : st.down = true
  · split
    · unfold doS
      split
      · rw [seq_down hd]; exact h.up
      · exact h.up
    · split
      · unfold repS; rw [if_pos hd]; exact h.up
      · split
        · rw [(jp_down hd clrL).1]; exact h.up
        · split
          · exact ⟨fun q => h.up.1 q, h.up.2⟩
          · split
            · exact ⟨fun _ => by simp [reSt], by simp [reSt]⟩
            · split
              · unfold wrSt; rw [if_pos hd]; exact h.up
              · exact h.up
  · have hd : st.down = false := by simpa using hd
    have hp := h.1 hd
    split
    · unfold doS
      rcases mPut_bat h0 h1 ol with ⟨e1, e2, e3⟩ | ⟨e1, e2⟩
      · rw [if_pos (show mPutE ol (dnI st) = 0 from e1)]
        have hb := bat_in e3
        refine (Iv.of hp (seq_pd _ _ st hd rfl fun l hl => ?_)).up
        simp only [doL, List.mem_cons, List.not_mem_nil, or_false] at hl
        rcases hl with rfl | rfl | rfl | rfl
        · exact jl_in h0 hb.2
        · exact ⟨fun x hx => by simp at hx; subst hx; exact ⟨by simp, by show (2 : Int) < _; omega⟩, by simp⟩
        · exact hb
        · exact clr_in h0
      · rw [if_neg (show ¬ mPutE ol (dnI st) = 0 by show ¬ mPutE ol (st.last.length : Int) = 0; omega)]
        exact h.up
    · split
      · unfold repS
        rw [if_neg (by rw [hd]; simp)]
        refine (Iv.of (s := seqS (rd9 st) (rpLs st)) hp (seq_pd st.last.length _ (rd9 st) hd rfl fun l hl => ?_)).up
        unfold rpLs at hl
        split at hl
        · rename_i h2
          have hb := dK_two h2
          rw [over_len] at hb
          simp only [List.mem_cons, List.not_mem_nil, or_false] at hl
          rcases hl with rfl | rfl
          · exact bat_in hb
          · exact clr_in h0
        · split at hl
          · simp only [List.mem_cons, List.not_mem_nil, or_false] at hl
            subst hl
            exact clr_in h0
          · simp at hl
      · split
        · rcases jp_pd _ clrL st hd rfl (clr_in h0).1 with ⟨a1, a2, a3, a4⟩ | ⟨a1, a2, a3⟩
          · exact ⟨fun _ => by omega, by omega⟩
          · refine ⟨fun q => (by rw [a2] at q; cases q), ?_⟩
            have : clrL.length = 1 := rfl
            omega
        · split
          · exact ⟨fun q => h.up.1 q, h.up.2⟩
          · split
            · exact ⟨fun _ => by simp [reSt], by simp [reSt]⟩
            · split
              · have := (wr_gr st 2 v).1
                exact ⟨fun _ => by omega, by omega⟩
              · exact h.up
end Go.Proofs.Ytpckdkgbeemalaa
