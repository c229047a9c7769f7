import Derived.Test.YtpckdkgbeemalaaQRefW
import Derived.Test.YtpckdkgbeemalaaQJouM
import Derived.Test.YtpckdkgbeemalaaQMar3
namespace Go.Proofs.Ytpckdkgbeemalaa
open Go.RowKit

/-! assayref10's put, Clear -/
theorem rg_later10 {w w1 : World} {b o : Nat} {s : Sc} (hb : Below w.heap.size w w1) (hk : rgOk w b o 64 = true) (hv : rg w b o 64 = secA s) : rgOk w1 b o 64 = true ∧ rg w1 b o 64 = secA s := by
  have h1 := rangeAt_rg hk
  rw [hv] at h1
  have h2 := rg_of (k := 64) (range_later h1 hb) (by simp)
  rw [Array.toArray_toList] at h2
  exact h2
theorem IsK.keeps10 {α : Type} {E : EK α} {w w' : World} {G : List Nat} {x : Option Addr} {n c : Nat} {l : List α} (h : IsK E w (.slice x n c) l) (hK : Keep G w w') (hx : l ≠ [] → ∀ a, x = some a → a.block ∉ G) : IsK E w' (.slice x n c) l := by
  obtain ⟨y, d, he, hc, hd⟩ := h
  refine ⟨y, d, he, hc, fun i e hi => ?_⟩
  simp only [Value.slice.injEq] at he
  obtain ⟨rfl, -, -⟩ := he
  obtain ⟨b, o, rfl, h1, h2⟩ := hd i e hi
  exact ⟨b, o, rfl, Nat.lt_of_lt_of_le h1 hK.size, range_block h2 (hK.block b h1 (hx (by intro h0; rw [h0] at hi; simp at hi) _ rfl))⟩
/-- A write's own bounds. -/
theorem wr_sm (st : DSt) (a : Int) (s : Sc) : (wrSt st a s).pend.length ≤ st.pend.length + 1 ∧ (wrSt st a s).wt ≤ st.wt + 1 ∧ (wrSt st a s).fl = st.fl ∧ (wrSt st a s).rd = st.rd := by
  obtain ⟨e1, e2, e3, e4, e5⟩ := mayS_same st
  unfold wrSt
  split
  · exact ⟨by omega, by omega, rfl, rfl⟩
  · split
    · split
      · refine ⟨by simp, by simp, e5, e3⟩
      · exact ⟨by rw [e2]; omega, by rw [e4]; omega, e5, e3⟩
    · exact ⟨by omega, by omega, rfl, rfl⟩
theorem fl_sm (st : DSt) : (flSt st).pend.length ≤ st.pend.length ∧ (flSt st).wt = st.wt ∧ (flSt st).fl ≤ st.fl + 1 ∧ (flSt st).rd = st.rd := by
  obtain ⟨e1, e2, e3, e4, e5⟩ := mayS_same st
  unfold flSt
  split
  · exact ⟨by omega, rfl, by omega, rfl⟩
  · split
    · exact ⟨by simp, e4, by simp, e3⟩
    · exact ⟨by rw [e2]; omega, e4, by rw [e5]; omega, e3⟩
theorem jp_sm (l : List Wr) : ∀ st, (jpS st l).pend.length ≤ st.pend.length + l.length ∧ (jpS st l).wt ≤ st.wt + l.length ∧ (jpS st l).fl ≤ st.fl + 1 ∧ (jpS st l).rd = st.rd := by
  induction l with
  | nil => intro st; have := fl_sm st; exact ⟨by simpa [jpS] using this.1, by simpa [jpS] using Nat.le_of_eq this.2.1, this.2.2.1, this.2.2.2⟩
  | cons x r ih =>
    intro st
    obtain ⟨a1, a2, a3, a4⟩ := wr_sm st x.1 x.2
    simp only [jpS, List.length_cons]
    split
    · obtain ⟨b1, b2, b3, b4⟩ := ih (wrSt st x.1 x.2)
      exact ⟨by omega, by omega, by omega, by omega⟩
    · exact ⟨by omega, by omega, by omega, by omega⟩
theorem jp_zero : ∀ (l : List Wr) (st : DSt), jpR st l = 0 → (jpS st l).pend.length = 0
  | [], st, h => by
    simp only [jpR] at h
    simp only [jpS]
    unfold flRes at h
    unfold flSt
    split
    · rename_i hd; rw [if_pos hd] at h; omega
    · rename_i hd
      rw [if_neg hd] at h
      split
      · rfl
      · rename_i hm; rw [if_neg hm] at h; omega
  | x :: r, st, h => by
    simp only [jpR] at h
    simp only [jpS]
    split
    · rename_i h0; rw [if_pos h0] at h; exact jp_zero r _ h
    · rename_i h0; rw [if_neg h0] at h; exact absurd h h0
def RefPost (w : World) (B r : Nat) (F : List Nat) (st' : DSt) (w' : World) : Prop := ∃ F', RefIs w' B r st' F' ∧ (∀ q ∈ F', q ∈ F ∨ w.heap.size ≤ q) ∧ Keep F w w'
theorem RefPost.trans {w w1 w2 : World} {B r : Nat} {F : List Nat} {st2 : DSt} {F1 : List Nat} (k2 : ∀ q ∈ F1, q ∈ F ∨ w.heap.size ≤ q) (k3 : Keep F w w1) (h : RefPost w1 B r F1 st2 w2) : RefPost w B r F st2 w2 := by
  obtain ⟨F2, a1, a2, a3⟩ := h
  refine ⟨F2, a1, fun q hq => ?_, ?_⟩
  · rcases a2 q hq with hq | hq
    · exact k2 q hq
    · right; have := k3.size; omega
  · refine ⟨a3.os.trans k3.os, a3.tape.trans k3.tape, a3.output.trans k3.output, Nat.le_trans k3.size a3.size, fun k hk hF => ?_⟩
    rw [a3.block k (Nat.lt_of_lt_of_le hk k3.size) (fun hm => by
      rcases k2 k hm with h | h
      · exact hF h
      · omega)]
    exact k3.block k hk hF
set_option linter.unusedSimpArgs false in
set_option maxRecDepth 100000 in
set_option maxHeartbeats 1600000 in
theorem rput10_any (l : List Wr) (x : Option Addr) (L c : Nat) (w : World) (B r : Nat) (st : DSt) (F : List Nat) (hL : l.length = L) (hL9 : L ≤ 1000) (hl : IsK wrE w (.slice x L c) l) (hx : l ≠ [] → ∀ a, x = some a → a.block ∉ F) (h : RefIs w B r st F) (hp9 : st.pend.length + L ≤ 1099511627776) (hw9 : st.wt ≤ 2305843009213694952) (hf9 : st.fl ≤ 2305843009213694952) :
    Calls Try.prog 63 #[.pointer (some ⟨r, 0, none⟩), .slice x L c] w fun e w' => e = .returned (.int .i64 (jpR st l)) ∧ RefPost w B r F (jpS st l) w' := by
  obtain ⟨RE, hRE⟩ : ∃ q, jpR st l = q := ⟨_, rfl⟩
  obtain ⟨RS, hRS⟩ : ∃ q, jpS st l = q := ⟨_, rfl⟩
  have HRE : Hid (jpR st l = RE) := hRE
  have HRS : Hid (jpS st l = RS) := hRS
  rw [hRE, hRS]
  clear hRE hRS
  go_enter Try.func63, Try.ntmps63
  go_wp2_with fail
  go_loopw [5] (fun iv wr => ∃ (i : Nat) (sti : DSt) (Fi : List Nat), i ≤ L ∧ iv = .int .i64 i ∧ RefIs wr B r sti Fi ∧ (∀ q ∈ Fi, q ∈ F ∨ w.heap.size ≤ q) ∧ Keep F w wr ∧ jpR sti (l.drop i) = RE ∧ jpS sti (l.drop i) = RS ∧ sti.pend.length ≤ st.pend.length + i ∧ sti.wt ≤ st.wt + i ∧ sti.fl = st.fl) (fun iv _ => L - (intOf iv).toNat)
  case atStart => exact ⟨0, st, F, by omega, rfl, h, fun q hq => .inl hq, Keep.refl _ _, HRE.out, HRS.out, by omega, by omega, rfl⟩
  case round =>
    clear h
    obtain ⟨i, sti, Fi, hi, rfl, hR, k2, k3, e1, e2, b1, b2, b3⟩ := hrel
    by_cases hlt : i < L
    · have hlw := hl.keeps10 k3 hx
      have hg9 : l[i]? = some (atW l i, dtW l i) := by
        have := atW_get (List.getElem?_eq_getElem (show i < l.length by omega))
        rw [this.1, this.2]
        exact List.getElem?_eq_getElem (by omega)
      obtain ⟨bl, of, rfl, hbl, hrw⟩ := hlw.at i _ hg9
      rw [wrE_k] at hrw
      have cI := (wr_at hrw).1
      have hdt := rg_of (k := 64) (w := wr) (b := bl) (o := of + i * 65 + 1) (cs := (secA (dtW l i)).toList) (fun j u hu => by
        rw [wrE_enc, wrA_list] at hrw
        have := hrw (j + 1) u (by rw [List.getElem?_cons_succ]; exact hu)
        rwa [show of + i * 65 + (j + 1) = of + i * 65 + 1 + j by omega] at this) (by simp)
      obtain ⟨rk, rv⟩ := hdt
      rw [Array.toArray_toList] at rv
      have hdr : l.drop i = (atW l i, dtW l i) :: l.drop (i + 1) := by
        rw [List.drop_eq_getElem_cons (by omega)]
        rw [(List.getElem?_eq_some_iff.1 hg9).2]
      obtain ⟨dt, hdte⟩ : ∃ q, dtW l i = q := ⟨_, rfl⟩
      rw [hdte] at rv hdr
      rw [hdr] at e1 e2
      have FK : Hid ((i : Int) < (L : Int)) := by show _ < _; omega
      have HE1 : Hid (jpR sti ((atW l i, dt) :: l.drop (i + 1)) = RE) := e1
      have HE2 : Hid (jpS sti ((atW l i, dt) :: l.drop (i + 1)) = RS) := e2
      clear e1 e2 hdr hg9 hrw hdte hlw
      have hlt' : (i : Int) < (L : Int) := by omega
      go_upto_region 4 with fail
      clear hlt'
      refine wp_reliesT [Fx (.pointer (some ⟨r, 0, none⟩)), Fx (.slice (some ⟨bl, of, none⟩) L c), Fx (.int .i64 ((i : Int))), Fx (.pointer (some ⟨bl, of + i * 65, none⟩)), Fx (.pointer (some ⟨bl, of + i * 65, none⟩)), Fx (.int .i64 (atW l i)), Fx (.slice (some ⟨bl, of, none⟩) L c), Fx (.int .i64 ((i : Int))), Fx (.pointer (some ⟨bl, of + i * 65, none⟩)), Fx (.pointer (some ⟨bl, of + i * 65 + 1, none⟩)), Fx (.agg (secA dt))] (by kernel_rfl) (by kernel_rfl) ?_ ?_ ?_
      · repeat' (first | exact all_nil | apply all_cons)
        all_goals intro v y y' hv hb
        all_goals first | exact Fx_mono _ _ _ _ hv hb
      · refine ⟨?_, ?_, ?_, ?_, ?_, ?_, ?_, ?_, ?_, ?_, ?_, trivial⟩
        all_goals
          intro ρ x hp ρc ρg ρf ho hd
          have o0 : ρ (.tmp 0) = .pointer (some ⟨r, 0, none⟩) := ho 0 rfl
          have o1 : ρ (.tmp 1) = .slice (some ⟨bl, of, none⟩) L c := ho 1 rfl
          have o5 : ρ (.tmp 5) = .int .i64 ((i : Int)) := ho 5 rfl
          clear ho
          have kc := cell_later hp cI
          obtain ⟨kk1, kk2⟩ := rg_later10 hp rk rv
          simp only [depsR, depR, slotR, Fx, List.getElem?_cons_succ, List.getElem?_cons_zero, Region.binds, forall_const] at hd
          simp only [guardR]
          go_split_ands
        · go_simp
        · go_simp
        · go_simp
        · have hq := FK.out
          go_simp
        · go_simp
        · go_simp
        · go_simp
        · go_simp
        · have hq := FK.out
          go_simp
        · go_simp
        · go_simp
      · intro vs x1 hp hw
        simp only [owed, Fx] at hw
        obtain ⟨e0, e1, e2, e3, e4, e5, e6, e7, e8, e9, e10, -⟩ := hw
        simp only [List.length_cons, List.length_nil, List.take_succ_cons, List.take_zero, List.drop_succ_cons, List.drop_zero, asg, List.cons_append, List.nil_append, e0, e1, e2, e3, e4, e5, e6, e7, e8, e9, e10]
        clear e0 e1 e2 e3 e4 e5 e6 e7 e8 e9 e10
        have hR1 := hR.later hp
        have k31 := k3.trans (Keep.of_below hp)
        have hWr := refWrite_any x1 B r sti Fi (atW l i) dt hR1 (by omega) (by omega)
        obtain ⟨s1, s2, s3, s4⟩ := wr_sm sti (atW l i) dt
        obtain ⟨we, hwe⟩ : ∃ q, wrRes sti (atW l i) = q := ⟨_, rfl⟩
        have hpz := k31.size
        clear hR k3 hp rk rv cI
        go_wp2_with fail
        go_at_call 49
        refine hWr.mono ?_
        rintro e w2 ⟨rfl, F2, a1, a2, a3⟩
        rw [hwe]
        have k32 : Keep F w w2 := (RefPost.trans k2 k31 ⟨F2, a1, a2, a3⟩).elim fun F9 h9 => h9.2.2
        have k22 : ∀ q ∈ F2, q ∈ F ∨ w.heap.size ≤ q := fun q hq => by
          rcases a2 q hq with hq | hq
          · exact k2 q hq
          · right; omega
        have H1 := HE1.out
        have H2 := HE2.out
        unfold jpR at H1
        unfold jpS at H2
        simp only [hwe] at H1 H2
        clear hWr a2 a3 hR1 k31 HE1 HE2
        by_cases h0 : we = 0
        · subst h0
          rw [if_pos rfl] at H1 H2
          have H : Hid (RefIs w2 B r (wrSt sti (atW l i) dt) F2 ∧ (∀ q ∈ F2, q ∈ F ∨ w.heap.size ≤ q) ∧ Keep F w w2 ∧ jpR (wrSt sti (atW l i) dt) (l.drop (i + 1)) = RE ∧ jpS (wrSt sti (atW l i) dt) (l.drop (i + 1)) = RS ∧ (wrSt sti (atW l i) dt).pend.length ≤ st.pend.length + (i + 1) ∧ (wrSt sti (atW l i) dt).wt ≤ st.wt + (i + 1) ∧ (wrSt sti (atW l i) dt).fl = st.fl) := ⟨a1, k22, k32, H1, H2, by omega, by omega, by omega⟩
          clear a1 k22 k32 H1 H2
          go_wp2_with fail
          go_roundw
          case rel => exact ⟨i + 1, wrSt sti (atW l i) dt, F2, by omega, by go_num, H.out⟩
          case measure => simp [intOf]; omega
        · rw [if_neg h0] at H1 H2
          have HP : Hid (RefPost w B r F RS w2) := ⟨F2, by rw [← H2]; exact a1, k22, k32⟩
          have HW : Hid (we = RE) := H1
          clear a1 k22 k32 H1 H2
          go_wp2_with fail
          go_ret
          exact ⟨by rw [HW.out]; rfl, HP.out⟩
    · obtain rfl : L = i := by omega
      have hlt' : ¬ (L : Int) < (L : Int) := by omega
      rw [show l.drop L = [] from List.drop_of_length_le (by omega)] at e1 e2
      have hFl := refFlush_any wr B r sti Fi hR (by omega) (by omega)
      obtain ⟨fe, hfe⟩ : ∃ q, flRes sti = q := ⟨_, rfl⟩
      rw [hfe] at hFl
      have HF : Hid (fe = RE) := by show _ = _; rw [← hfe]; exact e1
      go_wp2_with fail
      go_at_call 81
      refine hFl.mono ?_
      rintro e w2 ⟨rfl, a1, a3⟩
      have HP : Hid (RefPost w B r F RS w2) := RefPost.trans k2 k3 ⟨Fi, by rw [← e2]; exact a1, fun q hq => .inl hq, a3⟩
      clear hFl a1 a3 hR k2 k3 e1 e2 hfe
      go_wp2_with fail
      go_ret
      exact ⟨by rw [HF.out]; rfl, HP.out⟩
set_option linter.unusedSimpArgs false in
theorem rclr10_any (w : World) (B r : Nat) (st : DSt) (F : List Nat) (h : RefIs w B r st F) (hp9 : st.pend.length + 1 ≤ 1099511627776) (hw9 : st.wt ≤ 2305843009213694952) (hf9 : st.fl ≤ 2305843009213694952) :
    Calls Try.prog 45 #[.pointer (some ⟨r, 0, none⟩)] w fun e w' => e = .returned (.int .i64 (jpR st clrL)) ∧ RefPost w B r F (jpS st clrL) w' := by
  have b1 := below_alloc w (.cells (wrA (2, secZ)) 54)
  have hI : IsK wrE (w.alloc (.cells (wrA (2, secZ)) 54)) (.slice (some ⟨w.heap.size, 0, none⟩) 1 1) clrL := by
    have := (OwnK.lit1 wrE_ok w (2, secZ)).isK wrE_ok
    rw [wrE_arr] at this
    exact this
  have hP := rput10_any clrL (some ⟨w.heap.size, 0, none⟩) 1 1 (w.alloc (.cells (wrA (2, secZ)) 54)) B r st F rfl (by omega) hI (fun _ a ha hm => by
    cases ha
    have := (h.lt _ hm).2
    simp at this) (h.later b1) hp9 hw9 hf9
  clear hI
  go_enter Try.func45, Try.ntmps45
  go_wp2_with fail
  go_at_call 63
  refine hP.mono ?_
  rintro e w2 ⟨rfl, hq⟩
  have HP : Hid (RefPost w B r F (jpS st clrL) w2) := RefPost.trans (fun q hq => .inl hq) (Keep.of_below b1) hq
  clear hP hq
  go_wp2_with fail
  go_ret
  exact ⟨rfl, HP.out⟩
end Go.Proofs.Ytpckdkgbeemalaa
