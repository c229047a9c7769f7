import Derived.Test.YtadnfiikfhdphaaQDev5
import Derived.Test.YtadnfiikfhdphaaQRelk
namespace Go.Proofs.Ytadnfiikfhdphaa
open Go.RowKit

/-! assayref05's Write -/
theorem kokp9 {G : List Nat} : KOk (Keep G) := ⟨fun h => Keep.of_below h, fun h k => h.trans k⟩
theorem newWr (w : World) (x : Wr) : (w.alloc (.cells (wrA x) 77)).rangeAt w.heap.size 0 (wrE.enc x) := fun j u hu => by
  rw [wrE_enc, Array.getElem?_toList] at hu
  rw [Nat.zero_add, World.cell?_alloc_at _ _ _ _ rfl]; exact hu
def WrPost (w : World) (B r : Nat) (st : DSt) (F : List Nat) (a : Int) (s : Sc) (e : Ending) (w' : World) : Prop := e = .returned (.int .i64 (wrRes st a)) ∧ ∃ F', RefIs w' B r (wrSt st a s) F' ∧ (∀ q ∈ F', q ∈ F ∨ w.heap.size ≤ q) ∧ Keep F w w'
set_option linter.unusedSimpArgs false in
set_option maxRecDepth 100000 in
set_option maxHeartbeats 16000000 in
theorem refWrite_any (w : World) (B r : Nat) (st : DSt) (F : List Nat) (a : Int) (s : Sc) (h : RefIs w B r st F) (hp9 : st.pend.length ≤ 1099511627776) (hf : st.wt < 4611686018427387904) :
    Calls Try.prog 27 #[.pointer (some ⟨r, 0, none⟩), .int .i64 a, .agg (secA s)] w fun e w' => WrPost w B r st F a s e w' := by
  have h9 := h
  have h8 := h.ok
  obtain ⟨vl, vp, h1, h2, h3, h4, h5, h6, h7, -⟩ := h
  have b1 := below_alloc w (.cells (secA s) 27)
  have h1a := h1.kept (b1.block r h1.lt)
  have h9a := h9.later b1
  obtain ⟨-, -, -, c3, -⟩ := h1a.cells
  have same1 : wrRes st a = 21 ∨ wrRes st a = 20 → wrSt st a s = st → ∀ e : Int, wrRes st a = e → WrPost w B r st F a s (.returned (.int .i64 e)) (w.alloc (.cells (secA s) 27)) := fun _ hs e he => ⟨by rw [he], F, by rw [hs]; exact h9a, fun q hq => .inl hq, Keep.of_below b1⟩
  by_cases hd : st.down = true
  · rw [hd] at c3
    have HP : Hid _ := same1 (.inl (by unfold wrRes; rw [if_pos hd])) (by unfold wrSt; rw [if_pos hd]) 21 (by unfold wrRes; rw [if_pos hd])
    clear h1 h2 h3 h5 h6 h7 h9 h1a h9a b1 same1
    go_enter Try.func27, Try.ntmps27
    go_wp2
    go_ret
    exact HP.out
  · have hd' : st.down = false := by simpa using hd
    rw [hd'] at c3
    obtain ⟨xl, cl, rfl⟩ := (h2.isK secE_ok).len
    obtain ⟨xp, cp, rfl⟩ := (h3.isK wrE_ok).len
    have ht := refThere_any r _ _ st xl cl a (w.alloc (.cells (secA s) 27)) h1a rfl
    obtain ⟨tb, htb⟩ : ∃ b, thereB st a = b := ⟨_, rfl⟩
    rw [htb] at ht
    cases tb with
    | false =>
      have HP : Hid _ := same1 (.inr (by unfold wrRes; rw [if_neg hd, htb]; rfl)) (by unfold wrSt; rw [if_neg hd, htb]; rfl) 20 (by unfold wrRes; rw [if_neg hd, htb]; rfl)
      clear h1 h2 h3 h5 h6 h7 h9 h1a h9a b1 same1
      go_enter Try.func27, Try.ntmps27
      go_wp2_with fail
      refine ht.mono ?_
      rintro e w' ⟨rfl, rfl⟩
      go_wp2
      go_ret
      exact HP.out
    | true =>
      have hta : 0 ≤ a ∧ a < (st.last.length : Int) := by unfold thereB at htb; simpa using htb
      have hm := refMay_any r _ _ st (w.alloc (.cells (secA s) 27)) h1a ⟨h8.l0, h8.l1⟩
      have hsl := mayS_left st h8
      obtain ⟨e1, e2, e3, e4, e5⟩ := mayS_same st
      obtain ⟨mb, hmb⟩ : ∃ b, mayB st = b := ⟨_, rfl⟩
      rw [hmb] at hm
      have hrw := h1.lt
      have hKr : ∀ Y, (w.alloc (.cells (secA s) 27)).grownBy Y (some r) → Keep F w Y := fun Y hg => (Keep.of_below b1).trans (Keep.of_grown hg (fun q hq => by cases hq; exact h4))
      have hL : ∀ Y, (w.alloc (.cells (secA s) 27)).grownBy Y (some r) → OwnK secE Y B (.slice xl st.last.length cl) st.last := fun Y hg => (h2.keep b1).keeps (Keep.of_grown hg (F := [r]) (fun q hq => by cases hq; simp)) (fun q hq => by simpa using (h5 q hq).2.1)
      have hP : ∀ Y, (w.alloc (.cells (secA s) 27)).grownBy Y (some r) → OwnK wrE Y B (.slice xp st.pend.length cp) st.pend := fun Y hg => (h3.keep b1).keeps (Keep.of_grown hg (F := [r]) (fun q hq => by cases hq; simp)) (fun q hq => by simpa using (h6 q hq).2)
      cases mb with
      | false =>
        have HP : Hid (∀ Y, RefRow Y r (.slice xl st.last.length cl) (.slice xp st.pend.length cp) (mayS st) → (w.alloc (.cells (secA s) 27)).grownBy Y (some r) → WrPost w B r st F a s (.returned (.int .i64 21)) Y) := fun Y hr hg => by
          refine ⟨by unfold wrRes; rw [if_neg hd, htb, hmb]; rfl, F, ?_, fun q hq => .inl hq, hKr Y hg⟩
          have e : wrSt st a s = mayS st := by unfold wrSt; rw [if_neg hd, htb, hmb]; rfl
          rw [e]
          exact ⟨_, _, hr, by rw [e1]; exact hL Y hg, by rw [e2]; exact hP Y hg, h4, h5, h6, fun q hq => ⟨(h7 q hq).1, Nat.lt_of_lt_of_le (h7 q hq).2 (Nat.le_trans b1.size hg.size)⟩, ⟨by rw [e1, e2]; exact h8.at_, by rw [e1]; exact h8.lo, by rw [e1]; exact h8.hi, hsl.1, hsl.2⟩⟩
        clear h1 h2 h3 h5 h6 h7 h9 h1a h9a b1 same1 hKr hL hP
        go_enter Try.func27, Try.ntmps27
        go_wp2_with fail
        refine ht.mono ?_
        rintro e w' ⟨rfl, rfl⟩
        go_wp2_with fail
        refine hm.mono ?_
        rintro e Y ⟨rfl, hr, hg⟩
        have HQ : Hid _ := HP.out Y hr hg
        clear hm hr hg HP
        go_wp2
        go_ret
        exact HQ.out
      | true =>
        have hBw : B ≤ w.heap.size := by have := h7 r h4; omega
        have hpr : ∀ q, (Value.slice xp st.pend.length cp).ownBlock = some q → q ∈ F ∧ q ≠ r ∧ q < w.heap.size := fun q hq => ⟨(h6 q hq).1, (h6 q hq).2, (h7 q (h6 q hq).1).2⟩
        have hlb : ∀ q, (Value.slice xl st.last.length cl).ownBlock = some q → q ∈ F ∧ q ≠ r ∧ (Value.slice xp st.pend.length cp).ownBlock ≠ some q := h5
        have HF7 : Hid _ := h7
        have HS0 := ScR.new w s 27
        have HSC : Hid (∀ Y, (w.alloc (.cells (secA s) 27)).grownBy Y (some r) → ScR Y w.heap.size s) := fun Y hg => by
          have hb := hg.block w.heap.size (by simp) (fun e => by cases e; omega)
          unfold ScR rowOk rowAt at *
          rw [hb]; exact HS0
        have HL : Hid _ := hL
        have HPd : Hid _ := hP
        have HKR : Hid _ := hKr
        have hsz1 : w.heap.size + 1 = (w.alloc (.cells (secA s) 27)).heap.size := by simp
        clear h1 h2 h3 h5 h6 h7 h9 h1a h9a b1 same1 HS0 hL hP hKr
        go_enter Try.func27, Try.ntmps27
        go_wp2_with fail
        refine ht.mono ?_
        rintro e w' ⟨rfl, rfl⟩
        go_wp2_with fail
        refine hm.mono ?_
        rintro e Y ⟨rfl, hr, hg⟩
        clear hm ht
        have hSc := HSC.out Y hg
        have hPY := HPd.out Y hg
        have hLY := HL.out Y hg
        have hKY := HKR.out Y hg
        have hYs := hg.size
        obtain ⟨-, k1, -⟩ := hr.cells
        obtain ⟨gz, hgz⟩ : ∃ g, w.heap.size = g := ⟨_, rfl⟩
        have HGZ : Hid (w.heap.size = gz) := hgz
        rw [hgz] at hSc
        have hSc9 : Hid (ScR Y gz s) := hSc
        have hgzY : gz < Y.heap.size := by omega
        have hBY : B ≤ Y.heap.size := by omega
        have hrY := hr.lt
        obtain ⟨np, hnp⟩ : ∃ n, st.pend.length = n := ⟨_, rfl⟩
        obtain ⟨n, hn⟩ : ∃ n, st.last.length = n := ⟨_, rfl⟩
        rw [hn, hnp] at hr
        rw [hn] at hLY hlb hta
        rw [hnp] at hPY hp9 hpr hlb k1
        go_upto_region 7 with fail
        try simp only [hgz]
        clear hgz
        refine wp_reliesK (kokp9 (G := (Value.slice xp np cp).ownBlock.toList)) 9 [1, 2, 3, 4, 5, 6, 7, 8] [Fx (.pointer (some ⟨r, 0, none⟩)), Fx (.pointer (some ⟨r, 0, none⟩)), Fx (.pointer (some ⟨r, 0, none⟩)), Fx (.pointer (some ⟨r, 1, none⟩)), Fx (.slice xp np cp), Fx (.int .i64 a), Fx (.agg (secA s)), Fx (.agg (wrA (a, s))), fun v x => ∃ y, v = .slice (some ⟨y, 0, none⟩) 1 1 ∧ x.rangeAt y 0 (wrE.enc (a, s)) ∧ Y.heap.size ≤ y ∧ y < x.heap.size, fun v x => ∃ g' c', v = .slice (some ⟨g', 0, none⟩) (np + 1) c' ∧ OwnK wrE x B (.slice (some ⟨g', 0, none⟩) (np + 1) c') (st.pend ++ [(a, s)]) ∧ ((Value.slice xp np cp).ownBlock = some g' ∨ Y.heap.size ≤ g'), Fx (.pointer (some ⟨r, 0, none⟩)), Fx (.pointer (some ⟨r, 1, none⟩))] (by simp) (by kernel_rfl) (by kernel_rfl) (by kernel_rfl) ?_ ?_ ?_ ?_
        · repeat' (first | exact all_nil | apply all_cons)
          all_goals intro v y y' hv hb
          all_goals first | exact Fx_mono _ _ _ _ hv hb | (obtain ⟨y9, h1, h2, h3, h4⟩ := hv; exact ⟨y9, h1, range_later h2 hb, h3, Nat.lt_of_lt_of_le h4 hb.size⟩) | (obtain ⟨g', c', h1, h2, h3⟩ := hv; exact ⟨g', c', h1, OwnK.keep h2 hb, h3⟩)
        · simp only [List.eraseIdx]
          repeat' (first | exact all_nil | apply all_cons)
          all_goals intro v y y' hv hb
          all_goals first | exact (show Fx _ _ _ from hv) | (obtain ⟨y9, h1, h2, h3, h4⟩ := hv; exact ⟨y9, h1, range_block h2 (hb.block y9 h4 (fun hm => by have := hpr y9 (by simpa using hm); have h99 := HGZ.out; omega)), h3, Nat.lt_of_lt_of_le h4 hb.size⟩)
        · refine ⟨?_, ?_, ?_, ?_, ?_, ?_, ?_, ?_, ?_, ?_, ?_, ?_, trivial⟩
          all_goals
            intro ρ x hk hp ρc ρg ρf ho hd
            first | (replace hp := hp (by decide)) | clear hp
            have o0 : ρ (.tmp 0) = .pointer (some ⟨r, 0, none⟩) := ho 0 rfl
            have o1 : ρ (.tmp 1) = .int .i64 a := ho 1 rfl
            have o5 : ρ (.tmp 5) = .pointer (some ⟨gz, 0, none⟩) := ho 5 rfl
            clear ho
            try (have q1 := cell_later hp k1)
            try (have qs := ScR.kept hSc9.out hp)
            try (have rok := qs.1)
            try (have rat := qs.2)
            simp only [depsR, depR, slotR, Fx, List.getElem?_cons_succ, List.getElem?_cons_zero, Region.binds, forall_const] at hd
            simp only [guardR, Nat.reduceBEq, cond_true, cond_false]
            go_split_ands
          · go_simp
          · go_simp
          · go_simp
          · go_simp
          · go_simp
          · go_simp
          · go_simp
          · go_simp
          · rw [execOp_wrBS]
            simp only [*, run_wrBS, okUpon_value]
            exact ⟨⟨_, rfl, newWr x _, hp.size, by simp⟩, below_alloc _ _⟩
          · have oP := hPY.keep hp
            obtain ⟨⟨y, hy0, hy1, hy2, hy3⟩, hd1⟩ : (∃ y, ρ (.tmp 26) = .slice (some ⟨y, 0, none⟩) 1 1 ∧ x.rangeAt y 0 (wrE.enc (a, s)) ∧ Y.heap.size ≤ y ∧ y < x.heap.size) ∧ ρ (.tmp 22) = .slice xp np cp := by first | exact ⟨hd.2.1, hd.1⟩ | (constructor <;> assumption)
            obtain ⟨g9, c9, x9, hr9, o1, o2, o3, o4⟩ := run_app1K wrE_ok x B y (.slice xp np cp) st.pend (a, s) 56 oP hy1 hy3 (by rw [hnp]; show (np + 1) * 72 ≤ _; omega) (by rw [hnp]; unfold maxLen; omega) (Nat.le_trans hBY hp.size)
            rw [hnp] at hr9 o1
            have hT : wrE.S = 56 := rfl
            rw [hT] at hr9
            rw [BigFrame.execOp_builtin, BigFrame.builtin_append]
            simp only [List.map_toArray, List.map_cons, List.map_nil, hy0, hd1, hr9, Sem.run_bind, Result.andThen_ok, Sem.run_pure, okUponK_value]
            exact ⟨⟨g9, c9, rfl, o1, by rcases o4 with o4 | o4; exact .inl o4; exact .inr (by have := hp.size; omega)⟩, Keep.of_grown o3 (fun q hq => by rw [hq]; simp)⟩
          · go_simp
          · go_simp
        · intro vs w6 hk hw
          simp only [owed, Fx] at hw
          obtain ⟨e0, e1, e2, e3, e4, e5, e6, e7, ⟨y8, e8, -⟩, ⟨g, c2, e9, hO6, hat⟩, e10, e11, -⟩ := hw
          simp only [List.length_cons, List.length_nil, List.take_succ_cons, List.take_zero, List.drop_succ_cons, List.drop_zero, asg, List.cons_append, List.nil_append, e0, e1, e2, e3, e4, e5, e6, e7, e8, e9, e10, e11]
          clear e0 e1 e2 e3 e4 e5 e6 e7 e8 e9 e10 e11
          obtain ⟨n1, hn1⟩ : ∃ m, np + 1 = m := ⟨_, rfl⟩
          rw [hn1] at hO6
          have hGr : ∀ q ∈ (Value.slice xp np cp).ownBlock.toList, q ∈ F ∧ q ≠ r ∧ q < w.heap.size := fun q hq => hpr q (by simpa using hq)
          have hr6 : RefRow w6 r (.slice xl n cl) (.slice xp np cp) (mayS st) := hr.kept (hk.block r hrY (fun hm => (hGr r hm).2.1 rfl))
          have hL6 : OwnK secE w6 B (.slice xl n cl) st.last := hLY.keeps hk (fun q hq hm => (hlb q hq).2.2 (by simpa using hm))
          have f1 := hr6.frozen 1
          obtain ⟨-, k6, -⟩ := hr6.cells
          have hr7 : RefRow (w6.setCell ⟨r, 1, none⟩ (.slice (some ⟨g, 0, none⟩) n1 c2)) r (.slice xl n cl) (.slice (some ⟨g, 0, none⟩) n1 c2) (mayS st) := hr6.set 1 _ rfl
          obtain ⟨-, -, -, -, -, k7, -⟩ := hr7.cells
          rw [e4] at k7
          have f5 := hr7.frozen 5
          obtain ⟨t1, ht1⟩ : ∃ k, st.wt + 1 = k := ⟨_, rfl⟩
          have hr8 : RefRow ((w6.setCell ⟨r, 1, none⟩ (.slice (some ⟨g, 0, none⟩) n1 c2)).setCell ⟨r, 5, none⟩ (.int .i64 (t1 : Int))) r (.slice xl n cl) (.slice (some ⟨g, 0, none⟩) n1 c2) { mayS st with pend := st.pend ++ [(a, s)], wt := t1 } := hr7.set 5 _ rfl
          have hK8 : Keep [r] w6 ((w6.setCell ⟨r, 1, none⟩ (.slice (some ⟨g, 0, none⟩) n1 c2)).setCell ⟨r, 5, none⟩ (.int .i64 (t1 : Int))) := Keep.of_grown (grown_two (grown_cell _ _ _ _) (grown_cell _ _ _ _)) (fun q hq => by cases hq; simp)
          have hgr : g ≠ r := by
            rcases hat with hat | hat
            · exact (hpr g hat).2.1
            · omega
          have hg9 := (World.ownsRow.lt hO6 g rfl)
          have hksz := hk.size
          have HPO : Hid (WrPost w B r st F a s (.returned (.int .i64 0)) ((w6.setCell ⟨r, 1, none⟩ (.slice (some ⟨g, 0, none⟩) n1 c2)).setCell ⟨r, 5, none⟩ (.int .i64 (t1 : Int)))) := by
            have hs0 : wrSt st a s = { mayS st with pend := st.pend ++ [(a, s)], wt := t1 } := by unfold wrSt; rw [if_neg hd, htb, hmb, ht1]; rfl
            have hKF := hKY.trans ((hk.mono (fun q hq => .inl (hGr q hq).1)).trans (hK8.mono (fun q hq => .inl (by simp only [List.mem_singleton] at hq; subst hq; exact h4))))
            have h8s := hK8.size
            have hyz := HGZ.out
            refine ⟨by unfold wrRes; rw [if_neg hd, htb, hmb]; rfl, g :: F, ?_, fun q hq => ?_, hKF⟩
            · rw [hs0]
              refine ⟨_, _, hr8, ?_, ?_, by simp [h4], fun q hq => ?_, fun q hq => ?_, fun q hq => ?_, ⟨?_, ?_, ?_, hsl.1, hsl.2⟩⟩
              · show OwnK secE _ B _ (mayS st).last
                rw [e1]; exact hL6.keeps hK8 (fun q hq => by simpa using (hlb q hq).2.1)
              · exact hO6.keeps hK8 (fun q hq => by cases hq; simpa using hgr)
              · refine ⟨by simp [(hlb q hq).1], (hlb q hq).2.1, fun e => ?_⟩
                cases e
                rcases hat with hat | hat
                · exact (hlb g hq).2.2 hat
                · have := (HF7.out g (hlb g hq).1).2
                  omega
              · cases hq
                exact ⟨by simp, hgr⟩
              · rcases List.mem_cons.1 hq with rfl | hq
                · exact ⟨hg9.1, by omega⟩
                · exact ⟨(HF7.out q hq).1, by have := (HF7.out q hq).2; omega⟩
              · show ∀ x ∈ st.pend ++ [(a, s)], 0 ≤ x.1 ∧ x.1 < ((mayS st).last.length : Int)
                rw [e1]
                intro x hx
                rcases List.mem_append.1 hx with hx | hx
                · exact h8.at_ x hx
                · simp only [List.mem_singleton] at hx; subst hx; rw [hn]; exact hta
              · show 64 ≤ (mayS st).last.length; rw [e1]; exact h8.lo
              · show (mayS st).last.length ≤ 1024; rw [e1]; exact h8.hi
            · rcases List.mem_cons.1 hq with rfl | hq
              · rcases hat with hat | hat
                · exact .inl (hpr _ hat).1
                · right; omega
              · exact .inl hq
          have w5 : IntKind.i64.wrap ((st.wt : Int) + 1) = (t1 : Int) := by rw [IntKind.wrap_i64]; omega
          clear hr6 hL6 hr7 hr8 hK8 hk hO6 hat hg9 hGr ht1 hksz
          rw [hn1]
          clear hn1
          generalize (st.wt : Int) = wt0 at k7 w5
          go_wp2
          go_ret
          exact HPO.out
end Go.Proofs.Ytadnfiikfhdphaa
