import Derived.Test.YtadnfiikfhdphaaQDzF
import Derived.Test.YtadnfiikfhdphaaQRelk
namespace Go.Proofs.Ytadnfiikfhdphaa
open Go.RowKit

/-! Write -/
theorem newAct (x : World) (y : Ac) : (x.alloc (.cells (actA y) 80)).rangeAt x.heap.size 0 (actE.enc y) := fun j u hu => by
  rw [Nat.zero_add, cell_of_row _ _ j _ _ _ (heap_alloc_last x _)]
  rw [actE_enc, Array.getElem?_toList] at hu; exact hu
theorem kokp {G : List Nat} : KOk (Keep G) := ⟨fun h => Keep.of_below h, fun h k => h.trans k⟩
theorem wr_cases (st : DSt) (a : Int) (s : Sc) : (reachI st a ≠ 0 ∧ wrRes st a = reachI st a ∧ wrSt st a s = st) ∨ (reachI st a = 0 ∧ flRes st = 21 ∧ wrRes st a = 21 ∧ wrSt st a s = begS st) ∨ (reachI st a = 0 ∧ flRes st = 0 ∧ wrRes st a = 0 ∧ wrSt st a s = { begS st with pend := st.pend ++ [(a, s)], wt := st.wt + 1 } ∧ 0 ≤ a ∧ a < (st.last.length : Int)) := by
  unfold reachI wrRes wrSt flRes begS
  by_cases hd : st.down = true
  · simp [hd]
  · cases ht : thereB st a
    · simp [hd]
    · unfold thereB at ht
      simp only [decide_eq_true_eq] at ht
      cases mayB st <;> simp [hd, ht]
set_option linter.unusedSimpArgs false in
set_option maxRecDepth 100000 in
set_option maxHeartbeats 1600000 in
theorem devWrite (w : World) (d : Value) (st : DSt) (F R : List Nat) (a : Int) (s : Sc) (h : DevIs w d st F R) (hp9 : st.pend.length ≤ 1099511627776) (hwt : st.wt < 4611686018427387904) :
    Calls Try.prog 16 #[d, .int .i64 a, .agg (secA s)] w fun e w' => e = .returned (.int .i64 (wrRes st a)) ∧ (∃ F' R', DevIs w' d (wrSt st a s) F' R' ∧ (∀ q ∈ F', q ∈ F ∨ w.heap.size ≤ q) ∧ (∀ q ∈ R', q ∈ R ∨ w.heap.size ≤ q) ∧ Keep F w w') ∧ (wrRes st a = 20 → Below w.heap.size w w') := by
  obtain ⟨r, vl, vp, ps, sp, rfl, h⟩ := h
  obtain ⟨xl, cl, rfl⟩ := (h.last.isK secE_ok).len
  have bA := below_alloc w (.cells #[.int .i64 a] 3)
  have bS := below_alloc (w.alloc (.cells #[.int .i64 a] 3)) (.cells (secA s) 27)
  have b0 : Below w.heap.size w ((w.alloc (.cells #[.int .i64 a] 3)).alloc (.cells (secA s) 27)) := bA.trans (bS.mono bA.size)
  have kA : ((w.alloc (.cells #[.int .i64 a] 3)).alloc (.cells (secA s) 27)).cell? ⟨w.heap.size, 0, none⟩ = some (.int .i64 a) := cell_later bS (cell_of_row _ _ 0 _ _ _ (heap_alloc_last w _))
  have kS := ScR.new (w.alloc (.cells #[.int .i64 a] 3)) s 27
  have hsz : (w.alloc (.cells #[.int .i64 a] 3)).heap.size = w.heap.size + 1 := by simp
  rw [hsz] at kS
  have h0 := h.keeps (G := []) (Keep.of_below b0) (fun _ _ => by simp)
  have hRe := reach_any _ r _ vp sp st xl cl a h0.row rfl
  obtain ⟨e1, e2, e3, e4, e5⟩ := begS_same st
  rcases wr_cases st a s with ⟨hr, hR, hS⟩ | ⟨hr, hf, hR, hS⟩ | ⟨hr, hf, hR, hS, ha0, ha1⟩
  · rw [hR, hS]
    obtain ⟨rc, hrc⟩ : ∃ q, reachI st a = q := ⟨_, rfl⟩
    rw [hrc] at hr hRe ⊢
    have HF : Hid _ := h0
    have HB : Hid _ := b0
    clear h h0 bA bS hR hS hrc
    go_enter Try.func16, Try.ntmps16
    go_upto_region 1 with fail
    generalize (w.alloc (.cells #[.int .i64 a] 3)).alloc (.cells (secA s) 27) = X at HF HB hRe kA kS ⊢
    go_wp2_with fail
    refine hRe.mono ?_
    rintro e w1 ⟨rfl, hw1⟩
    rw [hw1]
    clear hRe hw1 b0 kS kA e1 e2 e3 e4 e5
    go_wp2
    go_ret
    exact ⟨rfl, ⟨F, R, ⟨r, _, vp, ps, sp, rfl, HF.out⟩, fun q hq => .inl hq, fun q hq => .inl hq, Keep.of_below HB.out⟩, fun _ => HB.out⟩
  · rw [hR, hS]
    rw [hr] at hRe
    have hb := begin_any _ r _ vp sp st h0.row h0.s0 h0.s1 h0.left
    rw [hf] at hb
    have FIN : Hid (∀ w' sp', ((w.alloc (.cells #[.int .i64 a] 3)).alloc (.cells (secA s) 27)).grownBy w' (some r) → DevRow w' r (.slice xl st.last.length cl) vp sp' (begS st) → -9223372036854775808 ≤ sp' → sp' ≤ 9223372036854775807 → ((begS st).left = if sp' < 0 then -1 else sp') → DevP w' r (.slice xl st.last.length cl) vp ps sp' (begS st) F R ∧ Keep F w w') := fun w' sp' a1 a2 a3 a4 a5 => ⟨h0.turned a1 a2 e1 e2 a3 a4 a5 h0.apart, (Keep.of_below b0).trans (h0.keepF a1)⟩
    clear h h0 bA bS hR hS hf hr e1 e2 e3 e4 e5
    go_enter Try.func16, Try.ntmps16
    go_upto_region 1 with fail
    generalize (w.alloc (.cells #[.int .i64 a] 3)).alloc (.cells (secA s) 27) = X at FIN hRe hb kA kS b0 ⊢
    go_wp2_with fail
    refine hRe.mono ?_
    rintro e w1 ⟨rfl, hw1⟩
    rw [hw1]
    clear hRe hw1
    go_wp2_with fail
    refine hb.mono ?_
    rintro e w2 ⟨rfl, a1, sp', a2, a3, a4, a5⟩
    obtain ⟨f1, f2⟩ := FIN.out w2 sp' a1 a2 a3 a4 a5
    have HF : Hid _ := f1
    have HK : Hid _ := f2
    clear hb f1 f2 a1 a2 a5 FIN kA kS b0
    go_wp2
    go_ret
    exact ⟨rfl, ⟨F, R, ⟨r, _, vp, ps, sp', rfl, HF.out⟩, fun q hq => .inl hq, fun q hq => .inl hq, HK.out⟩, by simp⟩
  · rw [hR, hS]
    rw [hr] at hRe
    have hb := begin_any _ r _ vp sp st h0.row h0.s0 h0.s1 h0.left
    rw [hf] at hb
    have hpl := h.plen
    obtain ⟨xp, cp, rfl⟩ := (h.pend.isK actE_ok).len
    obtain ⟨np, hnp⟩ : ∃ n, ps.length = n := ⟨_, rfl⟩
    rw [hnp] at h h0 hb
    rw [← hpl, hnp] at hp9
    have hFp : ∀ q ∈ (Value.slice xp np cp).ownBlock.toList, q ∈ F ∧ q ≠ r ∧ q < w.heap.size := fun q hq => by
      have := h.pF q (by simpa using hq)
      exact ⟨this.1, this.2, h.lt q (h.sub q this.1)⟩
    obtain ⟨m1, hm1⟩ : ∃ k, st.wt + 1 = k := ⟨_, rfl⟩
    rw [hm1]
    have HST : Hid (StOk { begS st with pend := st.pend ++ [(a, s)], wt := m1 }) := by
      have hok := h.ok
      refine ⟨fun x hx => ?_, by show 64 ≤ (begS st).last.length; rw [e1]; exact hok.lo, by show (begS st).last.length ≤ 1024; rw [e1]; exact hok.hi, ?_, ?_⟩
      · show 0 ≤ x.1 ∧ x.1 < ((begS st).last.length : Int)
        rw [e1]
        rcases List.mem_append.1 hx with hx | hx
        · exact hok.at_ x hx
        · simp only [List.mem_singleton] at hx; subst hx; exact ⟨ha0, ha1⟩
      · show -1 ≤ (begS st).left
        unfold begS; split
        · exact hok.l0
        · exact (mayS_left st hok).1
      · show (begS st).left ≤ 9223372036854775807
        unfold begS; split
        · exact hok.l1
        · exact (mayS_left st hok).2
    have HST2 : Hid ((begS st).last = st.last) := e1
    have HST4 : Hid ((begS st).wt = st.wt) := e4
    clear hR hS hf hr e1 e2 e3 e4 e5 bA bS ha0 ha1
    go_enter Try.func16, Try.ntmps16
    go_upto_region 1 with fail
    obtain ⟨ga, hga⟩ : ∃ q, w.heap.size = q := ⟨_, rfl⟩
    obtain ⟨gs, hgs⟩ : ∃ q, w.heap.size + 1 = q := ⟨_, rfl⟩
    try simp only [hgs]
    try simp only [hga]
    rw [hga] at kA
    rw [hgs] at kS
    have hszX : ((w.alloc (.cells #[.int .i64 a] 3)).alloc (.cells (secA s) 27)).heap.size = w.heap.size + 2 := by simp
    generalize (w.alloc (.cells #[.int .i64 a] 3)).alloc (.cells (secA s) 27) = X0 at hRe hb kA kS b0 h0 hszX ⊢
    go_wp2_with fail
    refine hRe.mono ?_
    rintro e w1 ⟨rfl, hw1⟩
    rw [hw1]
    clear hRe hw1
    go_wp2_with fail
    refine hb.mono ?_
    rintro e w2 ⟨rfl, a1, sp', a2, a3, a4, a5⟩
    have HA5 : Hid _ := a5
    clear a5
    obtain ⟨-, -, -, -, -, c5, -⟩ := a2.cells
    have z5 := a2.frozen 5
    rw [HST4.out] at c5
    have w5 : IntKind.i64.wrap ((st.wt : Int) + 1) = (m1 : Int) := by rw [IntKind.wrap_i64]; omega
    have hr2 : DevRow (w2.setCell ⟨r, 5, none⟩ (.int .i64 (m1 : Int))) r (.slice xl st.last.length cl) (.slice xp np cp) sp' { begS st with wt := m1 } := a2.set 5 _ rfl
    have hg2 : X0.grownBy (w2.setCell ⟨r, 5, none⟩ (.int .i64 (m1 : Int))) (some r) := grown_two a1 (grown_cell _ _ _ _)
    have hK2 : Keep [r] X0 (w2.setCell ⟨r, 5, none⟩ (.int .i64 (m1 : Int))) := Keep.of_grown hg2 (fun q hq => by cases hq; simp)
    have hrlt : r < w.heap.size := h.row.lt
    have hL := h0.last.keeps hK2 (fun q hq => by simpa using (h0.lF q hq).2.1)
    have hP := h0.pend.keeps hK2 (fun q hq => by simpa using (h0.pF q hq).2)
    have hBx : ∀ y ∈ ps, Boxed (w2.setCell ⟨r, 5, none⟩ (.int .i64 (m1 : Int))) y := fun y hy => (h0.box y hy).1.keeps hK2 (by simpa using (h0.apart y hy).1) (by simpa using (h0.apart y hy).2)
    have ka : (w2.setCell ⟨r, 5, none⟩ (.int .i64 (m1 : Int))).cell? ⟨ga, 0, none⟩ = some (.int .i64 a) := by rw [cell_block (hK2.block ga (by omega) (by simp; omega))]; exact kA
    have ks : ScR (w2.setCell ⟨r, 5, none⟩ (.int .i64 (m1 : Int))) gs s := kS.blk (hK2.block gs (by omega) (by simp; omega))
    have hKF : Keep F w (w2.setCell ⟨r, 5, none⟩ (.int .i64 (m1 : Int))) := (Keep.of_below b0).trans (h0.keepF hg2)
    have hszX2 : w.heap.size + 2 ≤ (w2.setCell ⟨r, 5, none⟩ (.int .i64 (m1 : Int))).heap.size := by have := hK2.size; omega
    clear hb a1 a2 kA kS b0 h0 hg2 hK2
    generalize (st.wt : Int) = wt0 at c5 w5
    go_upto_region 10 with fail
    generalize w2.setCell ⟨r, 5, none⟩ (.int .i64 (m1 : Int)) = X at hr2 hL hP hBx ka ks hKF hszX2 ⊢
    obtain ⟨-, k1, -⟩ := hr2.cells
    have hFp2 := hFp
    replace hFp : ∀ q ∈ (Value.slice xp np cp).ownBlock.toList, q < X.heap.size := fun q hq => by have := hFp2 q hq; omega
    clear c5 z5 w5
    refine wp_reliesK (kokp (G := (Value.slice xp np cp).ownBlock.toList)) 11 [1, 2, 3, 4, 5, 6, 7, 8, 9, 10] [Fx (.pointer (some ⟨r, 0, none⟩)), Fx (.pointer (some ⟨r, 0, none⟩)), Fx (.pointer (some ⟨r, 0, none⟩)), Fx (.pointer (some ⟨r, 1, none⟩)), Fx (.slice xp np cp), Fx (.int .i64 a), Fx (.agg (secA s)), Fx (.agg (wrA (a, s))), Fx (cloV ga gs), Fx (.agg (actA ((a, s), ga, gs))), fun v x => ∃ y, v = .slice (some ⟨y, 0, none⟩) 1 1 ∧ x.rangeAt y 0 (actE.enc ((a, s), ga, gs)) ∧ X.heap.size ≤ y ∧ y < x.heap.size, fun v x => ∃ g' c', v = .slice (some ⟨g', 0, none⟩) (np + 1) c' ∧ OwnK actE x 0 (.slice (some ⟨g', 0, none⟩) (np + 1) c') (ps ++ [((a, s), ga, gs)]) ∧ ((Value.slice xp np cp).ownBlock = some g' ∨ X.heap.size ≤ g'), Fx (.pointer (some ⟨r, 0, none⟩)), Fx (.pointer (some ⟨r, 1, none⟩))] (by simp) (by kernel_rfl) (by kernel_rfl) (by kernel_rfl) ?_ ?_ ?_ ?_
    · repeat' (first | exact all_nil | apply all_cons)
      all_goals intro v y y' hv hb
      all_goals first | exact Fx_mono _ _ _ _ hv hb | (obtain ⟨y9, h1, h2, h3, h4⟩ := hv; exact ⟨y9, h1, range_later h2 hb, h3, Nat.lt_of_lt_of_le h4 hb.size⟩) | (obtain ⟨g', c', h1, h2, h3⟩ := hv; exact ⟨g', c', h1, h2.keep hb, h3⟩)
    · simp only [List.eraseIdx]
      repeat' (first | exact all_nil | apply all_cons)
      all_goals intro v y y' hv hb
      all_goals first | exact (show Fx _ _ _ from hv) | (obtain ⟨y9, h1, h2, h3, h4⟩ := hv; exact ⟨y9, h1, range_block h2 (hb.block y9 h4 (fun hm => by have := hFp y9 hm; omega)), h3, Nat.lt_of_lt_of_le h4 hb.size⟩)
    · refine ⟨?_, ?_, ?_, ?_, ?_, ?_, ?_, ?_, ?_, ?_, ?_, ?_, ?_, ?_, trivial⟩
      all_goals
        intro ρ x hk hp ρc ρg ρf ho hd
        first | (replace hp := hp (by decide)) | clear hp
        have o0 : ρ (.tmp 0) = .pointer (some ⟨r, 0, none⟩) := ho 0 rfl
        have o4 : ρ (.tmp 4) = .pointer (some ⟨ga, 0, none⟩) := ho 4 rfl
        have o5 : ρ (.tmp 5) = .pointer (some ⟨gs, 0, none⟩) := ho 5 rfl
        clear ho
        try (have q1 := cell_later hp k1)
        try (have qa := cell_later hp ka)
        try (have qs := ks.kept hp)
        try (have rok := qs.1)
        try (have rat := qs.2)
        simp only [depsR, depR, slotR, Fx, List.getElem?_cons_succ, List.getElem?_cons_zero, Region.binds, forall_const] at hd
        simp only [guardR, Nat.reduceBEq, cond_true, cond_false]
        go_split_ands
      · go_simp
      · go_simp
      · go_simp
      · go_simp
      · go_simp
      · go_simp
      · go_simp
      · go_simp
      · unfold cloV
        go_simp
      · go_simp
      · rw [execOp_actBS]
        simp only [*, run_actBS, okUpon_value]
        exact ⟨⟨_, rfl, newAct x _, hp.size, by simp⟩, below_alloc _ _⟩
      · have oP := hP.keep hp
        obtain ⟨⟨y, hy0, hy1, hy2, hy3⟩, hd1⟩ : (∃ y, ρ (.tmp 39) = .slice (some ⟨y, 0, none⟩) 1 1 ∧ x.rangeAt y 0 (actE.enc ((a, s), ga, gs)) ∧ X.heap.size ≤ y ∧ y < x.heap.size) ∧ ρ (.tmp 33) = .slice xp np cp := by first | exact ⟨hd.2.1, hd.1⟩ | (constructor <;> assumption)
        obtain ⟨g9, c9, x9, hr, o1, o2, o3, o4⟩ := run_app1K actE_ok x 0 y (.slice xp np cp) ps ((a, s), ga, gs) 53 oP hy1 hy3 (by rw [hnp]; show (np + 1) * 80 ≤ _; omega) (by rw [hnp]; unfold maxLen; omega) (Nat.zero_le _)
        rw [hnp] at hr o1
        have hT : actE.S = 53 := rfl
        rw [hT] at hr
        rw [BigFrame.execOp_builtin, BigFrame.builtin_append]
        simp only [List.map_toArray, List.map_cons, List.map_nil, hy0, hd1, hr, Sem.run_bind, Result.andThen_ok, Sem.run_pure, okUponK_value]
        exact ⟨⟨g9, c9, rfl, o1, by rcases o4 with o4 | o4; exact .inl o4; exact .inr (by have := hp.size; omega)⟩, Keep.of_grown o3 (fun q hq => by rw [hq]; simp)⟩
      · go_simp
      · go_simp
    · intro vs x_1 hk hw
      simp only [owed, Fx] at hw
      obtain ⟨e0, e1, e2, e3, e4, e5, e6, e7, e8, e9, ⟨y9, e10, -⟩, ⟨g', c', e11, hO, hgg⟩, e12, e13, -⟩ := hw
      simp only [List.length_cons, List.length_nil, List.take_succ_cons, List.take_zero, List.drop_succ_cons, List.drop_zero, asg, List.cons_append, List.nil_append, e0, e1, e2, e3, e4, e5, e6, e7, e8, e9, e10, e11, e12, e13]
      clear e0 e1 e2 e3 e4 e5 e6 e7 e8 e9 e10 e11 e12 e13
      have hrX := hr2.lt
      have hrx := hr2.kept (hk.block r hrX (fun hm => (hFp2 r hm).2.1 rfl))
      have z1 := hrx.frozen 1
      obtain ⟨-, y1, -⟩ := hrx.cells
      have r3 : DevRow (x_1.setCell ⟨r, 1, none⟩ (.slice (some ⟨g', 0, none⟩) (np + 1) c')) r (.slice xl st.last.length cl) (.slice (some ⟨g', 0, none⟩) (np + 1) c') sp' { begS st with pend := st.pend ++ [(a, s)], wt := m1 } := hrx.set 1 _ rfl
      have hgc := grown_cell x_1 r 1 (.slice (some ⟨g', 0, none⟩) (np + 1) c')
      have hKr : Keep [r] x_1 (x_1.setCell ⟨r, 1, none⟩ (.slice (some ⟨g', 0, none⟩) (np + 1) c')) := Keep.of_grown hgc (fun q hq => by cases hq; simp)
      have hg'r : g' ≠ r := fun e => by
        rcases hgg with hgg | hgg
        · exact (h.pF g' hgg).2 e
        · omega
      have hg'F : g' ∈ F ∨ X.heap.size ≤ g' := hgg.imp (fun hq => (h.pF g' hq).1) id
      have hg'n : ∀ q, q ∈ R → q ∉ F → q ≠ g' := fun q hq hn e => by
        rcases hg'F with h9 | h9
        · exact hn (by rw [e]; exact h9)
        · have := h.lt q hq; omega
      have hFlt : ∀ q ∈ F, q < w.heap.size := fun q hq => h.lt q (h.sub q hq)
      have hKp : Keep F X x_1 := hk.mono (fun q hq => .inl (hFp2 q hq).1)
      have hKall : Keep F w (x_1.setCell ⟨r, 1, none⟩ (.slice (some ⟨g', 0, none⟩) (np + 1) c')) := (hKF.trans hKp).trans (hKr.mono (fun q hq => .inl (by simp only [List.mem_singleton] at hq; subst hq; exact h.rF)))
      have hx1 := hk.size
      have hx2 := hKr.size
      have hxlt : g' < x_1.heap.size := (World.ownsRow.lt hO g' rfl).2
      have HP : Hid (DevP (x_1.setCell ⟨r, 1, none⟩ (.slice (some ⟨g', 0, none⟩) (np + 1) c')) r (.slice xl st.last.length cl) (.slice (some ⟨g', 0, none⟩) (np + 1) c') (ps ++ [((a, s), ga, gs)]) sp' { begS st with pend := st.pend ++ [(a, s)], wt := m1 } (F ++ [g']) (R ++ [ga, gs, g'])) :=
        { row := r3
          last := by
            show OwnK secE _ 0 _ (begS st).last
            rw [HST2.out]
            exact (hL.keeps hk (fun q hq hm => (h.lF q hq).2.2 (by simpa using hm))).keeps hKr (fun q hq => by simpa using (h.lF q hq).2.1)
          pend := hO.keeps hKr (fun q hq => by cases hq; simpa using hg'r)
          eqp := by rw [List.map_append, h.eqp]; rfl
          s0 := a3, s1 := a4, left := HA5.out, rF := List.mem_append_left _ h.rF
          lF := fun q hq => ⟨List.mem_append_left _ (h.lF q hq).1, (h.lF q hq).2.1, fun e => by
            cases e
            rcases hgg with h9 | h9
            · exact (h.lF g' hq).2.2 h9
            · have := hFlt g' (h.lF g' hq).1; omega⟩
          pF := fun q hq => by cases hq; exact ⟨by simp, hg'r⟩
          sub := fun q hq => by
            rcases List.mem_append.1 hq with hq | hq
            · exact List.mem_append_left _ (h.sub q hq)
            · simp only [List.mem_singleton] at hq; simp [hq]
          lt := fun q hq => by
            rcases List.mem_append.1 hq with hq | hq
            · have := h.lt q hq; omega
            · simp only [List.mem_cons, List.not_mem_nil, or_false] at hq
              rcases hq with rfl | rfl | rfl <;> omega
          box := fun y hy => by
            have hnF : ∀ q, q ∉ F → q ≠ g' → q ∉ F ++ [g'] := fun q h1 h2 => by simp [h1, h2]
            rcases List.mem_append.1 hy with hy | hy
            · have hb9 := h.box y hy
              have hap := h.apart y hy
              refine ⟨((hBx y hy).keeps hk (fun hm => hb9.2.2.1 (hFp2 _ hm).1) (fun hm => hb9.2.2.2.2 (hFp2 _ hm).1)).keeps hKr (by simpa using hap.1) (by simpa using hap.2), List.mem_append_left _ hb9.2.1, hnF _ hb9.2.2.1 (hg'n _ hb9.2.1 hb9.2.2.1), List.mem_append_left _ hb9.2.2.2.1, hnF _ hb9.2.2.2.2 (hg'n _ hb9.2.2.2.1 hb9.2.2.2.2)⟩
            · simp only [List.mem_singleton] at hy
              subst hy
              have hgaF : ga ∉ F := fun hm => by have := hFlt ga hm; omega
              have hgsF : gs ∉ F := fun hm => by have := hFlt gs hm; omega
              have hgag : ga ≠ g' := fun e => by
                rcases hg'F with h9 | h9
                · exact hgaF (by rw [e]; exact h9)
                · omega
              have hgsg : gs ≠ g' := fun e => by
                rcases hg'F with h9 | h9
                · exact hgsF (by rw [e]; exact h9)
                · omega
              have hbX : Boxed X ((a, s), ga, gs) := ⟨ka, ks⟩
              exact ⟨(hbX.keeps hk (fun hm => hgaF (hFp2 _ hm).1) (fun hm => hgsF (hFp2 _ hm).1)).keeps hKr (by simp; omega) (by simp; omega), by simp, hnF _ hgaF hgag, by simp, hnF _ hgsF hgsg⟩
          ok := HST.out }
      have HK : Hid _ := hKall
      have HF : Hid (∀ q ∈ F ++ [g'], q ∈ F ∨ w.heap.size ≤ q) := fun q hq => by
        rcases List.mem_append.1 hq with hq | hq
        · exact .inl hq
        · simp only [List.mem_singleton] at hq
          subst hq
          exact hg'F.imp id (fun h9 => by omega)
      have HR9 : Hid (∀ q ∈ R ++ [ga, gs, g'], q ∈ R ∨ w.heap.size ≤ q) := fun q hq => by
        rcases List.mem_append.1 hq with hq | hq
        · exact .inl hq
        · simp only [List.mem_cons, List.not_mem_nil, or_false] at hq
          rcases hq with rfl | rfl | rfl
          · exact .inr (by omega)
          · exact .inr (by omega)
          · exact hg'F.imp (h.sub _) (fun h9 => by omega)
      clear hKall hKp hKr hgc r3 hrx hO hk hL hP hBx hKF h ka ks k1 hr2 hFp hFp2 HST HST2 HST4 HA5 hg'n hFlt
      simp only [hga] at HF HR9
      go_wp2
      go_ret
      first | exact ⟨rfl, _, _, ⟨r, _, _, _, sp', rfl, HP.out⟩, HF.out, HR9.out, HK.out⟩ | exact ⟨rfl, ⟨_, _, ⟨r, _, _, _, sp', rfl, HP.out⟩, HF.out, HR9.out, HK.out⟩, by simp⟩
end Go.Proofs.Ytadnfiikfhdphaa
