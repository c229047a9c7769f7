import Derived.Test.YtfdigmlhjjdggaaQTab5
namespace Go.Proofs.Ytfdigmlhjjdggaa
open Go.RowKit

/-! assayref17: GetTag, GetSnap -/
theorem tg_bodyPost2 {fn : Func} {R : Ending → World → Prop} {a : Act} {w : World} (p q n : Nat) (x : Tg) (hres : fn.results = #[.cell p 25, .tmp q]) (hp : a.tmps.getD p undef = .pointer (some ⟨n, 0, none⟩)) (hd : a.defers = [])
    (hok : RowC w n (tgA x)) (h : R (.returned (.tuple #[.agg (tgA x), a.tmps.getD q undef])) w) : bodyPost Try.prog fn R .ret a w := by
  obtain ⟨t, hg⟩ := row_of_L hok.1
  rw [hok.2] at hg
  have hp' : a.tmps[p]?.getD undef = .pointer (some ⟨n, 0, none⟩) := by simpa using hp
  have hl := run_loadVar_row (P := Try.prog) w n t 25 (tgA x) (0, 0) _ hg Try.underlying25 rfl (by rw [sizeT_tg, tgA_size])
  refine bodyPost_ret (v := .tuple #[.agg (tgA x), a.tmps.getD q undef]) ?_ hd h
  simp [results, hres, hp', asAddr, hl]
theorem sn_bodyPost2 {fn : Func} {R : Ending → World → Prop} {a : Act} {w : World} (p q n : Nat) (x : Sn) (hres : fn.results = #[.cell p 28, .tmp q]) (hp : a.tmps.getD p undef = .pointer (some ⟨n, 0, none⟩)) (hd : a.defers = [])
    (hok : RowC w n (snA x)) (h : R (.returned (.tuple #[.agg (snA x), a.tmps.getD q undef])) w) : bodyPost Try.prog fn R .ret a w := by
  obtain ⟨t, hg⟩ := row_of_L hok.1
  rw [hok.2] at hg
  have hp' : a.tmps[p]?.getD undef = .pointer (some ⟨n, 0, none⟩) := by simpa using hp
  have hl := run_loadVar_row (P := Try.prog) w n t 28 (snA x) (0, 0) _ hg Try.underlying28 rfl (by rw [sizeT_sn, snA_size])
  refine bodyPost_ret (v := .tuple #[.agg (snA x), a.tmps.getD q undef]) ?_ hd h
  simp [results, hres, hp', asAddr, hl]
def GtP (s : Sc) (w : World) (e : Ending) (w' : World) : Prop := e = .returned (.tuple #[.agg (tgA ⟨⟨(gtL s).toArray⟩, gtD s⟩), .int .i64 (gtK s)]) ∧ Below w.heap.size w w'
def GsP (s : Sc) (w : World) (e : Ending) (w' : World) : Prop := e = .returned (.tuple #[.agg (snA ⟨(gsA s : Int), (gsB s : Int), gsD s⟩), .int .i64 (gsK s)]) ∧ Below w.heap.size w w'
set_option linter.unusedSimpArgs false in
set_option maxRecDepth 100000 in
set_option maxHeartbeats 1600000 in
theorem rGetTag_some (s : Sc) (w : World) (hz : secEq s secZ = false) (m : Nat) (hm : tgN s = m) (r : Bool) (hr : tgR s = r) (G : Tg) (hG : G = bif r then ⟨⟨(tgL s).toArray⟩, tgK s⟩ else tgZ) (k : Int) (hk : k = bif r then 2 else 3) :
    Calls Try.prog 20 #[.agg (secA s)] w fun e w' => e = .returned (.tuple #[.agg (tgA G), .int .i64 k]) ∧ Below w.heap.size w w' := by
  have hB : Below w.heap.size w ((w.alloc (.cells (secA s) 35)).alloc (.cells (tgA tgZ) 25)) := (below_alloc w _).alloc (by simp) _
  have hR1 : ScR ((w.alloc (.cells (secA s) 35)).alloc (.cells (tgA tgZ) 25)) w.heap.size s := (ScR.new w s _).kept (below_alloc _ _)
  have hR2 : RowC ((w.alloc (.cells (secA s) 35)).alloc (.cells (tgA tgZ) 25)) (w.heap.size + 1) (tgA tgZ) := by
    have := RowC.new (w.alloc (.cells (secA s) 35)) (tgA tgZ) 25
    rw [World.size_alloc] at this
    exact this
  have hm24 : m ≤ 24 := by rw [← hm]; unfold tgN; split <;> omega
  go_enter Try.func20, Try.ntmps20
  go_upto_region 1 with fail
  obtain ⟨g2, hg2⟩ : ∃ g, w.heap.size + 1 = g := ⟨_, rfl⟩
  obtain ⟨g1, hg1⟩ : ∃ g, w.heap.size = g := ⟨_, rfl⟩
  have hl2 : w.heap.size ≤ g2 := by omega
  have hn12 : g1 ≠ g2 := by omega
  rw [hg2] at hR2
  rw [hg1] at hR1
  simp only [hg2]
  simp only [hg1]
  generalize (w.alloc (.cells (secA s) 35)).alloc (.cells (tgA tgZ) 25) = Y at hB hR1 hR2 ⊢
  clear hg1 hg2
  have h1 := hR1
  have c1 := h1.cell 1 (by omega)
  obtain ⟨r1, q1⟩ := hR1
  have hb1 := (s 1).toNat_lt
  have FM9 : tgN s = if 24 < (s 1).toNat then 24 else (s 1).toNat := rfl
  by_cases h24 : 24 < (s 1).toNat
  · obtain rfl : m = 24 := by rw [← hm, FM9, if_pos h24]
    have i0 : (24 : Int) < ((s 1).toNat : Int) := by omega
    have FM : Hid ((2 : Int) + ((24 : Nat) : Int) = 26 ∧ (26 : Int) ≤ 64 ∧ IntKind.i64.wrap 26 = 26 ∧ True) := by
      refine ⟨by omega, by omega, ?_, trivial⟩
      rw [IntKind.wrap_i64]; omega
    go_upto_region 6 with fail
    have hI6 : ∀ W, Below Y.heap.size Y W → IsB W (.slice (some ⟨g1, 2, none⟩) 24 62) (subL s 2 24) := fun W hb => by
      refine .inr ⟨⟨g1, 2, none⟩, 62, by rw [subL_length], fun i hi => ?_⟩
      rw [subL_length] at hi
      rw [addr_add, (h1.kept hb).cell (2 + i) (by omega), subL_get]
    obtain ⟨nm, hnm⟩ : ∃ q, ByteArray.mk (subL s 2 24).toArray = q := ⟨_, rfl⟩
    have kK := fun W => key17_any s 26 W (by omega)
    obtain ⟨kk, hkk⟩ : ∃ q, (fun i => s (26 + i)) = q := ⟨_, rfl⟩
    simp only [hkk] at kK
    clear r1 q1 c1 i0
    refine wp_reliesT [Fx (.int .i64 ((24 : Nat) : Int)), Fx (.int .i64 (26 : Int)), Fx (.slice (some ⟨g1, 2, none⟩) 24 62), Fx (.string nm), Fx (.agg (secA s)), Fx (.agg (dg_secA kk)), Fx (.agg (tgA ⟨nm, kk⟩)), fun y x => ∃ g, y = .pointer (some ⟨g, 0, none⟩) ∧ Y.heap.size ≤ g ∧ RowC x g (tgA tgZ)] (by kernel_rfl) (by kernel_rfl) ?_ ?_ ?_
    · repeat' (first | exact all_nil | apply all_cons)
      all_goals intro v y y' hv hb
      all_goals first | exact Fx_mono _ _ _ _ hv hb | (obtain ⟨g, h1, h2, h3⟩ := hv; exact ⟨g, h1, h2, RowC.kept h3 hb⟩)
    · refine ⟨?_, ?_, ?_, ?_, ?_, ?_, ?_, ?_, trivial⟩
      all_goals
        intro ρ x hp ρc ρg ρf ho hd
        have o1 : ρ (.tmp 1) = .pointer (some ⟨g1, 0, none⟩) := ho 1 rfl
        have o4 : ρ (.tmp 4) = .int .i64 ((24 : Nat) : Int) := ho 4 rfl
        clear ho
        obtain ⟨r1, q1⟩ := h1.kept hp
        simp only [depsR, depR, slotR, Fx, List.getElem?_cons_succ, List.getElem?_cons_zero, Region.binds, forall_const] at hd
        simp only [guardR]
        go_split_ands
      · go_simp
      · obtain ⟨q1, q2, q3, q4⟩ := FM.out
        go_simp
      · obtain ⟨q1, q2, q3, q4⟩ := FM.out
        go_simp
      · have hq := (hI6 x hp).str
        rw [hnm] at hq
        go_simp
      · go_simp
      · go_simp
        refine (kK x).mono ?_
        rintro e9 x' ⟨rfl, hb⟩
        exact ⟨_, rfl, rfl, hb⟩
      · go_simp
      · go_simp
        exact ⟨⟨hp.size, RowC.new _ _ _⟩, below_alloc _ _⟩
    · intro vs x1 hp hw
      simp only [owed, Fx] at hw
      obtain ⟨e0, e1, e2, e3, e4, e5, e6, ⟨g5, e7, hg5, R5⟩, -⟩ := hw
      simp only [List.length_cons, List.length_nil, List.take_succ_cons, List.take_zero, List.drop_succ_cons, List.drop_zero, asg, List.cons_append, List.nil_append, e0, e1, e2, e3, e4, e5, e6, e7]
      clear e0 e1 e2 e3 e4 e5 e6 e7
      have hlN : lS nm = tgL s := by rw [← hnm, lS_mk]; unfold tgL; rw [hm]
      have hns : nm.size ≤ 24 := by rw [← lS_len, ← hnm, lS_mk, subL_length]; omega
      have kP := fun W => rPutTag_any nm kk W (by omega)
      rw [hlN] at kP
      have hgG : G = bif r then ⟨nm, kk⟩ else tgZ := by
        rw [hG]
        have e1 : (⟨⟨(tgL s).toArray⟩, tgK s⟩ : Tg) = ⟨nm, kk⟩ := by
          rw [← hkk]
          have : ByteArray.mk (tgL s).toArray = nm := lS_inj (by rw [lS_mk, hlN])
          rw [this]; rfl
        rw [e1]
      have hr9 : r = (isN (tgL s) && secEq (tagS (tgL s) kk) s) := by
        rw [← hr]; unfold tgR; rw [hz, ← hkk]; rfl
      have h1a := h1.kept hp
      have h2a := hR2.kept hp
      have hBa := hB.trans (hp.mono hB.size)
      have hl5 : w.heap.size ≤ g5 := Nat.le_trans hB.size hg5
      have hn51 : g5 ≠ g1 := by have := h1.lt; omega
      have hn52 : g5 ≠ g2 := by have := hR2.lt; omega
      have H5 : Hid (RowC (x1.setRow g5 (tgA ⟨nm, kk⟩)) g5 (tgA ⟨nm, kk⟩)) := R5.setRow _
      have H1 : Hid (ScR (x1.setRow g5 (tgA ⟨nm, kk⟩)) g1 s) := h1a.rne _ (fun e => hn51 e.symm)
      have H2 : Hid (RowC (x1.setRow g5 (tgA ⟨nm, kk⟩)) g2 (tgA tgZ)) := h2a.setRow_ne _ (fun e => hn52 e.symm)
      have HB : Hid (Below w.heap.size w (x1.setRow g5 (tgA ⟨nm, kk⟩))) := below_row hBa hl5 _
      obtain ⟨r5, q5⟩ := R5
      clear hp h1a h2a hBa h1 hR2 hB kK hI6 hnm hkk hG hr hm
      go_upto_region 7 with fail
      generalize x1.setRow g5 (tgA ⟨nm, kk⟩) = Z at H5 H1 H2 HB ⊢
      obtain ⟨r5', q5'⟩ := H5.out
      clear r5 q5
      go_wp2_with fail
      refine (kP _).mono ?_
      rintro e w1 ⟨rfl, hb⟩
      have h5 := H5.out.kept hb
      have h1b := H1.out.kept hb
      have h2b := H2.out.kept hb
      have hBb := HB.out.trans (hb.mono HB.out.size)
      have bC := below_alloc w1 (.cells (secA (ptS (tgL s) kk)) 35)
      have hC9 : ScR (w1.alloc (.cells (secA (ptS (tgL s) kk)) 35)) w1.heap.size (ptS (tgL s) kk) := ScR.new _ _ _
      replace h5 := h5.kept bC
      replace h1b := h1b.kept bC
      replace h2b := h2b.kept bC
      replace hBb := hBb.alloc hBb.size (.cells (secA (ptS (tgL s) kk)) 35)
      clear kP hb H5 H1 H2 HB bC r5' q5'
      go_upto_region 8 with fail
      generalize w1.alloc (.cells (secA (ptS (tgL s) kk)) 35) = Q at hC9 h5 h1b h2b hBb ⊢
      generalize w1.heap.size = g6 at hC9 ⊢
      obtain ⟨r5, q5⟩ := h5
      obtain ⟨r1, q1⟩ := h1b
      obtain ⟨r6, q6⟩ := hC9
      have HBz : Hid (Below w.heap.size w (Q.setRow g2 (tgA tgZ))) := below_row hBb hl2 _
      have HRz : Hid (RowC (Q.setRow g2 (tgA tgZ)) g2 (tgA tgZ)) := h2b.setRow _
      have HBy : Hid (Below w.heap.size w (Q.setRow g2 (tgA ⟨nm, kk⟩))) := below_row hBb hl2 _
      have HRy : Hid (RowC (Q.setRow g2 (tgA ⟨nm, kk⟩)) g2 (tgA ⟨nm, kk⟩)) := h2b.setRow _
      obtain ⟨r2, q2⟩ := h2b
      have HGK : Hid (G = (bif r then ⟨nm, kk⟩ else tgZ) ∧ k = (bif r then 2 else 3)) := ⟨hgG, hk⟩
      clear hBb hgG hk
      cases hN : isN (tgL s)
      · have er : r = false := by rw [hr9, hN]; rfl
        have ee : ptE (tgL s) = 36 := by unfold ptE; rw [hN]; rfl
        rw [er] at HGK
        simp only [ee]
        clear hr9
        go_wp2
        exact tg_bodyPost2 2 3 g2 tgZ rfl rfl rfl HRz.out ⟨by rw [HGK.out.1, HGK.out.2]; rfl, HBz.out⟩
      · have ee : ptE (tgL s) = 0 := by unfold ptE; rw [hN]; rfl
        have es : ptS (tgL s) kk = tagS (tgL s) kk := by unfold ptS; rw [hN]; rfl
        rw [hN, Bool.true_and] at hr9
        rw [es] at q6
        simp only [ee]
        cases hq : secEq (tagS (tgL s) kk) s
        · rw [hr9, hq] at HGK
          clear hr9
          go_wp2
          exact tg_bodyPost2 2 3 g2 tgZ rfl rfl rfl HRz.out ⟨by rw [HGK.out.1, HGK.out.2]; rfl, HBz.out⟩
        · rw [hr9, hq] at HGK
          clear hr9
          go_wp2
          exact tg_bodyPost2 2 3 g2 ⟨nm, kk⟩ rfl rfl rfl HRy.out ⟨by rw [HGK.out.1, HGK.out.2]; rfl, HBy.out⟩
  · have e9 : (s 1).toNat = m := by rw [← hm, FM9, if_neg h24]
    have i0 : ¬ (24 : Int) < (m : Int) := by omega
    rw [e9] at c1
    obtain ⟨m2, hm2⟩ : ∃ q, m + 2 = q := ⟨_, rfl⟩
    have FM : Hid ((2 : Int) + ((m : Nat) : Int) = (m2 : Int) ∧ (m2 : Int) ≤ 64 ∧ IntKind.i64.wrap (m2 : Int) = (m2 : Int) ∧ m2 - 2 = m ∧ (2 : Int) ≤ (m2 : Int)) := by
      refine ⟨by omega, by omega, ?_, by omega, by omega⟩
      rw [IntKind.wrap_i64]; omega
    clear hm2 h24 FM9 e9 hb1
    go_upto_region 6 with fail
    have hI6 : ∀ W, Below Y.heap.size Y W → IsB W (.slice (some ⟨g1, 2, none⟩) m 62) (subL s 2 m) := fun W hb => by
      refine .inr ⟨⟨g1, 2, none⟩, 62, by rw [subL_length], fun i hi => ?_⟩
      rw [subL_length] at hi
      rw [addr_add, (h1.kept hb).cell (2 + i) (by omega), subL_get]
    obtain ⟨nm, hnm⟩ : ∃ q, ByteArray.mk (subL s 2 m).toArray = q := ⟨_, rfl⟩
    have kK := fun W => key17_any s 26 W (by omega)
    obtain ⟨kk, hkk⟩ : ∃ q, (fun i => s (26 + i)) = q := ⟨_, rfl⟩
    simp only [hkk] at kK
    clear r1 q1 c1 i0
    refine wp_reliesT [Fx (.int .i64 ((m : Nat) : Int)), Fx (.int .i64 (m2 : Int)), Fx (.slice (some ⟨g1, 2, none⟩) m 62), Fx (.string nm), Fx (.agg (secA s)), Fx (.agg (dg_secA kk)), Fx (.agg (tgA ⟨nm, kk⟩)), fun y x => ∃ g, y = .pointer (some ⟨g, 0, none⟩) ∧ Y.heap.size ≤ g ∧ RowC x g (tgA tgZ)] (by kernel_rfl) (by kernel_rfl) ?_ ?_ ?_
    · repeat' (first | exact all_nil | apply all_cons)
      all_goals intro v y y' hv hb
      all_goals first | exact Fx_mono _ _ _ _ hv hb | (obtain ⟨g, h1, h2, h3⟩ := hv; exact ⟨g, h1, h2, RowC.kept h3 hb⟩)
    · refine ⟨?_, ?_, ?_, ?_, ?_, ?_, ?_, ?_, trivial⟩
      all_goals
        intro ρ x hp ρc ρg ρf ho hd
        have o1 : ρ (.tmp 1) = .pointer (some ⟨g1, 0, none⟩) := ho 1 rfl
        have o4 : ρ (.tmp 4) = .int .i64 ((m : Nat) : Int) := ho 4 rfl
        clear ho
        obtain ⟨r1, q1⟩ := h1.kept hp
        simp only [depsR, depR, slotR, Fx, List.getElem?_cons_succ, List.getElem?_cons_zero, Region.binds, forall_const] at hd
        simp only [guardR]
        go_split_ands
      · go_simp
      · obtain ⟨q1, q2, q3, q4⟩ := FM.out
        go_simp
      · obtain ⟨q1, q2, q3, q4⟩ := FM.out
        go_simp
      · have hq := (hI6 x hp).str
        rw [hnm] at hq
        go_simp
      · go_simp
      · go_simp
        refine (kK x).mono ?_
        rintro e9 x' ⟨rfl, hb⟩
        exact ⟨_, rfl, rfl, hb⟩
      · go_simp
      · go_simp
        exact ⟨⟨hp.size, RowC.new _ _ _⟩, below_alloc _ _⟩
    · intro vs x1 hp hw
      simp only [owed, Fx] at hw
      obtain ⟨e0, e1, e2, e3, e4, e5, e6, ⟨g5, e7, hg5, R5⟩, -⟩ := hw
      simp only [List.length_cons, List.length_nil, List.take_succ_cons, List.take_zero, List.drop_succ_cons, List.drop_zero, asg, List.cons_append, List.nil_append, e0, e1, e2, e3, e4, e5, e6, e7]
      clear e0 e1 e2 e3 e4 e5 e6 e7
      have hlN : lS nm = tgL s := by rw [← hnm, lS_mk]; unfold tgL; rw [hm]
      have hns : nm.size ≤ 24 := by rw [← lS_len, ← hnm, lS_mk, subL_length]; omega
      have kP := fun W => rPutTag_any nm kk W (by omega)
      rw [hlN] at kP
      have hgG : G = bif r then ⟨nm, kk⟩ else tgZ := by
        rw [hG]
        have e1 : (⟨⟨(tgL s).toArray⟩, tgK s⟩ : Tg) = ⟨nm, kk⟩ := by
          rw [← hkk]
          have : ByteArray.mk (tgL s).toArray = nm := lS_inj (by rw [lS_mk, hlN])
          rw [this]; rfl
        rw [e1]
      have hr9 : r = (isN (tgL s) && secEq (tagS (tgL s) kk) s) := by
        rw [← hr]; unfold tgR; rw [hz, ← hkk]; rfl
      have h1a := h1.kept hp
      have h2a := hR2.kept hp
      have hBa := hB.trans (hp.mono hB.size)
      have hl5 : w.heap.size ≤ g5 := Nat.le_trans hB.size hg5
      have hn51 : g5 ≠ g1 := by have := h1.lt; omega
      have hn52 : g5 ≠ g2 := by have := hR2.lt; omega
      have H5 : Hid (RowC (x1.setRow g5 (tgA ⟨nm, kk⟩)) g5 (tgA ⟨nm, kk⟩)) := R5.setRow _
      have H1 : Hid (ScR (x1.setRow g5 (tgA ⟨nm, kk⟩)) g1 s) := h1a.rne _ (fun e => hn51 e.symm)
      have H2 : Hid (RowC (x1.setRow g5 (tgA ⟨nm, kk⟩)) g2 (tgA tgZ)) := h2a.setRow_ne _ (fun e => hn52 e.symm)
      have HB : Hid (Below w.heap.size w (x1.setRow g5 (tgA ⟨nm, kk⟩))) := below_row hBa hl5 _
      obtain ⟨r5, q5⟩ := R5
      clear hp h1a h2a hBa h1 hR2 hB kK hI6 hnm hkk hG hr hm
      go_upto_region 7 with fail
      generalize x1.setRow g5 (tgA ⟨nm, kk⟩) = Z at H5 H1 H2 HB ⊢
      obtain ⟨r5', q5'⟩ := H5.out
      clear r5 q5
      go_wp2_with fail
      refine (kP _).mono ?_
      rintro e w1 ⟨rfl, hb⟩
      have h5 := H5.out.kept hb
      have h1b := H1.out.kept hb
      have h2b := H2.out.kept hb
      have hBb := HB.out.trans (hb.mono HB.out.size)
      have bC := below_alloc w1 (.cells (secA (ptS (tgL s) kk)) 35)
      have hC9 : ScR (w1.alloc (.cells (secA (ptS (tgL s) kk)) 35)) w1.heap.size (ptS (tgL s) kk) := ScR.new _ _ _
      replace h5 := h5.kept bC
      replace h1b := h1b.kept bC
      replace h2b := h2b.kept bC
      replace hBb := hBb.alloc hBb.size (.cells (secA (ptS (tgL s) kk)) 35)
      clear kP hb H5 H1 H2 HB bC r5' q5'
      go_upto_region 8 with fail
      generalize w1.alloc (.cells (secA (ptS (tgL s) kk)) 35) = Q at hC9 h5 h1b h2b hBb ⊢
      generalize w1.heap.size = g6 at hC9 ⊢
      obtain ⟨r5, q5⟩ := h5
      obtain ⟨r1, q1⟩ := h1b
      obtain ⟨r6, q6⟩ := hC9
      have HBz : Hid (Below w.heap.size w (Q.setRow g2 (tgA tgZ))) := below_row hBb hl2 _
      have HRz : Hid (RowC (Q.setRow g2 (tgA tgZ)) g2 (tgA tgZ)) := h2b.setRow _
      have HBy : Hid (Below w.heap.size w (Q.setRow g2 (tgA ⟨nm, kk⟩))) := below_row hBb hl2 _
      have HRy : Hid (RowC (Q.setRow g2 (tgA ⟨nm, kk⟩)) g2 (tgA ⟨nm, kk⟩)) := h2b.setRow _
      obtain ⟨r2, q2⟩ := h2b
      have HGK : Hid (G = (bif r then ⟨nm, kk⟩ else tgZ) ∧ k = (bif r then 2 else 3)) := ⟨hgG, hk⟩
      clear hBb hgG hk
      cases hN : isN (tgL s)
      · have er : r = false := by rw [hr9, hN]; rfl
        have ee : ptE (tgL s) = 36 := by unfold ptE; rw [hN]; rfl
        rw [er] at HGK
        simp only [ee]
        clear hr9
        go_wp2
        exact tg_bodyPost2 2 3 g2 tgZ rfl rfl rfl HRz.out ⟨by rw [HGK.out.1, HGK.out.2]; rfl, HBz.out⟩
      · have ee : ptE (tgL s) = 0 := by unfold ptE; rw [hN]; rfl
        have es : ptS (tgL s) kk = tagS (tgL s) kk := by unfold ptS; rw [hN]; rfl
        rw [hN, Bool.true_and] at hr9
        rw [es] at q6
        simp only [ee]
        cases hq : secEq (tagS (tgL s) kk) s
        · rw [hr9, hq] at HGK
          clear hr9
          go_wp2
          exact tg_bodyPost2 2 3 g2 tgZ rfl rfl rfl HRz.out ⟨by rw [HGK.out.1, HGK.out.2]; rfl, HBz.out⟩
        · rw [hr9, hq] at HGK
          clear hr9
          go_wp2
          exact tg_bodyPost2 2 3 g2 ⟨nm, kk⟩ rfl rfl rfl HRy.out ⟨by rw [HGK.out.1, HGK.out.2]; rfl, HBy.out⟩
set_option linter.unusedSimpArgs false in
set_option maxRecDepth 100000 in
set_option maxHeartbeats 1600000 in
theorem rGetTag_zero (s : Sc) (w : World) (hz : secEq s secZ = true) :
    Calls Try.prog 20 #[.agg (secA s)] w fun e w' => e = .returned (.tuple #[.agg (tgA tgZ), .int .i64 1]) ∧ Below w.heap.size w w' := by
  have hB : Below w.heap.size w ((w.alloc (.cells (secA s) 35)).alloc (.cells (tgA tgZ) 25)) := (below_alloc w _).alloc (by simp) _
  have hR1 : ScR ((w.alloc (.cells (secA s) 35)).alloc (.cells (tgA tgZ) 25)) w.heap.size s := (ScR.new w s _).kept (below_alloc _ _)
  have hR2 : RowC ((w.alloc (.cells (secA s) 35)).alloc (.cells (tgA tgZ) 25)) (w.heap.size + 1) (tgA tgZ) := by
    have := RowC.new (w.alloc (.cells (secA s) 35)) (tgA tgZ) 25
    rw [World.size_alloc] at this
    exact this
  go_enter Try.func20, Try.ntmps20
  go_upto_region 1 with fail
  obtain ⟨g2, hg2⟩ : ∃ g, w.heap.size + 1 = g := ⟨_, rfl⟩
  obtain ⟨g1, hg1⟩ : ∃ g, w.heap.size = g := ⟨_, rfl⟩
  have hl2 : w.heap.size ≤ g2 := by omega
  rw [hg2] at hR2
  rw [hg1] at hR1
  simp only [hg2]
  simp only [hg1]
  generalize (w.alloc (.cells (secA s) 35)).alloc (.cells (tgA tgZ) 25) = Y at hB hR1 hR2 ⊢
  clear hg1 hg2
  obtain ⟨r1, q1⟩ := hR1
  have HB : Hid _ := below_row hB hl2 (tgA tgZ)
  have HR : Hid (RowC (Y.setRow g2 (tgA tgZ)) g2 (tgA tgZ)) := hR2.setRow _
  obtain ⟨r2, q2⟩ := hR2
  clear hB
  go_wp2
  exact tg_bodyPost2 2 3 g2 tgZ rfl rfl rfl HR.out ⟨rfl, HB.out⟩
set_option linter.unusedSimpArgs false in
set_option maxRecDepth 100000 in
set_option maxHeartbeats 1600000 in
theorem rGetSnap_zero (s : Sc) (w : World) (hz : secEq s secZ = true) :
    Calls Try.prog 21 #[.agg (secA s)] w fun e w' => e = .returned (.tuple #[.agg (snA snZ), .int .i64 1]) ∧ Below w.heap.size w w' := by
  have hB : Below w.heap.size w ((w.alloc (.cells (secA s) 35)).alloc (.cells (snA snZ) 28)) := (below_alloc w _).alloc (by simp) _
  have hR1 : ScR ((w.alloc (.cells (secA s) 35)).alloc (.cells (snA snZ) 28)) w.heap.size s := (ScR.new w s _).kept (below_alloc _ _)
  have hR2 : RowC ((w.alloc (.cells (secA s) 35)).alloc (.cells (snA snZ) 28)) (w.heap.size + 1) (snA snZ) := by
    have := RowC.new (w.alloc (.cells (secA s) 35)) (snA snZ) 28
    rw [World.size_alloc] at this
    exact this
  go_enter Try.func21, Try.ntmps21
  go_upto_region 1 with fail
  obtain ⟨g2, hg2⟩ : ∃ g, w.heap.size + 1 = g := ⟨_, rfl⟩
  obtain ⟨g1, hg1⟩ : ∃ g, w.heap.size = g := ⟨_, rfl⟩
  have hl2 : w.heap.size ≤ g2 := by omega
  rw [hg2] at hR2
  rw [hg1] at hR1
  simp only [hg2]
  simp only [hg1]
  generalize (w.alloc (.cells (secA s) 35)).alloc (.cells (snA snZ) 28) = Y at hB hR1 hR2 ⊢
  clear hg1 hg2
  obtain ⟨r1, q1⟩ := hR1
  have HB : Hid _ := below_row hB hl2 (snA snZ)
  have HR : Hid (RowC (Y.setRow g2 (snA snZ)) g2 (snA snZ)) := hR2.setRow _
  obtain ⟨r2, q2⟩ := hR2
  clear hB
  go_wp2
  exact sn_bodyPost2 2 3 g2 snZ rfl rfl rfl HR.out ⟨rfl, HB.out⟩
theorem rGetTag_any (s : Sc) (w : World) : Calls Try.prog 20 #[.agg (secA s)] w fun e w' => GtP s w e w' := by
  unfold GtP
  cases hz : secEq s secZ
  · have e1 : (⟨⟨(gtL s).toArray⟩, gtD s⟩ : Tg) = bif tgR s then ⟨⟨(tgL s).toArray⟩, tgK s⟩ else tgZ := by
      unfold gtL gtD
      cases tgR s <;> rfl
    have e2 : gtK s = bif tgR s then 2 else 3 := by unfold gtK; rw [hz]; rfl
    rw [e1, e2]
    exact rGetTag_some s w hz _ rfl _ rfl _ rfl _ rfl
  · have e0 : tgR s = false := by unfold tgR; rw [hz]; rfl
    have e1 : (⟨⟨(gtL s).toArray⟩, gtD s⟩ : Tg) = tgZ := by
      unfold gtL gtD
      rw [e0]; rfl
    have e2 : gtK s = 1 := by unfold gtK; rw [hz]; rfl
    rw [e1, e2]
    exact rGetTag_zero s w hz
set_option linter.unusedSimpArgs false in
set_option maxRecDepth 100000 in
set_option maxHeartbeats 1600000 in
theorem rGetSnap_some (s : Sc) (w : World) (hz : secEq s secZ = false) (a b : Nat) (ha : numN s 4 4 = a) (hb4 : numN s 8 4 = b) (r : Bool) (hr : snR s = r) (G : Sn) (hG : G = bif r then ⟨(a : Int), (b : Int), snK s⟩ else snZ) (k : Int) (hk : k = bif r then 2 else 3) :
    Calls Try.prog 21 #[.agg (secA s)] w fun e w' => e = .returned (.tuple #[.agg (snA G), .int .i64 k]) ∧ Below w.heap.size w w' := by
  have hB : Below w.heap.size w ((w.alloc (.cells (secA s) 35)).alloc (.cells (snA snZ) 28)) := (below_alloc w _).alloc (by simp) _
  have hR1 : ScR ((w.alloc (.cells (secA s) 35)).alloc (.cells (snA snZ) 28)) w.heap.size s := (ScR.new w s _).kept (below_alloc _ _)
  have hR2 : RowC ((w.alloc (.cells (secA s) 35)).alloc (.cells (snA snZ) 28)) (w.heap.size + 1) (snA snZ) := by
    have := RowC.new (w.alloc (.cells (secA s) 35)) (snA snZ) 28
    rw [World.size_alloc] at this
    exact this
  go_enter Try.func21, Try.ntmps21
  go_upto_region 1 with fail
  obtain ⟨g2, hg2⟩ : ∃ g, w.heap.size + 1 = g := ⟨_, rfl⟩
  obtain ⟨g1, hg1⟩ : ∃ g, w.heap.size = g := ⟨_, rfl⟩
  have hl2 : w.heap.size ≤ g2 := by omega
  rw [hg2] at hR2
  rw [hg1] at hR1
  simp only [hg2]
  simp only [hg1]
  generalize (w.alloc (.cells (secA s) 35)).alloc (.cells (snA snZ) 28) = Y at hB hR1 hR2 ⊢
  clear hg1 hg2
  have h1 := hR1
  obtain ⟨r1, q1⟩ := hR1
  have kA := fun W => get17_any s 4 W (by omega)
  have kB := fun W => get17_any s 8 W (by omega)
  have kK := fun W => key17_any s 12 W (by omega)
  have ha4 : a < 4294967296 := by rw [← ha]; exact numN_lt s 4 4
  have hb44 : b < 4294967296 := by rw [← hb4]; exact numN_lt s 8 4
  simp only [ha] at kA
  simp only [hb4] at kB
  obtain ⟨kk, hkk⟩ : ∃ q, (fun i => s (12 + i)) = q := ⟨_, rfl⟩
  simp only [hkk] at kK
  go_upto_region 3 with fail
  clear r1 q1
  refine wp_reliesT [Fx (.agg (secA s)), Fx (.int .u32 (a : Int)), Fx (.agg (secA s)), Fx (.int .u32 (b : Int)), Fx (.agg (secA s)), Fx (.agg (dg_secA kk)), Fx (.agg (snA ⟨(a : Int), (b : Int), kk⟩)), fun y x => ∃ g, y = .pointer (some ⟨g, 0, none⟩) ∧ Y.heap.size ≤ g ∧ RowC x g (snA snZ)] (by kernel_rfl) (by kernel_rfl) ?_ ?_ ?_
  · repeat' (first | exact all_nil | apply all_cons)
    all_goals intro v y y' hv hb
    all_goals first | exact Fx_mono _ _ _ _ hv hb | (obtain ⟨g, h1, h2, h3⟩ := hv; exact ⟨g, h1, h2, RowC.kept h3 hb⟩)
  · refine ⟨?_, ?_, ?_, ?_, ?_, ?_, ?_, ?_, trivial⟩
    all_goals
      intro ρ x hp ρc ρg ρf ho hd
      have o1 : ρ (.tmp 1) = .pointer (some ⟨g1, 0, none⟩) := ho 1 rfl
      clear ho
      obtain ⟨r1, q1⟩ := h1.kept hp
      simp only [depsR, depR, slotR, Fx, List.getElem?_cons_succ, List.getElem?_cons_zero, Region.binds, forall_const] at hd
      simp only [guardR]
      go_split_ands
    · go_simp
    · go_simp
      refine (kA x).mono ?_
      rintro e9 x' ⟨rfl, hb⟩
      exact ⟨_, rfl, rfl, hb⟩
    · go_simp
    · go_simp
      refine (kB x).mono ?_
      rintro e9 x' ⟨rfl, hb⟩
      exact ⟨_, rfl, rfl, hb⟩
    · go_simp
    · go_simp
      refine (kK x).mono ?_
      rintro e9 x' ⟨rfl, hb⟩
      exact ⟨_, rfl, rfl, hb⟩
    · go_simp
    · go_simp
      exact ⟨⟨hp.size, RowC.new _ _ _⟩, below_alloc _ _⟩
  · intro vs x1 hp hw
    simp only [owed, Fx] at hw
    obtain ⟨e0, e1, e2, e3, e4, e5, e6, ⟨g5, e7, hg5, R5⟩, -⟩ := hw
    simp only [List.length_cons, List.length_nil, List.take_succ_cons, List.take_zero, List.drop_succ_cons, List.drop_zero, asg, List.cons_append, List.nil_append, e0, e1, e2, e3, e4, e5, e6, e7]
    clear e0 e1 e2 e3 e4 e5 e6 e7
    have kP := fun W => rPutSnap_any a b kk W ha4 hb44
    have hr9 : r = (!(a == 0) && secEq (snS a b kk) s) := by
      rw [← hr]; unfold snR; rw [hz, ← hkk, ha, hb4]; rfl
    have hgG : G = bif r then ⟨(a : Int), (b : Int), kk⟩ else snZ := by rw [hG, ← hkk]; rfl
    have h1a := h1.kept hp
    have h2a := hR2.kept hp
    have hBa := hB.trans (hp.mono hB.size)
    have hl5 : w.heap.size ≤ g5 := Nat.le_trans hB.size hg5
    have hn51 : g5 ≠ g1 := by have := h1.lt; omega
    have hn52 : g5 ≠ g2 := by have := hR2.lt; omega
    have H5 : Hid (RowC (x1.setRow g5 (snA ⟨(a : Int), (b : Int), kk⟩)) g5 (snA ⟨(a : Int), (b : Int), kk⟩)) := R5.setRow _
    have H1 : Hid (ScR (x1.setRow g5 (snA ⟨(a : Int), (b : Int), kk⟩)) g1 s) := h1a.rne _ (fun e => hn51 e.symm)
    have H2 : Hid (RowC (x1.setRow g5 (snA ⟨(a : Int), (b : Int), kk⟩)) g2 (snA snZ)) := h2a.setRow_ne _ (fun e => hn52 e.symm)
    have HB : Hid (Below w.heap.size w (x1.setRow g5 (snA ⟨(a : Int), (b : Int), kk⟩))) := below_row hBa hl5 _
    obtain ⟨r5, q5⟩ := R5
    clear hp h1a h2a hBa h1 hR2 hB kA kB kK hkk hG hr ha hb4
    go_upto_region 4 with fail
    generalize x1.setRow g5 (snA ⟨(a : Int), (b : Int), kk⟩) = Z at H5 H1 H2 HB ⊢
    obtain ⟨r5', q5'⟩ := H5.out
    clear r5 q5
    go_wp2_with fail
    refine (kP _).mono ?_
    rintro e w1 ⟨rfl, hb⟩
    have h5 := H5.out.kept hb
    have h1b := H1.out.kept hb
    have h2b := H2.out.kept hb
    have hBb := HB.out.trans (hb.mono HB.out.size)
    have bC := below_alloc w1 (.cells (secA (psS a b kk)) 35)
    have hC9 : ScR (w1.alloc (.cells (secA (psS a b kk)) 35)) w1.heap.size (psS a b kk) := ScR.new _ _ _
    replace h5 := h5.kept bC
    replace h1b := h1b.kept bC
    replace h2b := h2b.kept bC
    replace hBb := hBb.alloc hBb.size (.cells (secA (psS a b kk)) 35)
    clear kP hb H5 H1 H2 HB bC r5' q5'
    go_upto_region 5 with fail
    generalize w1.alloc (.cells (secA (psS a b kk)) 35) = Q at hC9 h5 h1b h2b hBb ⊢
    generalize w1.heap.size = g6 at hC9 ⊢
    obtain ⟨r5, q5⟩ := h5
    obtain ⟨r1, q1⟩ := h1b
    obtain ⟨r6, q6⟩ := hC9
    have HBz : Hid (Below w.heap.size w (Q.setRow g2 (snA snZ))) := below_row hBb hl2 _
    have HRz : Hid (RowC (Q.setRow g2 (snA snZ)) g2 (snA snZ)) := h2b.setRow _
    have HBy : Hid (Below w.heap.size w (Q.setRow g2 (snA ⟨(a : Int), (b : Int), kk⟩))) := below_row hBb hl2 _
    have HRy : Hid (RowC (Q.setRow g2 (snA ⟨(a : Int), (b : Int), kk⟩)) g2 (snA ⟨(a : Int), (b : Int), kk⟩)) := h2b.setRow _
    obtain ⟨r2, q2⟩ := h2b
    have HGK : Hid (G = (bif r then ⟨(a : Int), (b : Int), kk⟩ else snZ) ∧ k = (bif r then 2 else 3)) := ⟨hgG, hk⟩
    clear hBb hgG hk
    cases hN : (a == 0)
    · have ee : psE a = 0 := by unfold psE; rw [hN]; rfl
      have es : psS a b kk = snS a b kk := by unfold psS; rw [hN]; rfl
      rw [hN, Bool.not_false, Bool.true_and] at hr9
      rw [es] at q6
      simp only [ee]
      clear hN
      cases hq : secEq (snS a b kk) s
      · rw [hr9, hq] at HGK
        clear hr9
        go_wp2
        exact sn_bodyPost2 2 3 g2 snZ rfl rfl rfl HRz.out ⟨by rw [HGK.out.1, HGK.out.2]; rfl, HBz.out⟩
      · rw [hr9, hq] at HGK
        clear hr9
        go_wp2
        exact sn_bodyPost2 2 3 g2 ⟨(a : Int), (b : Int), kk⟩ rfl rfl rfl HRy.out ⟨by rw [HGK.out.1, HGK.out.2]; rfl, HBy.out⟩
    · have er : r = false := by rw [hr9, hN]; rfl
      have ee : psE a = 1 := by unfold psE; rw [hN]; rfl
      rw [er] at HGK
      simp only [ee]
      clear hr9 hN
      go_wp2
      exact sn_bodyPost2 2 3 g2 snZ rfl rfl rfl HRz.out ⟨by rw [HGK.out.1, HGK.out.2]; rfl, HBz.out⟩
theorem gs_yes (s : Sc) (a b : Nat) (ha : numN s 4 4 = a) (hb : numN s 8 4 = b) : (⟨(gsA s : Int), (gsB s : Int), gsD s⟩ : Sn) = bif snR s then ⟨(a : Int), (b : Int), snK s⟩ else snZ := by
  unfold gsA gsB gsD
  rw [ha, hb]
  generalize snR s = r
  cases r <;> rfl
theorem rGetSnap_any (s : Sc) (w : World) : Calls Try.prog 21 #[.agg (secA s)] w fun e w' => GsP s w e w' := by
  unfold GsP
  obtain ⟨a, ha⟩ : ∃ q, numN s 4 4 = q := ⟨_, rfl⟩
  obtain ⟨b, hb⟩ : ∃ q, numN s 8 4 = q := ⟨_, rfl⟩
  rw [gs_yes s a b ha hb]
  cases hz : secEq s secZ
  · have e2 : gsK s = bif snR s then 2 else 3 := by unfold gsK; rw [hz]; rfl
    rw [e2]
    exact rGetSnap_some s w hz a b ha hb _ rfl _ rfl _ rfl
  · have e0 : snR s = false := by unfold snR; rw [hz, Bool.not_true, Bool.false_and]
    have e2 : gsK s = 1 := by unfold gsK; rw [hz]; rfl
    rw [e0, e2]
    exact rGetSnap_zero s w hz
end Go.Proofs.Ytfdigmlhjjdggaa
