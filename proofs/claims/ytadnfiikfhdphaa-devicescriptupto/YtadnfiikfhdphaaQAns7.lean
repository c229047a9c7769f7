import Derived.Test.YtadnfiikfhdphaaQGdj
namespace Go.Proofs.Ytadnfiikfhdphaa
open Go.RowKit

/-! assaylaw05's answered, Kind 7 -/
set_option linter.unusedSimpArgs false in
set_option linter.unusedVariables false in
set_option maxRecDepth 100000 in
set_option maxHeartbeats 8000000 in
theorem answered_7 {W : World} {B : Nat} {T : Nat → Option Th} {ps : List Pr5} {b : Bk} {k n : Nat} {da : Addr} {r : Nat} {st : DSt} (on a : Int) (v : UInt8) (y : Option Addr) (nb c : Nat) (bs : List Bool) (h : G5 W B T ps b (bkA b)) (hp : ps[k]? = some ⟨.pointer (some da), r, st, st⟩) (hL : Lim n st) (hn : n ≤ 4194304) (hb : BkOk n b) (ha0 : -9223372036854775808 ≤ a) (ha1 : a ≤ 9223372036854775807)
    (hbl : bs.length = nb) (hbn : nb ≤ 4194304) (hbc : nb ≤ c) (hbs : IsG W (.slice y nb c) (bs.map Value.bool)) (hby : bs ≠ [] → ∀ x, y = some x → x.block < B) :
    Calls Try.prog 9 #[.pointer (some da), .pointer (some ⟨r, 0, none⟩), .agg #[.int .i64 7, .int .i64 on, .int .i64 a, .int .u8 (v.toNat : Int), .slice y nb c], .pointer (some ⟨b.g, 0, none⟩)] W fun e w' => AnsPost W B T ps b k ⟨.pointer (some da), r, st, st⟩ n e w' := by
  have hA := h.box #[.int .i64 7, .int .i64 on, .int .i64 a, .int .u8 (v.toNat : Int), .slice y nb c] 46
  have hR := RowC.new W #[.int .i64 7, .int .i64 on, .int .i64 a, .int .u8 (v.toNat : Int), .slice y nb c] 46
  have hB0 := below_alloc W (.cells #[.int .i64 7, .int .i64 on, .int .i64 a, .int .u8 (v.toNat : Int), .slice y nb c] 46)
  have c0 : (W.alloc (.cells #[.int .i64 7, .int .i64 on, .int .i64 a, .int .u8 (v.toNat : Int), .slice y nb c] 46)).cell? ⟨W.heap.size, 0, none⟩ = some (.int .i64 7) := by rw [hR.cell 0]; rfl
  have c2 : (W.alloc (.cells #[.int .i64 7, .int .i64 on, .int .i64 a, .int .u8 (v.toNat : Int), .slice y nb c] 46)).cell? ⟨W.heap.size, 2, none⟩ = some (.int .i64 a) := by rw [hR.cell 2]; rfl
  have c3 : (W.alloc (.cells #[.int .i64 7, .int .i64 on, .int .i64 a, .int .u8 (v.toNat : Int), .slice y nb c] 46)).cell? ⟨W.heap.size, 3, none⟩ = some (.int .u8 (v.toNat : Int)) := by rw [hR.cell 3]; rfl
  have c4 : (W.alloc (.cells #[.int .i64 7, .int .i64 on, .int .i64 a, .int .u8 (v.toNat : Int), .slice y nb c] 46)).cell? ⟨W.heap.size, 4, none⟩ = some (.slice y nb c) := by rw [hR.cell 4]; rfl
  have hszB : B ≤ W.heap.size := h.ga.size
  have hLm : Lim 1099511627776 st := hL.le (by omega)
  have HB0 : Hid (Below B W (W.alloc (.cells #[.int .i64 7, .int .i64 on, .int .i64 a, .int .u8 (v.toNat : Int), .slice y nb c] 46))) := hB0.mono hszB
  clear hR
  go_enter Try.func9, Try.ntmps9
  go_upto_region 33 with fail
  obtain ⟨gk, hgk⟩ : ∃ g, b.g = g := ⟨_, rfl⟩
  rw [hgk] at hA
  simp only [hgk]
  obtain ⟨gb, hgb⟩ : ∃ g, W.heap.size = g := ⟨_, rfl⟩
  rw [hgb] at c0 c2 c3 c4 hA
  simp only [hgb]
  obtain ⟨Tb, hTb⟩ : ∃ t, updT T 64 (thRow gb #[.int .i64 7, .int .i64 on, .int .i64 a, .int .u8 (v.toNat : Int), .slice y nb c]) = t := ⟨_, rfl⟩
  rw [hTb] at hA
  generalize W.alloc (.cells #[.int .i64 7, .int .i64 on, .int .i64 a, .int .u8 (v.toNat : Int), .slice y nb c] 46) = X at hA hB0 HB0 c0 c2 c3 c4 ⊢
  have Hb : Hid _ := hb
  have HLm : Hid (Lim 1099511627776 st) := hLm
  have hHi : st.last.length ≤ 1024 := by
    obtain ⟨F, R, hd⟩ := h.isDev hp
    exact (devOk.ok hd).hi
  have hcS := hb.cS
  have hcP := hb.cP
  have heS : b.sS.length = b.sW.length := by have := congrArg List.length hb.eS; simpa using this
  have heP : b.sP.length = b.sV.length := by have := congrArg List.length hb.eP; simpa using this
  obtain ⟨nS, hnS⟩ : ∃ q, b.sP.length = q := ⟨_, rfl⟩
  have HN : Hid (b.sP.length = nS) := hnS
  have HN4 : Hid (nS ≤ 16777216) := by show _ ≤ _; omega
  obtain ⟨m, hm⟩ : ∃ q, st.pend.length = q := ⟨_, rfl⟩
  have hLp := hL.pend
  obtain ⟨xl, cl, cr, hIl⟩ : ∃ xl cl, X.cell? ⟨r, 1, none⟩ = some (.slice xl m cl) ∧ IsK wrE X (.slice xl m cl) st.pend := by
    obtain ⟨T9, g9, -⟩ := hA
    obtain ⟨F, vl, vp, v1, v2, v3, -⟩ := g9.isRef hp
    obtain ⟨c0, c1, -⟩ := v1.cells
    obtain ⟨xl, cl, e⟩ := ((v3.isK wrE_ok)).len
    simp only at e
    rw [hm] at e
    exact ⟨xl, cl, by rw [c1, e], by rw [← e]; exact v3.isK wrE_ok⟩
  rw [← hm] at hIl
  obtain ⟨yl, c9, Y, hrl, hOl, hbl9⟩ := run_copyK wrE_ok X (.slice none 0 0) xl cl st.pend X.heap.size 56 (OwnK.nil _ _ _) (Nat.le_refl _) hIl (by show st.pend.length * _ ≤ _; simp only [wrE]; omega) (by unfold maxLen; omega)
  rw [hm] at hrl hOl hIl
  have hT9 : wrE.S = 56 := rfl
  rw [hT9] at hrl
  have hS9 := hA.side (thKr wrE B (.slice yl m c9) st.pend) hbl9 ⟨_, _, ⟨hOl.le hA.size, rfl, rfl⟩, fun q hq => (by cases hq), fun q hq => (World.ownsRow.lt hOl q (by simpa using hq)).1⟩
  have HB9 : Hid (Below B W Y) := HB0.out.trans (hbl9.mono hA.size)
  obtain ⟨Tc, hTc⟩ : ∃ t, updT Tb 72 (thKr wrE B (.slice yl m c9) st.pend) = t := ⟨_, rfl⟩
  have h72 : Tc 72 = some (thKr wrE B (Slc.v ⟨yl, m, c9⟩) st.pend) := by rw [← hTc]; exact updT_same _ _ _
  rw [hTc] at hS9
  clear h hb hbs hB0 c0 c2 c3 c4 hOl hIl hT9
  go_upto_region 34 with (at_builtin; refine wpL_appT 56 rfl _ _ rfl _ Y (by exact hrl) ?_)
  clear hrl cr hbl9 hA
  have hSe : ∀ x b9 bc9, At5 B [gb, gk] Tc ps b9 bc9 x → Calls Try.prog 17 #[.pointer (some da)] x fun e w' => ∃ y c, e = .returned (.slice y m c) ∧ OwnK wrE w' x.heap.size (.slice y m c) (st.pend) ∧ Below x.heap.size x w' := fun x b9 bc9 hx => by
    obtain ⟨T9, g9, -⟩ := hx
    obtain ⟨F, R, hd⟩ := g9.isDev hp
    rw [← hm]
    exact devOk.pending x _ st F R hd hLm.pend
  have HA : Hid (At5 B [gb, gk] Tc ps b (bkA b) Y) := hS9
  have cb0 : Y.cell? ⟨gk, 2, none⟩ = some b.P.v := by rw [hS9.bcell hgk 2]; rfl
  clear hS9
  obtain ⟨bcb, hbcb⟩ : ∃ q, bkA b = q := ⟨_, rfl⟩
  rw [hbcb] at HA
  refine wp_reliesI (kokA (B := B) (A := [gb, gk])) (IP5 B [gb, gk] Tc ps b bcb nS (st.pend)) [6, 8, 9, 10] [none, none, none, none, none, none, some (0, [], []), none, some (1, [], []), some (2, [], []), some (3, [], []), none, none] [Fx (.pointer (some ⟨gk, 0, none⟩)), Fx (.pointer (some ⟨gk, 0, none⟩)), Fx (.pointer (some ⟨gk, 0, none⟩)), Fx (.pointer (some ⟨gk, 2, none⟩)), Fx (b.P.v), Fx (.pointer (some da)), fun _ _ => True, Fx (.pointer (some da)), fun _ _ => True, fun _ _ => True, fun _ _ => True, Fx (.pointer (some ⟨gk, 0, none⟩)), Fx (.pointer (some ⟨gk, 2, none⟩))] rfl (by decide) rfl (by kernel_rfl) (by kernel_rfl) (by kernel_rfl) HA.out IP5_later ?_ ?_ ?_ ?_
  · repeat' (first | exact all_nil | apply all_cons)
    all_goals intro v y y' hv hb
    all_goals first | exact Fx_mono _ _ _ _ hv hb | exact trivial
  · intro i9 f9 hf9 hl9 v y y' hv hb
    rcases i9 with _ | i9
    · first | (cases hl9; done) | (cases hf9; first | exact hv | exact trivial)
    rcases i9 with _ | i9
    · first | (cases hl9; done) | (cases hf9; first | exact hv | exact trivial)
    rcases i9 with _ | i9
    · first | (cases hl9; done) | (cases hf9; first | exact hv | exact trivial)
    rcases i9 with _ | i9
    · first | (cases hl9; done) | (cases hf9; first | exact hv | exact trivial)
    rcases i9 with _ | i9
    · first | (cases hl9; done) | (cases hf9; first | exact hv | exact trivial)
    rcases i9 with _ | i9
    · first | (cases hl9; done) | (cases hf9; first | exact hv | exact trivial)
    rcases i9 with _ | i9
    · first | (cases hl9; done) | (cases hf9; first | exact hv | exact trivial)
    rcases i9 with _ | i9
    · first | (cases hl9; done) | (cases hf9; first | exact hv | exact trivial)
    rcases i9 with _ | i9
    · first | (cases hl9; done) | (cases hf9; first | exact hv | exact trivial)
    rcases i9 with _ | i9
    · first | (cases hl9; done) | (cases hf9; first | exact hv | exact trivial)
    rcases i9 with _ | i9
    · first | (cases hl9; done) | (cases hf9; first | exact hv | exact trivial)
    rcases i9 with _ | i9
    · first | (cases hl9; done) | (cases hf9; first | exact hv | exact trivial)
    rcases i9 with _ | i9
    · first | (cases hl9; done) | (cases hf9; first | exact hv | exact trivial)
    · simp at hf9
  · refine ⟨?_, ?_, ?_, ?_, ?_, ?_, ?_, ?_, ?_, ?_, ?_, ?_, ?_, trivial⟩
    all_goals
      intro ρ x hk hat ρc ρg ρf ho hd
      have o0 : ρ (.tmp 0) = .pointer (some da) := ho 0 rfl
      have o1 : ρ (.tmp 1) = .pointer (some ⟨r, 0, none⟩) := ho 1 rfl
      have o3 : ρ (.tmp 3) = .pointer (some ⟨gk, 0, none⟩) := ho 3 rfl
      clear ho
      have kb := hk.cell cb0 (by simp)
      simp only [depsR, depR, slotR, Fx, List.getElem?_cons_succ, List.getElem?_cons_zero, Region.binds, forall_const] at hd
      simp only [guardR, List.contains_cons, List.contains_nil, List.elem_cons, List.elem_nil, Nat.reduceBEq, Bool.or_false, Bool.false_or, Bool.or_true, Bool.true_or, cond_true, cond_false]
      go_split_ands
    · go_simp
    · go_simp
    · go_simp
    · go_simp
    · go_simp
    · go_simp
    · go_simp
      have hat0 : At5 B [gb, gk] Tc ps b bcb x := hat
      refine (hSe x b bcb hat0).mono ?_
      rintro e x' ⟨y9, c9, rfl, hO9, hb9⟩
      exact ⟨_, rfl, ⟨trivial, IP5.first hat0 HN.out hm hb9 hO9⟩, kokA.below hb9⟩
    · go_simp
    · go_simp
      obtain ⟨hat0, hat1⟩ : At5 B [gb, gk] Tc ps b bcb x ∧ IP5 B [gb, gk] Tc ps b bcb nS (st.pend) [ρ (.tmp 183)] x := by
        have h9 : IP5 B [gb, gk] Tc ps b bcb nS (st.pend) [ρ (.tmp 183)] x := hat
        exact ⟨by obtain ⟨s7, T7, -, -, -, g7⟩ := h9; exact ⟨T7, g7⟩, h9⟩
      refine (hSe x b bcb hat0).mono ?_
      rintro e x' ⟨y9, c9, rfl, hO9, hb9⟩
      exact ⟨_, rfl, ⟨trivial, IP5.second hat1 HN.out hm hb9 hO9⟩, kokA.below hb9⟩
    · have hat1 : IP5 B [gb, gk] Tc ps b bcb nS (st.pend) [ρ (.tmp 183), ρ (.tmp 185)] x := hat
      obtain ⟨s7, t7, T7, e7, e8, rest7⟩ := id hat1
      rw [e7, e8] at hat1
      simp only [Slc.v] at e7 e8 hat1
      go_simp
      exact ⟨⟨trivial, IP5.build hat1⟩, kokA.below (below_alloc _ _)⟩
    · have hF9 : FP5 B [gb, gk] Tc ps b bcb nS (st.pend) (ρ (.tmp 186)) x := hat
      have hd1 : ρ (.tmp 181) = b.P.v := by first | assumption | exact hd.1
      obtain ⟨g9, cc9, x9, hr9, i9, k9⟩ := hF9.app (ty := 41) HN.out HN4.out
      rw [BigFrame.execOp_builtin, BigFrame.builtin_append]
      simp only [List.map_toArray, List.map_cons, List.map_nil, hd1, hr9, Sem.run_bind, Result.andThen_ok, Sem.run_pure, okUponD_some]
      exact ⟨⟨trivial, i9 _ _ _⟩, k9⟩
    · go_simp
    · go_simp
  · intro vs x1 hk hw hI
    simp only [owed, Fx] at hw
    obtain ⟨e0, e1, e2, e3, e4, e5, e6, e7, e8, e9, e10, e11, e12, -⟩ := hw
    simp only [List.length_cons, List.length_nil, List.take_succ_cons, List.take_zero, List.drop_succ_cons, List.drop_zero, asg, List.cons_append, List.nil_append, e0, e1, e2, e3, e4, e5, e7, e11, e12]
    clear e0 e1 e2 e3 e4 e5 e7 e11 e12 e6 e8 e9 e10
    obtain ⟨s1, t1, g1, cc1, e1, hT1⟩ := hI
    have hkB1 := hk.below (At5.size HA.out)
    obtain ⟨b1, hb1⟩ : ∃ q, { b with P := ⟨some ⟨g1, 0, none⟩, nS + 2, cc1⟩, sP := b.sP ++ [(s1, st.pend), (t1, st.pend)] } = q := ⟨_, rfl⟩
    rw [hb1] at hT1
    have hg1 : b1.g = gk := by rw [← hb1]; exact hgk
    obtain ⟨hA1, hBs1, fz1, cl1⟩ := hT1.store1 hg1 2 (.slice (some ⟨g1, 0, none⟩) (nS + 2) cc1)
    have hbk1 : bkA b1 = bcb.setIfInBounds 2 (.slice (some ⟨g1, 0, none⟩) (nS + 2) cc1) := by rw [← hb1, ← hbcb]; rfl
    rw [← hbk1] at hA1
    have cl1' : x1.cell? ⟨gk, 2, none⟩ = some b.P.v := by rw [cl1, ← hbcb]; rfl
    have HBB1 : Hid (Below B W (x1.setCell ⟨gk, 2, none⟩ (.slice (some ⟨g1, 0, none⟩) (nS + 2) cc1))) := (HB9.out.trans hkB1).trans hBs1
    obtain ⟨n21, hn21⟩ : ∃ q, nS + 2 = q := ⟨_, rfl⟩
    obtain ⟨bcb1, hbcb1⟩ : ∃ q, bkA b1 = q := ⟨_, rfl⟩
    rw [hbcb1] at hA1
    simp only [hn21] at e1 hA1 HBB1
    try simp only [e1]
    clear hBs1 hkB1 hT1 cl1 hk
    go_upto_region 35 with fail
    generalize x1.setCell ⟨gk, 2, none⟩ (.slice (some ⟨g1, 0, none⟩) n21 cc1) = w1 at hA1 HBB1 ⊢
    clear fz1 cl1'
    have heW : b1.sV.length = nS := by rw [← hb1]; show b.sV.length = nS; omega
    have cbW : w1.cell? ⟨gk, 3, none⟩ = some b1.WP.v := by rw [hA1.bcell hg1 3, ← hbcb1, ← hb1]; rfl
    have hF9 := hA1.pairV (l := ⟨yl, m, c9⟩) (ty := 56) h72 heW hm
    obtain ⟨g2, cc2, Z, hr2, hI2, k2⟩ := hF9.app (ty := 41) heW HN4.out
    obtain ⟨s2, t2, g2', cc2', e2', hT2⟩ := hI2 undef undef undef
    cases e2'
    obtain ⟨b2, hb2⟩ : ∃ q, { b1 with WP := ⟨some ⟨g2, 0, none⟩, nS + 2, cc2⟩, sV := b1.sV ++ [(s2, st.pend), (t2, st.pend)] } = q := ⟨_, rfl⟩
    rw [hb2] at hT2
    have hg2 : b2.g = gk := by rw [← hb2]; exact hg1
    obtain ⟨hA2, hBs2, fz2, cl2⟩ := hT2.store1 hg2 3 (.slice (some ⟨g2, 0, none⟩) (nS + 2) cc2)
    have hbk2 : bkA b2 = bcb1.setIfInBounds 3 (.slice (some ⟨g2, 0, none⟩) (nS + 2) cc2) := by rw [← hb2, ← hbcb1]; rfl
    rw [← hbk2] at hA2
    have cl2' : Z.cell? ⟨gk, 3, none⟩ = some b1.WP.v := by rw [cl2, ← hbcb1]; rfl
    have HBB2 : Hid (Below B W (Z.setCell ⟨gk, 3, none⟩ (.slice (some ⟨g2, 0, none⟩) (nS + 2) cc2))) := (HBB1.out.trans (((below_alloc w1 _).mono hA1.size).trans (k2.below (by simp; have := hA1.size; omega)))).trans hBs2
    obtain ⟨n22, hn22⟩ : ∃ q, nS + 2 = q := ⟨_, rfl⟩
    simp only [hn22] at hA2 HBB2 hr2
    simp only [Slc.v] at hr2
    have HF : Hid (AnsPost W B T ps b k ⟨.pointer (some da), r, st, st⟩ n (.returned (.bool true)) (Z.setCell ⟨gk, 3, none⟩ (.slice (some ⟨g2, 0, none⟩) n22 cc2))) := by
      subst hTc hTb
      refine At5.finS (p' := ⟨.pointer (some da), r, st, st⟩) (by rw [set_same5 hp]; exact hA2) rfl (hg2.trans hgk.symm) hL.up ?_ HBB2.out
      exact BkOk.addP (s := s1) (t := t1) (u := s2) (v := t2) (L := st.pend) Hb.out (by omega) b2 (by subst hb1; subst hb2; rfl) (by subst hb1; subst hb2; rfl) (by subst hb1; subst hb2; rfl) (by subst hb1; subst hb2; rfl)
    clear hA2 HBB2 Hb hp hBs2 cl2 hT2 hI2 k2 hF9 hA1 HBB1
    go_wp2_with (at_builtin; refine wpL_appG 41 rfl _ _ rfl _ Z (by exact hr2) ?_)
    go_ret
    exact HF.out
end Go.Proofs.Ytadnfiikfhdphaa
