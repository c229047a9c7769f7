import Derived.Test.YtafbkdpheneceaaQExg
namespace Go.Proofs.Ytafbkdpheneceaa
open Go.RowKit

/-! ExtentScript, out of what extent owes -/
set_option linter.unusedSimpArgs false in
set_option maxRecDepth 100000 in
set_option maxHeartbeats 4000000 in
theorem lawExtScript_any {X : World → Value → XSt → List Nat → Prop} (O : ExtOk X) (N : ExtNil) (fr un : Int) (os : List Op8) (x : Option Addr) (ns c : Nat) (w : World) (hns : os.length = ns) (hmax : ns ≤ 1048576) (hos : ∀ o ∈ os, o.Ok) (hfr : i64 fr) (hto : i64 un) (hK : IsK opE8 w (.slice x ns c) os) :
    Calls Try.prog 5 #[.int .i64 fr, .int .i64 un, .slice x ns c] w fun e w' => e = .returned (.bool true) ∧ Below w.heap.size w w' := by
  go_enter Try.func5, Try.ntmps5
  go_wp2_with fail
  go_at_call 6
  refine (O.new w fr un hfr hto).mono ?_
  rintro e w1 ⟨hB1, h⟩
  by_cases hyes : 0 ≤ fr ∧ fr ≤ un ∧ un ≤ 1024
  · obtain ⟨-, -, -, v, F, rfl, hX0, hF⟩ := h.resolve_right (fun h => h.1 hyes)
    obtain ⟨ad, rfl⟩ := O.ptr hX0
    go_wp2_with fail
    go_at_call 15
    refine (refNew8 w1 fr un).mono ?_
    rintro e w2 ⟨hB2, h⟩
    obtain ⟨-, -, -, v, G, rfl, hR0, hG⟩ := h.resolve_right (fun h => h.1 hyes)
    obtain ⟨rd, rfl⟩ := hR0.ptr
    go_wp2_with fail
    go_at_call 7
    refine (known8_any O N _).mono ?_
    rintro e w3 ⟨rfl, hb3⟩
    go_wp2
    have hI0 := inv8_start O hB1 hB2 hb3 hX0 hF hR0 hG
    have hW0 : Below w.heap.size w ((w3.alloc (.cells #[.pointer (some ad)] 23)).alloc (.cells #[.pointer (some rd)] 42)) := hI0.2
    replace hI0 := hI0.1
    clear hX0 hF hR0 hG hB1 hB2 hb3
    go_loopw [11, 12, 13, 14] (fun xv rv bv iv wr => ∃ (i n : Nat), i ≤ ns ∧ iv = .int .i64 i ∧ Inv8 X w.heap.size [] wr xv rv bv i n ∧ Below w.heap.size w wr) (fun _ _ _ iv _ => ns - (intOf iv).toNat)
    case atStart => exact ⟨0, 1, by omega, rfl, hI0, hW0⟩
    case round =>
      clear hI0 hW0
      obtain ⟨i, n, hi, rfl, hI, hB⟩ := hrel
      obtain ⟨xa, ra, xb, ca, cr, pb, cb, ps, pgs, ls, E, tag, rfl, rfl, rfl, hn, hn1, hn4, hpb, hpi, hG, hE⟩ := hI
      by_cases hlt : i < ns
      · have hlt' : (i : Int) < (ns : Int) := by omega
        obtain ⟨o, ho⟩ : ∃ o, os[i]? = some o := ⟨_, List.getElem?_eq_getElem (by omega)⟩
        have hoo := hos o (List.mem_of_getElem? ho)
        obtain ⟨bl, of, rfl, hbl, hr⟩ := (hK.kept hB).at i o ho
        rw [opE8_k] at hr
        obtain ⟨c0, c1, c2, c3⟩ := op8_cells hr
        have HB : Hid _ := hB
        have HE : Hid _ := hE
        have Hoo : Hid (o.Ok) := hoo
        have hG0 := hG.box O (.cells (op8A o) 29)
        have hrow : (wr.alloc (.cells (op8A o) 29)).rangeAt wr.heap.size 0 (opE8.enc o) := fun j u hu => by
          rw [Nat.zero_add, cell_of_row _ _ j _ _ _ (heap_alloc_last wr _)]
          rw [opE8_enc, Array.getElem?_toList] at hu; exact hu
        obtain ⟨d0, d1, d2, d3⟩ := op8_cells hrow
        simp only [Nat.zero_add] at d0 d1 d2 d3
        have HA : Hid (Below wr.heap.size wr (wr.alloc (.cells (op8A o) 29))) := below_alloc wr _
        clear hrow hB hE hr ho
        go_upto_region 14 with fail
        clear c0 c1 c2 c3 hG
        change Code.wp _ _ _ _ (wr.alloc (.cells (op8A o) 29))
        obtain ⟨no, hno⟩ : ∃ no, wr.heap.size = no := ⟨_, rfl⟩
        rw [hno] at d0 d1 d2 d3 hG0 ⊢
        have HG : Hid _ := hG0
        clear hG0
        generalize wr.alloc (.cells (op8A o) 29) = W at d0 d1 d2 d3 HA HG ⊢
        obtain ⟨hon0, hon1⟩ := hoo.2.1
        have hnz : (n : Int) ≠ 0 := by omega
        have hn4' : (n : Int) ≤ 4 := by omega
        by_cases hneg : (o.on.tmod (n : Int)) < 0
        · obtain ⟨kk, hkk, hkn⟩ : ∃ kk : Nat, o.on.tmod (n : Int) + (n : Int) = (kk : Int) ∧ kk < n := by
            have h1 := Int.lt_tmod_of_pos o.on (b := (n : Int)) (by omega)
            exact ⟨(o.on.tmod (n : Int) + (n : Int)).toNat, by omega, by omega⟩
          go_upto_region 17 with fail
          try rw [hkk]
          obtain ⟨p, hp⟩ : ∃ p, ps[kk]? = some p := ⟨_, List.getElem?_eq_getElem (by omega)⟩
          obtain ⟨gx, rfl⟩ : ∃ gx, xa = some ⟨gx, 0, none⟩ := by
            obtain ⟨g, c9, e9, -⟩ := OwnG.form HG.out.xs.1 (fun h9 => by have h8 := congrArg List.length h9; simp at h8; subst h8; simp at hp)
            cases e9; exact ⟨g, rfl⟩
          obtain ⟨gr, rfl⟩ : ∃ gr, ra = some ⟨gr, 0, none⟩ := by
            obtain ⟨g, c9, e9, -⟩ := OwnG.form HG.out.rs.1 (fun h9 => by have h8 := congrArg List.length h9; simp at h8; subst h8; simp at hp)
            cases e9; exact ⟨g, rfl⟩
          obtain ⟨pvx, pvr, pst⟩ := p
          obtain ⟨⟨pa, rfl⟩, ⟨pr, rfl⟩⟩ : (∃ pa, pvx = .pointer (some pa)) ∧ (∃ pr, pvr = .pointer (some pr)) := by
            obtain ⟨F9, G9, b9, -⟩ := HG.out.pair kk _ hp
            exact ⟨O.ptr b9.x, b9.r.ptr⟩
          have dx : W.cell? ⟨gx, kk, none⟩ = some (.pointer (some pa)) := HG.out.xs.1.cell kk _ (by simp [hp])
          have dr : W.cell? ⟨gr, kk, none⟩ = some (.pointer (some pr)) := HG.out.rs.1.cell kk _ (by simp [hp])
          have Hp : Hid _ := hp
          have hkn' : (kk : Int) < (n : Int) := by omega
          have FK : Hid ((kk : Int) < (n : Int)) := hkn'
          clear hkn'
          clear hp
          refine wp_reliesT [Fx (.slice (some ⟨gx, 0, none⟩) n ca), Fx (.int .i64 ((kk : Int))), Fx (.pointer (some ⟨gx, kk, none⟩)), Fx (.pointer (some pa)), Fx (.bool false), Fx (.bool false), Fx (.slice (some ⟨gx, 0, none⟩) n ca), Fx (.int .i64 ((kk : Int))), Fx (.pointer (some ⟨gx, kk, none⟩)), Fx (.pointer (some pa)), Fx (.slice (some ⟨gr, 0, none⟩) n cr), Fx (.int .i64 ((kk : Int))), Fx (.pointer (some ⟨gr, kk, none⟩)), Fx (.pointer (some pr)), Fx (.agg #[.int .i64 o.k, .int .i64 o.on, .int .i64 o.a, .int .i64 o.b])] (by kernel_rfl) (by kernel_rfl) ?_ ?_ ?_
          · repeat' (first | exact all_nil | apply all_cons)
            all_goals intro v y y' hv hb
            all_goals first | exact Fx_mono _ _ _ _ hv hb
          · refine ⟨?_, ?_, ?_, ?_, ?_, ?_, ?_, ?_, ?_, ?_, ?_, ?_, ?_, ?_, ?_, trivial⟩
            all_goals
              intro ρ x hp ρc ρg ρf ho hd
              have o11 : ρ (.tmp 11) = .slice (some ⟨gx, 0, none⟩) n ca := ho 11 rfl
              have o12 : ρ (.tmp 12) = .slice (some ⟨gr, 0, none⟩) n cr := ho 12 rfl
              have o16 : ρ (.tmp 16) = .int .i64 ((kk : Int)) := ho 16 rfl
              have o15 : ρ (.tmp 15) = .pointer (some ⟨no, 0, none⟩) := ho 15 rfl
              clear ho
              have k0 := cell_later hp d0
              have k1 := cell_later hp d1
              have k2 := cell_later hp d2
              have k3 := cell_later hp d3
              have kx := cell_later hp dx
              have kr := cell_later hp dr
              simp only [depsR, depR, slotR, Fx, List.getElem?_cons_succ, List.getElem?_cons_zero, Region.binds, forall_const] at hd
              simp only [guardR]
              go_split_ands
            · go_simp
            · go_simp
            · have hq := FK.out
              go_simp
            · go_simp
            · go_simp
            · go_simp
            · refine ⟨fun _ => ?_, fun hy => absurd (by simp [yieldR, slotR, *]) hy⟩
              go_simp
            · refine ⟨fun _ => ?_, fun hy => absurd (by simp [yieldR, slotR, *]) hy⟩
              go_simp
            · refine ⟨fun _ => ?_, fun hy => absurd (by simp [yieldR, slotR, *]) hy⟩
              have hq := FK.out
              go_simp
            · refine ⟨fun _ => ?_, fun hy => absurd (by simp [yieldR, slotR, *]) hy⟩
              go_simp
            · refine ⟨fun _ => ?_, fun hy => absurd (by simp [yieldR, slotR, *]) hy⟩
              go_simp
            · refine ⟨fun _ => ?_, fun hy => absurd (by simp [yieldR, slotR, *]) hy⟩
              go_simp
            · refine ⟨fun _ => ?_, fun hy => absurd (by simp [yieldR, slotR, *]) hy⟩
              have hq := FK.out
              go_simp
            · refine ⟨fun _ => ?_, fun hy => absurd (by simp [yieldR, slotR, *]) hy⟩
              go_simp
            · refine ⟨fun _ => ?_, fun hy => absurd (by simp [yieldR, slotR, *]) hy⟩
              go_simp
          · intro vs x hp hw
            simp only [owed, Fx] at hw
            obtain ⟨e0, e1, e2, e3, e4, e5, e6, e7, e8, e9, e10, e11, e12, e13, e14, -⟩ := hw
            simp only [List.length_cons, List.length_nil, List.take_succ_cons, List.take_zero, List.drop_succ_cons, List.drop_zero, asg, List.cons_append, List.nil_append, e0, e1, e2, e3, e4, e5, e6, e7, e8, e9, e10, e11, e12, e13, e14]
            clear e0 e1 e2 e3 e4 e5 e6 e7 e8 e9 e10 e11 e12 e13 e14
            go_wp2_with fail
            go_at_call 16
            have hG1 := HG.out.later O hp
            refine (hG1.answered O Hp.out o Hoo.out).mono ?_
            rintro e w5 ⟨rfl, tag5, hG5, hk5⟩
            have hB5 := HB.out.trans ((HA.out.mono HB.out.size).trans ((hp.mono HG.out.base).trans (hk5.below hG1.base)))
            have f0 := hk5.cell (cell_later hp d0) (by simp)
            obtain ⟨ps5, e5, m5, n5, l5, p5⟩ := set_same8 (st' := acted pst o) Hp.out
            rw [e5, ← m5, ← n5] at hG5
            rw [hn] at l5
            generalize acted pst o = st5 at p5
            have HG5 : Hid _ := hG5
            have HB5 : Hid _ := hB5
            have Hp5 : Hid _ := p5
            clear hG5 hB5 p5 m5 n5 e5 hk5 hG1 hp d0 d1 d2 d3 dx dr HG HA Hp hn
            by_cases k5 : o.k = 5
            · have hG6 := HG5.out.guard
              have hx5 : w5.cell? ⟨gx, kk, none⟩ = some (.pointer (some pa)) := HG5.out.xs.1.cell kk _ (by simp [Hp5.out])
              have hr5 : w5.cell? ⟨gr, kk, none⟩ = some (.pointer (some pr)) := HG5.out.rs.1.cell kk _ (by simp [Hp5.out])
              go_upto_region 20 with fail
              have HG6 : Hid _ := hG6
              have F0 : Hid _ := f0
              clear hG6 f0
              refine wp_reliesI (kokB (B := w.heap.size) (A := [gx, gr, no])) (I8 X w.heap.size [gx, gr, no] (.slice (some ⟨gx, 0, none⟩) n ca) (.slice (some ⟨gr, 0, none⟩) n cr) (.slice xb pb cb) (ps5.map P8.vx) (ps5.map P8.vr) ps5 pgs E (3 * pb) (rI (xRuns st5))) [5, 10, 15] [none, none, none, none, none, some (0, [], []), none, none, none, none, some (1, [], []), none, none, none, none, some (2, [], []), some (3, [], []), some (3, [16], [])] [Fx (.slice xb pb cb), Fx (.slice (some ⟨gx, 0, none⟩) n ca), Fx (.int .i64 ((kk : Int))), Fx (.pointer (some ⟨gx, kk, none⟩)), Fx (.pointer (some pa)), fun _ _ => True, Fx (.slice (some ⟨gx, 0, none⟩) n ca), Fx (.int .i64 ((kk : Int))), Fx (.pointer (some ⟨gx, kk, none⟩)), Fx (.pointer (some pa)), fun _ _ => True, Fx (.slice (some ⟨gr, 0, none⟩) n cr), Fx (.int .i64 ((kk : Int))), Fx (.pointer (some ⟨gr, kk, none⟩)), Fx (.pointer (some pr)), fun _ _ => True, F16 X w.heap.size [gx, gr, no] (.slice (some ⟨gx, 0, none⟩) n ca) (.slice (some ⟨gr, 0, none⟩) n cr) (.slice xb pb cb) (ps5.map P8.vx) (ps5.map P8.vr) ps5 pgs E (3 * pb) (rI (xRuns st5)), F17 X w.heap.size [gx, gr, no] (.slice (some ⟨gx, 0, none⟩) n ca) (.slice (some ⟨gr, 0, none⟩) n cr) (.slice xb pb cb) (ps5.map P8.vx) (ps5.map P8.vr) ps5 pgs E (3 * pb) (rI (xRuns st5))] rfl (by decide) rfl (by kernel_rfl) (by kernel_rfl) (by kernel_rfl) ⟨_, HG6.out⟩ (I8_later O) ?_ ?_ ?_ ?_
              · repeat' (first | exact all_nil | apply all_cons)
                all_goals intro v y y' hv hb
                all_goals first | exact Fx_mono _ _ _ _ hv hb | exact trivial | (obtain ⟨s9, t9, u9, tg, h1, h2⟩ := hv; exact ⟨s9, t9, u9, tg, h1, h2.later O hb⟩) | (obtain ⟨s9, t9, u9, tg, y9, h1, h2, h3, h4⟩ := hv; exact ⟨s9, t9, u9, tg, y9, h1, range_later h2 hb, Nat.lt_of_lt_of_le h3 hb.size, h4.later O hb⟩)
              · intro i9 f9 hf9 hl9 v y y' hv hb
                rcases i9 with _ | i9
                · first | (cases hl9; done) | (cases hf9; first | exact hv)
                rcases i9 with _ | i9
                · first | (cases hl9; done) | (cases hf9; first | exact hv)
                rcases i9 with _ | i9
                · first | (cases hl9; done) | (cases hf9; first | exact hv)
                rcases i9 with _ | i9
                · first | (cases hl9; done) | (cases hf9; first | exact hv)
                rcases i9 with _ | i9
                · first | (cases hl9; done) | (cases hf9; first | exact hv)
                rcases i9 with _ | i9
                · first | (cases hl9; done) | (cases hf9; first | exact hv)
                rcases i9 with _ | i9
                · first | (cases hl9; done) | (cases hf9; first | exact hv)
                rcases i9 with _ | i9
                · first | (cases hl9; done) | (cases hf9; first | exact hv)
                rcases i9 with _ | i9
                · first | (cases hl9; done) | (cases hf9; first | exact hv)
                rcases i9 with _ | i9
                · first | (cases hl9; done) | (cases hf9; first | exact hv)
                rcases i9 with _ | i9
                · first | (cases hl9; done) | (cases hf9; first | exact hv)
                rcases i9 with _ | i9
                · first | (cases hl9; done) | (cases hf9; first | exact hv)
                rcases i9 with _ | i9
                · first | (cases hl9; done) | (cases hf9; first | exact hv)
                rcases i9 with _ | i9
                · first | (cases hl9; done) | (cases hf9; first | exact hv)
                rcases i9 with _ | i9
                · first | (cases hl9; done) | (cases hf9; first | exact hv)
                rcases i9 with _ | i9
                · first | (cases hl9; done) | (cases hf9; first | exact hv)
                rcases i9 with _ | i9
                · first | (cases hl9; done) | (cases hf9; first | exact hv)
                rcases i9 with _ | i9
                · first | (cases hl9; done) | (cases hf9; first | exact hv)
                · simp at hf9
              · refine ⟨?_, ?_, ?_, ?_, ?_, ?_, ?_, ?_, ?_, ?_, ?_, ?_, ?_, ?_, ?_, ?_, ?_, ?_, trivial⟩
                all_goals
                  intro ρ x hk hat ρc ρg ρf ho hd
                  have o11 : ρ (.tmp 11) = .slice (some ⟨gx, 0, none⟩) n ca := ho 11 rfl
                  have o12 : ρ (.tmp 12) = .slice (some ⟨gr, 0, none⟩) n cr := ho 12 rfl
                  have o13 : ρ (.tmp 13) = .slice xb pb cb := ho 13 rfl
                  have o16 : ρ (.tmp 16) = .int .i64 ((kk : Int)) := ho 16 rfl
                  clear ho
                  have kx := hk.cell hx5 (by simp)
                  have kr := hk.cell hr5 (by simp)
                  simp only [depsR, depR, slotR, Fx, List.getElem?_cons_succ, List.getElem?_cons_zero, Region.binds, forall_const] at hd
                  simp only [guardR, List.contains_cons, List.contains_nil, List.elem_cons, List.elem_nil, Nat.reduceBEq, Bool.or_false, Bool.false_or, Bool.or_true, Bool.true_or, cond_true, cond_false]
                  go_split_ands
                · go_simp
                · go_simp
                · go_simp
                · have hq := FK.out
                  go_simp
                · go_simp
                · go_simp
                  obtain ⟨tg, hg9⟩ := hat
                  refine (hg9.ranges O Hp5.out (3 * pb)).mono ?_
                  rintro e x' ⟨s9, tag9, rfl, g9, k9⟩
                  refine ⟨_, rfl, ⟨trivial, s9, tag9, rfl, g9⟩, k9⟩
                · go_simp
                · go_simp
                · have hq := FK.out
                  go_simp
                · go_simp
                · go_simp
                  obtain ⟨s8, tg, e8, hg9⟩ := hat
                  refine (hg9.ranges O Hp5.out (3 * pb + 1)).mono ?_
                  rintro e x' ⟨s9, tag9, rfl, g9, k9⟩
                  refine ⟨_, rfl, ⟨trivial, s8, s9, tag9, e8, rfl, g9⟩, k9⟩
                · go_simp
                · go_simp
                · have hq := FK.out
                  go_simp
                · go_simp
                · go_simp
                  obtain ⟨s7, s8, tg, e7, e8, hg9⟩ := hat
                  refine (hg9.refRanges O Hp5.out (3 * pb + 2)).mono ?_
                  rintro e x' ⟨s9, tag9, rfl, g9, k9⟩
                  refine ⟨_, rfl, ⟨trivial, s7, s8, s9, tag9, e7, e8, rfl, g9⟩, k9⟩
                · obtain ⟨s7, s8, s9, tg, e7, e8, e9, hg9⟩ := hat
                  simp only [valR, slotR, List.getElem?_cons_succ, List.getElem?_cons_zero] at e7 e8 e9
                  go_simp
                  exact ⟨⟨s7, s8, s9, tg, rfl, hg9⟩, Below.refl _ _⟩
                · obtain ⟨s7, s8, s9, tg, e16, hg9⟩ : F16 X w.heap.size [gx, gr, no] (.slice (some ⟨gx, 0, none⟩) n ca) (.slice (some ⟨gr, 0, none⟩) n cr) (.slice xb pb cb) (ps5.map P8.vx) (ps5.map P8.vr) ps5 pgs E (3 * pb) (rI (xRuns st5)) (ρ (.tmp 108)) x := by first | exact hd | assumption
                  rw [execOp_pgLit1]
                  simp only [e16, run_pgLit1, okUpon_value]
                  exact ⟨⟨s7, s8, s9, tg, x.heap.size, rfl, newPg x _, by simp, hg9.later O (below_alloc _ _)⟩, below_alloc _ _⟩
              · intro vs x1 hk hw hI
                simp only [owed, Fx] at hw
                obtain ⟨e0, e1, e2, e3, e4, e5, e6, e7, e8, e9, e10, e11, e12, e13, e14, e15, e16, ⟨s7, s8, s9, tg9, y9, e17, hr17, hl17, hG17⟩, -⟩ := hw
                simp only [List.length_cons, List.length_nil, List.take_succ_cons, List.take_zero, List.drop_succ_cons, List.drop_zero, asg, List.cons_append, List.nil_append, e0, e1, e2, e3, e4, e6, e7, e8, e9, e11, e12, e13, e14, e17]
                clear e0 e1 e2 e3 e4 e6 e7 e8 e9 e11 e12 e13 e14 e17 e5 e10 e15 e16
                obtain ⟨g9, c9, x9, hr9, o1, o2, o3, o4⟩ := run_app1K pgE_ok x1 w.heap.size y9 (.slice xb pb cb) pgs ⟨s7, s8, s9⟩ 47 hG17.bk.1 hr17 hl17 (by rw [hpb]; show (pb + 1) * 72 ≤ _; omega) (by rw [hpb]; unfold maxLen; omega) hG17.base
                rw [hpb] at hr9 o1
                have hTS : pgE.S = 47 := rfl
                rw [hTS] at hr9
                have hKp : Keep (Value.slice xb pb cb).ownBlock.toList x1 x9 := Keep.of_grown o3 (fun q hq => by rw [hq]; simp)
                have hG9 := hG17.page O hKp o1 (by rcases o4 with o4 | o4; exact .inl o4; exact .inr (by omega))
                have hE9 := HE.out.snoc s7 s8 s9 (rI (xRuns st5)) (runs_len8 st5 (by
                  obtain ⟨F9, G9, b9, -⟩ := HG5.out.pair kk _ Hp5.out
                  exact O.ok b9.x))
                rw [hpb] at hE9
                have f9 := hG17.boxed hKp (by simp) (hk.cell F0.out (by simp))
                have hB9 : Below w.heap.size w x9 := HB5.out.trans ((hk.below HG6.out.base).trans (hKp.below (fun q hq => (ownK_lt8 hG17.bk.1 q (by simpa using hq)).1) hG17.base))
                have HG9 : Hid _ := hG9.bare
                have HE9 : Hid _ := hE9
                have HB9 : Hid _ := hB9
                clear hG9 hE9 hB9 hG17 hr17 hl17 o1 o2 o3 o4 hKp hk HG5 HG6 F0 HE hI
                go_wp2_with (at_builtin; refine wpL_appG 47 rfl _ _ rfl _ x9 (by exact hr9) ?_)
                go_roundw
                case rel => exact ⟨i + 1, n, by omega, by go_num, ⟨some ⟨gx, 0, none⟩, some ⟨gr, 0, none⟩, some ⟨g9, 0, none⟩, ca, cr, pb + 1, c9, ps5, _, _, _, _, rfl, rfl, rfl, l5, hn1, hn4, by simp [hpb], by omega, HG9.out, HE9.out⟩, HB9.out⟩
                case measure => simp [intOf]; omega
            · by_cases k6 : o.k = 6 ∧ n < 4
              · obtain ⟨k6, n4⟩ := k6
                have n4' : (n : Int) < 4 := by omega
                have hkn' : (kk : Int) < (n : Int) := by omega
                have hx5 : w5.cell? ⟨gx, kk, none⟩ = some (.pointer (some pa)) := HG5.out.xs.1.cell kk _ (by simp [Hp5.out])
                have hcp := HG5.out.copyX O Hp5.out (4 + 2 * n)
                go_wp2_with fail
                go_at_call 18
                refine hcp.mono ?_
                rintro e w6 ⟨vx6, tag6, rfl, hG6, hX6, hK6⟩
                obtain ⟨pa6, rfl⟩ : ∃ a, vx6 = .pointer (some a) := by obtain ⟨F6, h6, -⟩ := hX6; exact O.ptr h6
                obtain ⟨g7, c7, w7, hr7, o7, k7, w7'⟩ := app1W xElt8 w6 w.heap.size (some ⟨gx, 0, none⟩) n ca (ps5.map P8.vx) (.pointer (some pa6)) 45 hG6.xs.1 (by simp [l5]) rfl hG6.base (by omega) (by unfold maxLen; omega)
                obtain ⟨hG7, hK7, hT7⟩ := hG6.bare.listX O (fun a ha => by cases ha) k7 o7 w7'
                have hX7 := hX6.turn O hT7 (by omega)
                have hr7c : w7.cell? ⟨gr, kk, none⟩ = some (.pointer (some pr)) := hG7.rs.1.cell kk _ (by simp [Hp5.out])
                have hcr := hG7.copyR O Hp5.out (vx := .pointer (some pa6)) (by rw [l5]; exact hX7)
                have hB7 : Below w.heap.size w w7 := HB5.out.trans ((hK6.below HG5.out.base).trans (hK7.below hG6.base))
                clear hcp hX6 hX7 hG6 hT7 k7 o7 w7' hK6 hK7 hx5 f0
                go_wp2_with (at_builtin; refine wpL_appG 45 rfl _ _ rfl _ w7 (by exact hr7) ?_)
                go_at_call 19
                refine hcr.mono ?_
                rintro e w8 ⟨vr8, tag8, rfl, hG8, hb8⟩
                obtain ⟨pr8, rfl⟩ : ∃ a, vr8 = .pointer (some a) := by
                  obtain ⟨F8, G8, b8, -⟩ := hG8.pair ps5.length ⟨.pointer (some pa6), vr8, st5⟩ (by simp)
                  exact b8.r.ptr
                obtain ⟨g9, c9, w9, hr9, o9, k9, w9'⟩ := app1W rElt8 w8 w.heap.size (some ⟨gr, 0, none⟩) n cr (ps5.map P8.vr) (.pointer (some pr8)) 46 hG8.rs.1 (by simp [l5]) rfl hG8.base (by omega) (by unfold maxLen; omega)
                obtain ⟨hG9, hK9, -⟩ := hG8.listR O (fun a ha => by cases ha) k9 o9 w9'
                have hB9 : Below w.heap.size w w9 := hB7.trans ((hb8.mono hG7.base).trans (hK9.below hG8.base))
                have HG9 : Hid _ := hG9
                have HB9 : Hid _ := hB9
                have HE9 : Hid _ := HE.out
                clear hcr hG7 hG8 hb8 hG9 hK9 hB7 hB9 o9 k9 w9' hr7c HE HG5
                go_wp2_with (at_builtin; refine wpL_appG 46 rfl _ _ rfl _ w9 (by exact hr9) ?_)
                go_roundw
                case rel => exact ⟨i + 1, n + 1, by omega, by go_num, ⟨some ⟨g7, 0, none⟩, some ⟨g9, 0, none⟩, xb, c7, c9, pb, cb, ps5 ++ [⟨.pointer (some pa6), .pointer (some pr8), st5⟩], pgs, ls, E, _, rfl, rfl, rfl, by simp [l5], by omega, by omega, hpb, by omega, by simpa using HG9.out, HE9.out⟩, HB9.out⟩
                case measure => simp [intOf]; omega
              · by_cases k7 : o.k = 6
                · have hn44 : ¬ (n : Int) < 4 := by omega
                  go_wp2
                  go_roundw
                  case rel => exact ⟨i + 1, n, by omega, by go_num, ⟨some ⟨gx, 0, none⟩, some ⟨gr, 0, none⟩, xb, ca, cr, pb, cb, ps5, pgs, ls, E, tag5, rfl, rfl, rfl, l5, hn1, hn4, hpb, by omega, HG5.out.bare, HE.out⟩, HB5.out⟩
                  case measure => simp [intOf]; omega
                · go_wp2
                  go_roundw
                  case rel => exact ⟨i + 1, n, by omega, by go_num, ⟨some ⟨gx, 0, none⟩, some ⟨gr, 0, none⟩, xb, ca, cr, pb, cb, ps5, pgs, ls, E, tag5, rfl, rfl, rfl, l5, hn1, hn4, hpb, by omega, HG5.out.bare, HE.out⟩, HB5.out⟩
                  case measure => simp [intOf]; omega
        · obtain ⟨kk, hkk, hkn⟩ : ∃ kk : Nat, o.on.tmod (n : Int) = (kk : Int) ∧ kk < n := by
            have h1 := Int.tmod_lt_of_pos o.on (b := (n : Int)) (by omega)
            exact ⟨(o.on.tmod (n : Int)).toNat, by omega, by omega⟩
          go_upto_region 17 with fail
          try rw [hkk]
          obtain ⟨p, hp⟩ : ∃ p, ps[kk]? = some p := ⟨_, List.getElem?_eq_getElem (by omega)⟩
          obtain ⟨gx, rfl⟩ : ∃ gx, xa = some ⟨gx, 0, none⟩ := by
            obtain ⟨g, c9, e9, -⟩ := OwnG.form HG.out.xs.1 (fun h9 => by have h8 := congrArg List.length h9; simp at h8; subst h8; simp at hp)
            cases e9; exact ⟨g, rfl⟩
          obtain ⟨gr, rfl⟩ : ∃ gr, ra = some ⟨gr, 0, none⟩ := by
            obtain ⟨g, c9, e9, -⟩ := OwnG.form HG.out.rs.1 (fun h9 => by have h8 := congrArg List.length h9; simp at h8; subst h8; simp at hp)
            cases e9; exact ⟨g, rfl⟩
          obtain ⟨pvx, pvr, pst⟩ := p
          obtain ⟨⟨pa, rfl⟩, ⟨pr, rfl⟩⟩ : (∃ pa, pvx = .pointer (some pa)) ∧ (∃ pr, pvr = .pointer (some pr)) := by
            obtain ⟨F9, G9, b9, -⟩ := HG.out.pair kk _ hp
            exact ⟨O.ptr b9.x, b9.r.ptr⟩
          have dx : W.cell? ⟨gx, kk, none⟩ = some (.pointer (some pa)) := HG.out.xs.1.cell kk _ (by simp [hp])
          have dr : W.cell? ⟨gr, kk, none⟩ = some (.pointer (some pr)) := HG.out.rs.1.cell kk _ (by simp [hp])
          have Hp : Hid _ := hp
          have hkn' : (kk : Int) < (n : Int) := by omega
          have FK : Hid ((kk : Int) < (n : Int)) := hkn'
          clear hkn'
          clear hp
          refine wp_reliesT [Fx (.slice (some ⟨gx, 0, none⟩) n ca), Fx (.int .i64 ((kk : Int))), Fx (.pointer (some ⟨gx, kk, none⟩)), Fx (.pointer (some pa)), Fx (.bool false), Fx (.bool false), Fx (.slice (some ⟨gx, 0, none⟩) n ca), Fx (.int .i64 ((kk : Int))), Fx (.pointer (some ⟨gx, kk, none⟩)), Fx (.pointer (some pa)), Fx (.slice (some ⟨gr, 0, none⟩) n cr), Fx (.int .i64 ((kk : Int))), Fx (.pointer (some ⟨gr, kk, none⟩)), Fx (.pointer (some pr)), Fx (.agg #[.int .i64 o.k, .int .i64 o.on, .int .i64 o.a, .int .i64 o.b])] (by kernel_rfl) (by kernel_rfl) ?_ ?_ ?_
          · repeat' (first | exact all_nil | apply all_cons)
            all_goals intro v y y' hv hb
            all_goals first | exact Fx_mono _ _ _ _ hv hb
          · refine ⟨?_, ?_, ?_, ?_, ?_, ?_, ?_, ?_, ?_, ?_, ?_, ?_, ?_, ?_, ?_, trivial⟩
            all_goals
              intro ρ x hp ρc ρg ρf ho hd
              have o11 : ρ (.tmp 11) = .slice (some ⟨gx, 0, none⟩) n ca := ho 11 rfl
              have o12 : ρ (.tmp 12) = .slice (some ⟨gr, 0, none⟩) n cr := ho 12 rfl
              have o16 : ρ (.tmp 16) = .int .i64 ((kk : Int)) := ho 16 rfl
              have o15 : ρ (.tmp 15) = .pointer (some ⟨no, 0, none⟩) := ho 15 rfl
              clear ho
              have k0 := cell_later hp d0
              have k1 := cell_later hp d1
              have k2 := cell_later hp d2
              have k3 := cell_later hp d3
              have kx := cell_later hp dx
              have kr := cell_later hp dr
              simp only [depsR, depR, slotR, Fx, List.getElem?_cons_succ, List.getElem?_cons_zero, Region.binds, forall_const] at hd
              simp only [guardR]
              go_split_ands
            · go_simp
            · go_simp
            · have hq := FK.out
              go_simp
            · go_simp
            · go_simp
            · go_simp
            · refine ⟨fun _ => ?_, fun hy => absurd (by simp [yieldR, slotR, *]) hy⟩
              go_simp
            · refine ⟨fun _ => ?_, fun hy => absurd (by simp [yieldR, slotR, *]) hy⟩
              go_simp
            · refine ⟨fun _ => ?_, fun hy => absurd (by simp [yieldR, slotR, *]) hy⟩
              have hq := FK.out
              go_simp
            · refine ⟨fun _ => ?_, fun hy => absurd (by simp [yieldR, slotR, *]) hy⟩
              go_simp
            · refine ⟨fun _ => ?_, fun hy => absurd (by simp [yieldR, slotR, *]) hy⟩
              go_simp
            · refine ⟨fun _ => ?_, fun hy => absurd (by simp [yieldR, slotR, *]) hy⟩
              go_simp
            · refine ⟨fun _ => ?_, fun hy => absurd (by simp [yieldR, slotR, *]) hy⟩
              have hq := FK.out
              go_simp
            · refine ⟨fun _ => ?_, fun hy => absurd (by simp [yieldR, slotR, *]) hy⟩
              go_simp
            · refine ⟨fun _ => ?_, fun hy => absurd (by simp [yieldR, slotR, *]) hy⟩
              go_simp
          · intro vs x hp hw
            simp only [owed, Fx] at hw
            obtain ⟨e0, e1, e2, e3, e4, e5, e6, e7, e8, e9, e10, e11, e12, e13, e14, -⟩ := hw
            simp only [List.length_cons, List.length_nil, List.take_succ_cons, List.take_zero, List.drop_succ_cons, List.drop_zero, asg, List.cons_append, List.nil_append, e0, e1, e2, e3, e4, e5, e6, e7, e8, e9, e10, e11, e12, e13, e14]
            clear e0 e1 e2 e3 e4 e5 e6 e7 e8 e9 e10 e11 e12 e13 e14
            go_wp2_with fail
            go_at_call 16
            have hG1 := HG.out.later O hp
            refine (hG1.answered O Hp.out o Hoo.out).mono ?_
            rintro e w5 ⟨rfl, tag5, hG5, hk5⟩
            have hB5 := HB.out.trans ((HA.out.mono HB.out.size).trans ((hp.mono HG.out.base).trans (hk5.below hG1.base)))
            have f0 := hk5.cell (cell_later hp d0) (by simp)
            obtain ⟨ps5, e5, m5, n5, l5, p5⟩ := set_same8 (st' := acted pst o) Hp.out
            rw [e5, ← m5, ← n5] at hG5
            rw [hn] at l5
            generalize acted pst o = st5 at p5
            have HG5 : Hid _ := hG5
            have HB5 : Hid _ := hB5
            have Hp5 : Hid _ := p5
            clear hG5 hB5 p5 m5 n5 e5 hk5 hG1 hp d0 d1 d2 d3 dx dr HG HA Hp hn
            by_cases k5 : o.k = 5
            · have hG6 := HG5.out.guard
              have hx5 : w5.cell? ⟨gx, kk, none⟩ = some (.pointer (some pa)) := HG5.out.xs.1.cell kk _ (by simp [Hp5.out])
              have hr5 : w5.cell? ⟨gr, kk, none⟩ = some (.pointer (some pr)) := HG5.out.rs.1.cell kk _ (by simp [Hp5.out])
              go_upto_region 20 with fail
              have HG6 : Hid _ := hG6
              have F0 : Hid _ := f0
              clear hG6 f0
              refine wp_reliesI (kokB (B := w.heap.size) (A := [gx, gr, no])) (I8 X w.heap.size [gx, gr, no] (.slice (some ⟨gx, 0, none⟩) n ca) (.slice (some ⟨gr, 0, none⟩) n cr) (.slice xb pb cb) (ps5.map P8.vx) (ps5.map P8.vr) ps5 pgs E (3 * pb) (rI (xRuns st5))) [5, 10, 15] [none, none, none, none, none, some (0, [], []), none, none, none, none, some (1, [], []), none, none, none, none, some (2, [], []), some (3, [], []), some (3, [16], [])] [Fx (.slice xb pb cb), Fx (.slice (some ⟨gx, 0, none⟩) n ca), Fx (.int .i64 ((kk : Int))), Fx (.pointer (some ⟨gx, kk, none⟩)), Fx (.pointer (some pa)), fun _ _ => True, Fx (.slice (some ⟨gx, 0, none⟩) n ca), Fx (.int .i64 ((kk : Int))), Fx (.pointer (some ⟨gx, kk, none⟩)), Fx (.pointer (some pa)), fun _ _ => True, Fx (.slice (some ⟨gr, 0, none⟩) n cr), Fx (.int .i64 ((kk : Int))), Fx (.pointer (some ⟨gr, kk, none⟩)), Fx (.pointer (some pr)), fun _ _ => True, F16 X w.heap.size [gx, gr, no] (.slice (some ⟨gx, 0, none⟩) n ca) (.slice (some ⟨gr, 0, none⟩) n cr) (.slice xb pb cb) (ps5.map P8.vx) (ps5.map P8.vr) ps5 pgs E (3 * pb) (rI (xRuns st5)), F17 X w.heap.size [gx, gr, no] (.slice (some ⟨gx, 0, none⟩) n ca) (.slice (some ⟨gr, 0, none⟩) n cr) (.slice xb pb cb) (ps5.map P8.vx) (ps5.map P8.vr) ps5 pgs E (3 * pb) (rI (xRuns st5))] rfl (by decide) rfl (by kernel_rfl) (by kernel_rfl) (by kernel_rfl) ⟨_, HG6.out⟩ (I8_later O) ?_ ?_ ?_ ?_
              · repeat' (first | exact all_nil | apply all_cons)
                all_goals intro v y y' hv hb
                all_goals first | exact Fx_mono _ _ _ _ hv hb | exact trivial | (obtain ⟨s9, t9, u9, tg, h1, h2⟩ := hv; exact ⟨s9, t9, u9, tg, h1, h2.later O hb⟩) | (obtain ⟨s9, t9, u9, tg, y9, h1, h2, h3, h4⟩ := hv; exact ⟨s9, t9, u9, tg, y9, h1, range_later h2 hb, Nat.lt_of_lt_of_le h3 hb.size, h4.later O hb⟩)
              · intro i9 f9 hf9 hl9 v y y' hv hb
                rcases i9 with _ | i9
                · first | (cases hl9; done) | (cases hf9; first | exact hv)
                rcases i9 with _ | i9
                · first | (cases hl9; done) | (cases hf9; first | exact hv)
                rcases i9 with _ | i9
                · first | (cases hl9; done) | (cases hf9; first | exact hv)
                rcases i9 with _ | i9
                · first | (cases hl9; done) | (cases hf9; first | exact hv)
                rcases i9 with _ | i9
                · first | (cases hl9; done) | (cases hf9; first | exact hv)
                rcases i9 with _ | i9
                · first | (cases hl9; done) | (cases hf9; first | exact hv)
                rcases i9 with _ | i9
                · first | (cases hl9; done) | (cases hf9; first | exact hv)
                rcases i9 with _ | i9
                · first | (cases hl9; done) | (cases hf9; first | exact hv)
                rcases i9 with _ | i9
                · first | (cases hl9; done) | (cases hf9; first | exact hv)
                rcases i9 with _ | i9
                · first | (cases hl9; done) | (cases hf9; first | exact hv)
                rcases i9 with _ | i9
                · first | (cases hl9; done) | (cases hf9; first | exact hv)
                rcases i9 with _ | i9
                · first | (cases hl9; done) | (cases hf9; first | exact hv)
                rcases i9 with _ | i9
                · first | (cases hl9; done) | (cases hf9; first | exact hv)
                rcases i9 with _ | i9
                · first | (cases hl9; done) | (cases hf9; first | exact hv)
                rcases i9 with _ | i9
                · first | (cases hl9; done) | (cases hf9; first | exact hv)
                rcases i9 with _ | i9
                · first | (cases hl9; done) | (cases hf9; first | exact hv)
                rcases i9 with _ | i9
                · first | (cases hl9; done) | (cases hf9; first | exact hv)
                rcases i9 with _ | i9
                · first | (cases hl9; done) | (cases hf9; first | exact hv)
                · simp at hf9
              · refine ⟨?_, ?_, ?_, ?_, ?_, ?_, ?_, ?_, ?_, ?_, ?_, ?_, ?_, ?_, ?_, ?_, ?_, ?_, trivial⟩
                all_goals
                  intro ρ x hk hat ρc ρg ρf ho hd
                  have o11 : ρ (.tmp 11) = .slice (some ⟨gx, 0, none⟩) n ca := ho 11 rfl
                  have o12 : ρ (.tmp 12) = .slice (some ⟨gr, 0, none⟩) n cr := ho 12 rfl
                  have o13 : ρ (.tmp 13) = .slice xb pb cb := ho 13 rfl
                  have o16 : ρ (.tmp 16) = .int .i64 ((kk : Int)) := ho 16 rfl
                  clear ho
                  have kx := hk.cell hx5 (by simp)
                  have kr := hk.cell hr5 (by simp)
                  simp only [depsR, depR, slotR, Fx, List.getElem?_cons_succ, List.getElem?_cons_zero, Region.binds, forall_const] at hd
                  simp only [guardR, List.contains_cons, List.contains_nil, List.elem_cons, List.elem_nil, Nat.reduceBEq, Bool.or_false, Bool.false_or, Bool.or_true, Bool.true_or, cond_true, cond_false]
                  go_split_ands
                · go_simp
                · go_simp
                · go_simp
                · have hq := FK.out
                  go_simp
                · go_simp
                · go_simp
                  obtain ⟨tg, hg9⟩ := hat
                  refine (hg9.ranges O Hp5.out (3 * pb)).mono ?_
                  rintro e x' ⟨s9, tag9, rfl, g9, k9⟩
                  refine ⟨_, rfl, ⟨trivial, s9, tag9, rfl, g9⟩, k9⟩
                · go_simp
                · go_simp
                · have hq := FK.out
                  go_simp
                · go_simp
                · go_simp
                  obtain ⟨s8, tg, e8, hg9⟩ := hat
                  refine (hg9.ranges O Hp5.out (3 * pb + 1)).mono ?_
                  rintro e x' ⟨s9, tag9, rfl, g9, k9⟩
                  refine ⟨_, rfl, ⟨trivial, s8, s9, tag9, e8, rfl, g9⟩, k9⟩
                · go_simp
                · go_simp
                · have hq := FK.out
                  go_simp
                · go_simp
                · go_simp
                  obtain ⟨s7, s8, tg, e7, e8, hg9⟩ := hat
                  refine (hg9.refRanges O Hp5.out (3 * pb + 2)).mono ?_
                  rintro e x' ⟨s9, tag9, rfl, g9, k9⟩
                  refine ⟨_, rfl, ⟨trivial, s7, s8, s9, tag9, e7, e8, rfl, g9⟩, k9⟩
                · obtain ⟨s7, s8, s9, tg, e7, e8, e9, hg9⟩ := hat
                  simp only [valR, slotR, List.getElem?_cons_succ, List.getElem?_cons_zero] at e7 e8 e9
                  go_simp
                  exact ⟨⟨s7, s8, s9, tg, rfl, hg9⟩, Below.refl _ _⟩
                · obtain ⟨s7, s8, s9, tg, e16, hg9⟩ : F16 X w.heap.size [gx, gr, no] (.slice (some ⟨gx, 0, none⟩) n ca) (.slice (some ⟨gr, 0, none⟩) n cr) (.slice xb pb cb) (ps5.map P8.vx) (ps5.map P8.vr) ps5 pgs E (3 * pb) (rI (xRuns st5)) (ρ (.tmp 108)) x := by first | exact hd | assumption
                  rw [execOp_pgLit1]
                  simp only [e16, run_pgLit1, okUpon_value]
                  exact ⟨⟨s7, s8, s9, tg, x.heap.size, rfl, newPg x _, by simp, hg9.later O (below_alloc _ _)⟩, below_alloc _ _⟩
              · intro vs x1 hk hw hI
                simp only [owed, Fx] at hw
                obtain ⟨e0, e1, e2, e3, e4, e5, e6, e7, e8, e9, e10, e11, e12, e13, e14, e15, e16, ⟨s7, s8, s9, tg9, y9, e17, hr17, hl17, hG17⟩, -⟩ := hw
                simp only [List.length_cons, List.length_nil, List.take_succ_cons, List.take_zero, List.drop_succ_cons, List.drop_zero, asg, List.cons_append, List.nil_append, e0, e1, e2, e3, e4, e6, e7, e8, e9, e11, e12, e13, e14, e17]
                clear e0 e1 e2 e3 e4 e6 e7 e8 e9 e11 e12 e13 e14 e17 e5 e10 e15 e16
                obtain ⟨g9, c9, x9, hr9, o1, o2, o3, o4⟩ := run_app1K pgE_ok x1 w.heap.size y9 (.slice xb pb cb) pgs ⟨s7, s8, s9⟩ 47 hG17.bk.1 hr17 hl17 (by rw [hpb]; show (pb + 1) * 72 ≤ _; omega) (by rw [hpb]; unfold maxLen; omega) hG17.base
                rw [hpb] at hr9 o1
                have hTS : pgE.S = 47 := rfl
                rw [hTS] at hr9
                have hKp : Keep (Value.slice xb pb cb).ownBlock.toList x1 x9 := Keep.of_grown o3 (fun q hq => by rw [hq]; simp)
                have hG9 := hG17.page O hKp o1 (by rcases o4 with o4 | o4; exact .inl o4; exact .inr (by omega))
                have hE9 := HE.out.snoc s7 s8 s9 (rI (xRuns st5)) (runs_len8 st5 (by
                  obtain ⟨F9, G9, b9, -⟩ := HG5.out.pair kk _ Hp5.out
                  exact O.ok b9.x))
                rw [hpb] at hE9
                have f9 := hG17.boxed hKp (by simp) (hk.cell F0.out (by simp))
                have hB9 : Below w.heap.size w x9 := HB5.out.trans ((hk.below HG6.out.base).trans (hKp.below (fun q hq => (ownK_lt8 hG17.bk.1 q (by simpa using hq)).1) hG17.base))
                have HG9 : Hid _ := hG9.bare
                have HE9 : Hid _ := hE9
                have HB9 : Hid _ := hB9
                clear hG9 hE9 hB9 hG17 hr17 hl17 o1 o2 o3 o4 hKp hk HG5 HG6 F0 HE hI
                go_wp2_with (at_builtin; refine wpL_appG 47 rfl _ _ rfl _ x9 (by exact hr9) ?_)
                go_roundw
                case rel => exact ⟨i + 1, n, by omega, by go_num, ⟨some ⟨gx, 0, none⟩, some ⟨gr, 0, none⟩, some ⟨g9, 0, none⟩, ca, cr, pb + 1, c9, ps5, _, _, _, _, rfl, rfl, rfl, l5, hn1, hn4, by simp [hpb], by omega, HG9.out, HE9.out⟩, HB9.out⟩
                case measure => simp [intOf]; omega
            · by_cases k6 : o.k = 6 ∧ n < 4
              · obtain ⟨k6, n4⟩ := k6
                have n4' : (n : Int) < 4 := by omega
                have hkn' : (kk : Int) < (n : Int) := by omega
                have hx5 : w5.cell? ⟨gx, kk, none⟩ = some (.pointer (some pa)) := HG5.out.xs.1.cell kk _ (by simp [Hp5.out])
                have hcp := HG5.out.copyX O Hp5.out (4 + 2 * n)
                go_wp2_with fail
                go_at_call 18
                refine hcp.mono ?_
                rintro e w6 ⟨vx6, tag6, rfl, hG6, hX6, hK6⟩
                obtain ⟨pa6, rfl⟩ : ∃ a, vx6 = .pointer (some a) := by obtain ⟨F6, h6, -⟩ := hX6; exact O.ptr h6
                obtain ⟨g7, c7, w7, hr7, o7, k7, w7'⟩ := app1W xElt8 w6 w.heap.size (some ⟨gx, 0, none⟩) n ca (ps5.map P8.vx) (.pointer (some pa6)) 45 hG6.xs.1 (by simp [l5]) rfl hG6.base (by omega) (by unfold maxLen; omega)
                obtain ⟨hG7, hK7, hT7⟩ := hG6.bare.listX O (fun a ha => by cases ha) k7 o7 w7'
                have hX7 := hX6.turn O hT7 (by omega)
                have hr7c : w7.cell? ⟨gr, kk, none⟩ = some (.pointer (some pr)) := hG7.rs.1.cell kk _ (by simp [Hp5.out])
                have hcr := hG7.copyR O Hp5.out (vx := .pointer (some pa6)) (by rw [l5]; exact hX7)
                have hB7 : Below w.heap.size w w7 := HB5.out.trans ((hK6.below HG5.out.base).trans (hK7.below hG6.base))
                clear hcp hX6 hX7 hG6 hT7 k7 o7 w7' hK6 hK7 hx5 f0
                go_wp2_with (at_builtin; refine wpL_appG 45 rfl _ _ rfl _ w7 (by exact hr7) ?_)
                go_at_call 19
                refine hcr.mono ?_
                rintro e w8 ⟨vr8, tag8, rfl, hG8, hb8⟩
                obtain ⟨pr8, rfl⟩ : ∃ a, vr8 = .pointer (some a) := by
                  obtain ⟨F8, G8, b8, -⟩ := hG8.pair ps5.length ⟨.pointer (some pa6), vr8, st5⟩ (by simp)
                  exact b8.r.ptr
                obtain ⟨g9, c9, w9, hr9, o9, k9, w9'⟩ := app1W rElt8 w8 w.heap.size (some ⟨gr, 0, none⟩) n cr (ps5.map P8.vr) (.pointer (some pr8)) 46 hG8.rs.1 (by simp [l5]) rfl hG8.base (by omega) (by unfold maxLen; omega)
                obtain ⟨hG9, hK9, -⟩ := hG8.listR O (fun a ha => by cases ha) k9 o9 w9'
                have hB9 : Below w.heap.size w w9 := hB7.trans ((hb8.mono hG7.base).trans (hK9.below hG8.base))
                have HG9 : Hid _ := hG9
                have HB9 : Hid _ := hB9
                have HE9 : Hid _ := HE.out
                clear hcr hG7 hG8 hb8 hG9 hK9 hB7 hB9 o9 k9 w9' hr7c HE HG5
                go_wp2_with (at_builtin; refine wpL_appG 46 rfl _ _ rfl _ w9 (by exact hr9) ?_)
                go_roundw
                case rel => exact ⟨i + 1, n + 1, by omega, by go_num, ⟨some ⟨g7, 0, none⟩, some ⟨g9, 0, none⟩, xb, c7, c9, pb, cb, ps5 ++ [⟨.pointer (some pa6), .pointer (some pr8), st5⟩], pgs, ls, E, _, rfl, rfl, rfl, by simp [l5], by omega, by omega, hpb, by omega, by simpa using HG9.out, HE9.out⟩, HB9.out⟩
                case measure => simp [intOf]; omega
              · by_cases k7 : o.k = 6
                · have hn44 : ¬ (n : Int) < 4 := by omega
                  go_wp2
                  go_roundw
                  case rel => exact ⟨i + 1, n, by omega, by go_num, ⟨some ⟨gx, 0, none⟩, some ⟨gr, 0, none⟩, xb, ca, cr, pb, cb, ps5, pgs, ls, E, tag5, rfl, rfl, rfl, l5, hn1, hn4, hpb, by omega, HG5.out.bare, HE.out⟩, HB5.out⟩
                  case measure => simp [intOf]; omega
                · go_wp2
                  go_roundw
                  case rel => exact ⟨i + 1, n, by omega, by go_num, ⟨some ⟨gx, 0, none⟩, some ⟨gr, 0, none⟩, xb, ca, cr, pb, cb, ps5, pgs, ls, E, tag5, rfl, rfl, rfl, l5, hn1, hn4, hpb, by omega, HG5.out.bare, HE.out⟩, HB5.out⟩
                  case measure => simp [intOf]; omega
      · have hlt' : ¬ (i : Int) < (ns : Int) := by omega
        have HG : Hid _ := hG
        have HB : Hid _ := hB
        have HE : Hid _ := hE
        clear hG hB hE
        go_wp2
        go_loopw [17] (fun iv wr => ∃ (k : Nat) (tag9 : Nat → Nat) (E9 : Nat → Option (Sl3 × List Pr)), k ≤ n ∧ iv = .int .i64 k ∧ Gm X wr w.heap.size [] tag9 (.slice xa n ca) (.slice ra n cr) (.slice xb pb cb) (ps.map P8.vx) (ps.map P8.vr) ps pgs E9 ∧ PgsE pgs ls E9 ∧ Below w.heap.size w wr) (fun iv _ => n - (intOf iv).toNat)
        case atStart => exact ⟨0, tag, E, by omega, rfl, HG.out, HE.out, HB.out⟩
        case round =>
          clear HG HB HE
          obtain ⟨k, tag9, E9, hk, rfl, hG9, hE9, hB9⟩ := hrel
          by_cases hlt9 : k < n
          · obtain ⟨p, hp⟩ : ∃ p, ps[k]? = some p := ⟨_, List.getElem?_eq_getElem (by omega)⟩
            obtain ⟨gx, rfl⟩ : ∃ gx, xa = some ⟨gx, 0, none⟩ := by
              obtain ⟨g, c9, e9, -⟩ := OwnG.form hG9.xs.1 (fun h9 => by have h8 := congrArg List.length h9; simp at h8; subst h8; simp at hp)
              cases e9; exact ⟨g, rfl⟩
            obtain ⟨gr, rfl⟩ : ∃ gr, ra = some ⟨gr, 0, none⟩ := by
              obtain ⟨g, c9, e9, -⟩ := OwnG.form hG9.rs.1 (fun h9 => by have h8 := congrArg List.length h9; simp at h8; subst h8; simp at hp)
              cases e9; exact ⟨g, rfl⟩
            obtain ⟨pvx, pvr, pst⟩ := p
            obtain ⟨⟨pa, rfl⟩, ⟨pr, rfl⟩, hLn⟩ : (∃ pa, pvx = .pointer (some pa)) ∧ (∃ pr, pvr = .pointer (some pr)) ∧ (rI (xRuns pst)).length ≤ 2000 := by
              obtain ⟨F9, G9, b9, -⟩ := hG9.pair k _ hp
              exact ⟨O.ptr b9.x, b9.r.ptr, runs_len8 pst (O.ok b9.x)⟩
            have hx9 : wr.cell? ⟨gx, k, none⟩ = some (.pointer (some pa)) := hG9.xs.1.cell k _ (by simp [hp])
            have hr9 : wr.cell? ⟨gr, k, none⟩ = some (.pointer (some pr)) := hG9.rs.1.cell k _ (by simp [hp])
            have Hp : Hid _ := hp
            have HLn : Hid _ := hLn
            have hkn' : (k : Int) < (n : Int) := by omega
            have FK : Hid ((k : Int) < (n : Int)) := hkn'
            have HG9 : Hid _ := hG9.guard
            have HE9 : Hid _ := hE9
            have HB9 : Hid _ := hB9
            clear hG9 hE9 hB9 hp hLn
            go_upto_region 27 with fail
            clear hkn'
            refine wp_reliesI (kokB (B := w.heap.size) (A := [gx, gr])) (I9 X w.heap.size [gx, gr] (.slice (some ⟨gx, 0, none⟩) n ca) (.slice (some ⟨gr, 0, none⟩) n cr) (.slice xb pb cb) (ps.map P8.vx) (ps.map P8.vr) ps pgs E9 (3 * pb) (rI (xRuns pst))) [10, 15, 24] [none, none, none, none, none, none, none, none, none, none, some (0, [], []), none, none, none, none, some (1, [], []), some (2, [], [19]), none, none, none, none, none, none, none, some (2, [19, 16], []), none, none, none, none, some (3, [], []), none] [Fx (.slice (some ⟨gx, 0, none⟩) n ca), Fx (.int .i64 ((k : Int))), Fx (.pointer (some ⟨gx, k, none⟩)), Fx (.pointer (some pa)), Fx (.bool false), Fx (.bool false), Fx (.slice (some ⟨gx, 0, none⟩) n ca), Fx (.int .i64 ((k : Int))), Fx (.pointer (some ⟨gx, k, none⟩)), Fx (.pointer (some pa)), fun _ _ => True, Fx (.slice (some ⟨gr, 0, none⟩) n cr), Fx (.int .i64 ((k : Int))), Fx (.pointer (some ⟨gr, k, none⟩)), Fx (.pointer (some pr)), fun _ _ => True, Fx (.bool true), Fx (.bool false), Fx (.bool false), Fx (.bool false), Fx (.slice (some ⟨gx, 0, none⟩) n ca), Fx (.int .i64 ((k : Int))), Fx (.pointer (some ⟨gx, k, none⟩)), Fx (.pointer (some pa)), Fx (.int .i64 (((xLeft pst : Nat) : Int))), Fx (.slice (some ⟨gr, 0, none⟩) n cr), Fx (.int .i64 ((k : Int))), Fx (.pointer (some ⟨gr, k, none⟩)), Fx (.pointer (some pr)), Fx (.int .i64 (((xLeft pst : Nat) : Int))), Fx (.bool false)] rfl (by decide) rfl (by kernel_rfl) (by kernel_rfl) (by kernel_rfl) ⟨_, HG9.out⟩ (I9_later O) ?_ ?_ ?_ ?_
            · repeat' (first | exact all_nil | apply all_cons)
              all_goals intro v y y' hv hb
              all_goals first | exact Fx_mono _ _ _ _ hv hb | exact trivial
            · intro i9 f9 hf9 hl9 v y y' hv hb
              rcases i9 with _ | i9
              · first | (cases hl9; done) | (cases hf9; first | exact hv | exact trivial)
              rcases i9 with _ | i9
              · first | (cases hl9; done) | (cases hf9; first | exact hv | exact trivial)
              rcases i9 with _ | i9
              · first | (cases hl9; done) | (cases hf9; first | exact hv | exact trivial)
              rcases i9 with _ | i9
              · first | (cases hl9; done) | (cases hf9; first | exact hv | exact trivial)
              rcases i9 with _ | i9
              · first | (cases hl9; done) | (cases hf9; first | exact hv | exact trivial)
              rcases i9 with _ | i9
              · first | (cases hl9; done) | (cases hf9; first | exact hv | exact trivial)
              rcases i9 with _ | i9
              · first | (cases hl9; done) | (cases hf9; first | exact hv | exact trivial)
              rcases i9 with _ | i9
              · first | (cases hl9; done) | (cases hf9; first | exact hv | exact trivial)
              rcases i9 with _ | i9
              · first | (cases hl9; done) | (cases hf9; first | exact hv | exact trivial)
              rcases i9 with _ | i9
              · first | (cases hl9; done) | (cases hf9; first | exact hv | exact trivial)
              rcases i9 with _ | i9
              · first | (cases hl9; done) | (cases hf9; first | exact hv | exact trivial)
              rcases i9 with _ | i9
              · first | (cases hl9; done) | (cases hf9; first | exact hv | exact trivial)
              rcases i9 with _ | i9
              · first | (cases hl9; done) | (cases hf9; first | exact hv | exact trivial)
              rcases i9 with _ | i9
              · first | (cases hl9; done) | (cases hf9; first | exact hv | exact trivial)
              rcases i9 with _ | i9
              · first | (cases hl9; done) | (cases hf9; first | exact hv | exact trivial)
              rcases i9 with _ | i9
              · first | (cases hl9; done) | (cases hf9; first | exact hv | exact trivial)
              rcases i9 with _ | i9
              · first | (cases hl9; done) | (cases hf9; first | exact hv | exact trivial)
              rcases i9 with _ | i9
              · first | (cases hl9; done) | (cases hf9; first | exact hv | exact trivial)
              rcases i9 with _ | i9
              · first | (cases hl9; done) | (cases hf9; first | exact hv | exact trivial)
              rcases i9 with _ | i9
              · first | (cases hl9; done) | (cases hf9; first | exact hv | exact trivial)
              rcases i9 with _ | i9
              · first | (cases hl9; done) | (cases hf9; first | exact hv | exact trivial)
              rcases i9 with _ | i9
              · first | (cases hl9; done) | (cases hf9; first | exact hv | exact trivial)
              rcases i9 with _ | i9
              · first | (cases hl9; done) | (cases hf9; first | exact hv | exact trivial)
              rcases i9 with _ | i9
              · first | (cases hl9; done) | (cases hf9; first | exact hv | exact trivial)
              rcases i9 with _ | i9
              · first | (cases hl9; done) | (cases hf9; first | exact hv | exact trivial)
              rcases i9 with _ | i9
              · first | (cases hl9; done) | (cases hf9; first | exact hv | exact trivial)
              rcases i9 with _ | i9
              · first | (cases hl9; done) | (cases hf9; first | exact hv | exact trivial)
              rcases i9 with _ | i9
              · first | (cases hl9; done) | (cases hf9; first | exact hv | exact trivial)
              rcases i9 with _ | i9
              · first | (cases hl9; done) | (cases hf9; first | exact hv | exact trivial)
              rcases i9 with _ | i9
              · first | (cases hl9; done) | (cases hf9; first | exact hv | exact trivial)
              rcases i9 with _ | i9
              · first | (cases hl9; done) | (cases hf9; first | exact hv | exact trivial)
              · simp at hf9
            · refine ⟨?_, ?_, ?_, ?_, ?_, ?_, ?_, ?_, ?_, ?_, ?_, ?_, ?_, ?_, ?_, ?_, ?_, ?_, ?_, ?_, ?_, ?_, ?_, ?_, ?_, ?_, ?_, ?_, ?_, ?_, ?_, trivial⟩
              all_goals
                intro ρ x hk hat ρc ρg ρf ho hd
                have o11 : ρ (.tmp 11) = .slice (some ⟨gx, 0, none⟩) n ca := ho 11 rfl
                have o12 : ρ (.tmp 12) = .slice (some ⟨gr, 0, none⟩) n cr := ho 12 rfl
                have o17 : ρ (.tmp 17) = .int .i64 ((k : Int)) := ho 17 rfl
                clear ho
                have kx := hk.cell hx9 (by simp)
                have kr := hk.cell hr9 (by simp)
                simp only [depsR, depR, slotR, Fx, List.getElem?_cons_succ, List.getElem?_cons_zero, Region.binds, forall_const] at hd
                simp only [guardR, List.contains_cons, List.contains_nil, List.elem_cons, List.elem_nil, Nat.reduceBEq, Bool.or_false, Bool.false_or, Bool.or_true, Bool.true_or, cond_true, cond_false]
                go_split_ands
              · go_simp
              · go_simp
              · have hq := FK.out
                go_simp
              · go_simp
              · go_simp
              · go_simp
              · refine ⟨fun _ => ?_, fun hy => absurd (by simp [yieldR, slotR, *]) hy⟩
                go_simp
              · refine ⟨fun _ => ?_, fun hy => absurd (by simp [yieldR, slotR, *]) hy⟩
                go_simp
              · refine ⟨fun _ => ?_, fun hy => absurd (by simp [yieldR, slotR, *]) hy⟩
                have hq := FK.out
                go_simp
              · refine ⟨fun _ => ?_, fun hy => absurd (by simp [yieldR, slotR, *]) hy⟩
                go_simp
              · refine ⟨fun _ => ?_, fun hy => absurd (by simp [yieldR, slotR, *]) hy⟩
                go_simp
                obtain ⟨tg, hg9⟩ := hat
                refine (hg9.ranges O Hp.out (3 * pb)).mono ?_
                rintro e x' ⟨s9, tag9, rfl, g9, k9⟩
                exact ⟨_, rfl, ⟨trivial, s9, tag9, rfl, g9⟩, k9⟩
              · refine ⟨fun _ => ?_, fun hy => absurd (by simp [yieldR, slotR, *]) hy⟩
                go_simp
              · refine ⟨fun _ => ?_, fun hy => absurd (by simp [yieldR, slotR, *]) hy⟩
                go_simp
              · refine ⟨fun _ => ?_, fun hy => absurd (by simp [yieldR, slotR, *]) hy⟩
                have hq := FK.out
                go_simp
              · refine ⟨fun _ => ?_, fun hy => absurd (by simp [yieldR, slotR, *]) hy⟩
                go_simp
              · refine ⟨fun _ => ?_, fun hy => absurd (by simp [yieldR, slotR, *]) hy⟩
                go_simp
                obtain ⟨s8, tg, e8, hg9⟩ := hat
                refine (hg9.refRanges O Hp.out (3 * pb + 1)).mono ?_
                rintro e x' ⟨s9, tag9, rfl, g9, k9⟩
                exact ⟨_, rfl, ⟨trivial, s8, s9, tag9, e8, rfl, g9⟩, k9⟩
              · refine ⟨fun _ => ?_, fun hy => absurd (by simp [yieldR, slotR, *]) hy⟩
                obtain ⟨s7, s8, tg, e7, e8, hg9⟩ := hat
                simp only [valR, slotR, List.getElem?_cons_succ, List.getElem?_cons_zero] at e7 e8
                go_simp
                refine (hg9.same (i := 3 * pb) (j := 3 * pb + 1) (by simp [updE]) (by simp [updE]) HLn.out).mono ?_
                rintro e x' ⟨rfl, hw⟩
                exact ⟨_, rfl, rfl, hw⟩
              · refine ⟨fun _ => ?_, fun hy => absurd (by simp [yieldR, slotR, *]) hy⟩
                go_simp
              · go_simp
              · go_simp
              · refine ⟨fun _ => ?_, fun hy => absurd (by simp [yieldR, slotR, *]) hy⟩
                go_simp
              · refine ⟨fun _ => ?_, fun hy => absurd (by simp [yieldR, slotR, *]) hy⟩
                go_simp
              · refine ⟨fun _ => ?_, fun hy => absurd (by simp [yieldR, slotR, *]) hy⟩
                have hq := FK.out
                go_simp
              · refine ⟨fun _ => ?_, fun hy => absurd (by simp [yieldR, slotR, *]) hy⟩
                go_simp
              · refine ⟨fun _ => ?_, fun hy => absurd (by simp [yieldR, slotR, *]) hy⟩
                obtain ⟨s7, s8, tg, e7, e8, hg9⟩ := hat
                go_simp
                refine (hg9.left O Hp.out).mono ?_
                rintro e x' ⟨rfl, tag9, g9, k9⟩
                exact ⟨_, rfl, ⟨rfl, s7, s8, tag9, e7, e8, g9⟩, k9⟩
              · refine ⟨fun _ => ?_, fun hy => absurd (by simp [yieldR, slotR, *]) hy⟩
                go_simp
              · refine ⟨fun _ => ?_, fun hy => absurd (by simp [yieldR, slotR, *]) hy⟩
                go_simp
              · refine ⟨fun _ => ?_, fun hy => absurd (by simp [yieldR, slotR, *]) hy⟩
                have hq := FK.out
                go_simp
              · refine ⟨fun _ => ?_, fun hy => absurd (by simp [yieldR, slotR, *]) hy⟩
                go_simp
              · refine ⟨fun _ => ?_, fun hy => absurd (by simp [yieldR, slotR, *]) hy⟩
                obtain ⟨s7, s8, tg, e7, e8, hg9⟩ := hat
                obtain ⟨F9, G9, b9, -⟩ := hg9.pair k _ Hp.out
                go_simp
                refine (refLeft8 x _ pst G9 b9.r).mono ?_
                rintro e x' ⟨rfl, hw⟩
                exact ⟨_, rfl, rfl, hw⟩
              · refine ⟨fun _ => ?_, fun hy => absurd (by simp [yieldR, slotR, *]) hy⟩
                go_simp
            · intro vs x1 hk hw hI
              simp only [owed, Fx] at hw
              obtain ⟨e0, e1, e2, e3, e4, e5, e6, e7, e8, e9, e10, e11, e12, e13, e14, e15, e16, e17, e18, e19, e20, e21, e22, e23, e24, e25, e26, e27, e28, e29, e30, -⟩ := hw
              simp only [List.length_cons, List.length_nil, List.take_succ_cons, List.take_zero, List.drop_succ_cons, List.drop_zero, asg, List.cons_append, List.nil_append, e0, e1, e2, e3, e4, e5, e6, e7, e8, e9, e11, e12, e13, e14, e16, e17, e18, e19, e20, e21, e22, e23, e24, e25, e26, e27, e28, e29, e30]
              clear e0 e1 e2 e3 e4 e5 e6 e7 e8 e9 e11 e12 e13 e14 e16 e17 e18 e19 e20 e21 e22 e23 e24 e25 e26 e27 e28 e29 e30 e10 e15
              obtain ⟨s8, t8, tag8, -, -, hG8⟩ := hI
              have hE8 := (HE9.out.more (3 * pb) (by omega) s8 (rI (xRuns pst))).more (3 * pb + 1) (by omega) t8 (rI (xRuns pst))
              have hB8 : Below w.heap.size w x1 := HB9.out.trans (hk.below HG9.out.base)
              have HG8 : Hid _ := hG8.bare
              have HE8 : Hid _ := hE8
              have HB8 : Hid _ := hB8
              clear hG8 hE8 hB8 hk HG9 HE9 HB9 hx9 hr9
              go_wp2
              go_roundw
              case rel => exact ⟨k + 1, tag8, _, by omega, by go_num, HG8.out, HE8.out, HB8.out⟩
              case measure => simp [intOf]; omega
          · obtain rfl : k = n := by omega
            have hfam := hG9.fam hE9
            rw [hpb] at hfam
            have hst := stay_any wr w.heap.size xb pb cb pgs ls _ hpb (by omega) hG9.base (hG9.bk.1.isK pgE_ok) hfam (hG9.want hE9) hE9.len
            clear hfam hG9 hE9
            go_wp2_with fail
            go_at_call 21
            refine hst.mono ?_
            rintro e w9 ⟨rfl, hb9⟩
            go_wp2
            go_ret
            exact ⟨rfl, hB9.trans hb9⟩
  · obtain ⟨-, rfl⟩ := h.resolve_left (fun h => hyes ⟨h.1, h.2.1, h.2.2.1⟩)
    go_wp2_with fail
    go_at_call 15
    refine (refNew8 w1 fr un).mono ?_
    rintro e w2 ⟨hB2, h⟩
    obtain ⟨-, rfl⟩ := h.resolve_left (fun h => hyes ⟨h.1, h.2.1, h.2.2.1⟩)
    go_wp2_with fail
    go_at_call 7
    refine (known8_any O N _).mono ?_
    rintro e w3 ⟨rfl, hb3⟩
    go_wp2
    go_ret
    exact ⟨rfl, hB1.trans ((hB2.mono hB1.size).trans (hb3.mono (Nat.le_trans hB1.size hB2.size)))⟩
end Go.Proofs.Ytafbkdpheneceaa
