
import Derived.Test.YtafbkdpheneceaaExtO
namespace Go.Proofs.Ytafbkdpheneceaa
open Go.RowKit

/-! ExtentTells, out of what extent owes -/
set_option linter.unusedSimpArgs false in
set_option maxRecDepth 100000 in
set_option maxHeartbeats 4000000 in
theorem lawExtTells_any {X : World → Value → XSt → List Nat → Prop} (O : ExtOk X) (N : ExtNil) (os : List Op8) (x : Option Addr) (ns c : Nat) (n : Int) (w : World) (hns : os.length = ns) (hmax : ns ≤ 140737488355328) (hos : ∀ o ∈ os, o.Ok) (hn : i64 n) (hK : IsK opE8 w (.slice x ns c) os) :
    Calls Try.prog 3 #[.slice x ns c, .int .i64 n] w fun e w' => e = .returned (.bool true) ∧ Below w.heap.size w w' := by
  obtain ⟨hn0, hn1⟩ := hn
  go_enter Try.func3, Try.ntmps3
  go_wp2_with fail
  go_at_call 6
  refine (O.new w 5 60 (by unfold i64; omega) (by unfold i64; omega)).mono ?_
  rintro e w1 ⟨hB1, h⟩
  obtain ⟨-, -, -, v, F, rfl, hX0, hF⟩ := h.resolve_right (fun h => h.1 (by omega))
  have hX1 : XAt X w.heap.size [] w1 v ⟨5, 60, fun _ => false⟩ := ⟨F, hX0, hF, by simp⟩
  obtain ⟨ad, rfl⟩ := hX1.ptr O
  clear hX0 hF h F
  go_wp2_with fail
  go_at_call 7
  refine (known8_any O N _).mono ?_
  rintro e w2 ⟨rfl, hb2⟩
  have hX2 := hX1.later O hb2
  have hB2 := hB1.trans (hb2.mono hB1.size)
  clear hX1 hB1 hb2
  go_wp2
  go_loopw [7] (fun iv wr => ∃ (i : Nat) (st : XSt), i ≤ ns ∧ iv = .int .i64 i ∧ st.fr = 5 ∧ st.hi = 60 ∧ XAt X w.heap.size [] wr (.pointer (some ad)) st ∧ Below w.heap.size w wr) (fun iv _ => ns - (intOf iv).toNat)
  case atStart => exact ⟨0, ⟨5, 60, fun _ => false⟩, by omega, rfl, rfl, rfl, hX2, hB2⟩
  case round =>
    clear hX2 hB2
    obtain ⟨i, st, hi, rfl, hfr, hhi, hX, hB⟩ := hrel
    by_cases hlt : i < ns
    · have hlt' : (i : Int) < (ns : Int) := by omega
      obtain ⟨o, ho⟩ : ∃ o, os[i]? = some o := ⟨_, List.getElem?_eq_getElem (by omega)⟩
      obtain ⟨hk1, -, ha1, hb1⟩ := hos o (List.mem_of_getElem? ho)
      obtain ⟨bl, of, rfl, hbl, hr⟩ := (hK.kept hB).at i o ho
      obtain ⟨c0, -, c2, c3⟩ := op8_cells hr
      rw [opE8_k] at c0 c2 c3
      clear hr ho
      have HX : Hid _ := hX
      have HB : Hid _ := hB
      clear hX hB
      obtain ⟨k1, k2⟩ := hk1
      by_cases hev : o.k.tmod 2 = 0
      · go_upto_region 8 with fail
        clear c0 k1 k2 hev
        have FK : Hid ((i : Int) < (ns : Int)) := hlt'
        clear hlt'
        refine wp_reliesT [Fx (.pointer (some ad)), Fx (.slice (some ⟨bl, of, none⟩) ns c), Fx (.int .i64 ((i : Int))), Fx (.pointer (some ⟨bl, of + i * 4, none⟩)), Fx (.pointer (some ⟨bl, of + i * 4 + 2, none⟩)), Fx (.int .i64 (o.a)), Fx (.slice (some ⟨bl, of, none⟩) ns c), Fx (.int .i64 ((i : Int))), Fx (.pointer (some ⟨bl, of + i * 4, none⟩)), Fx (.pointer (some ⟨bl, of + i * 4 + 3, none⟩)), Fx (.int .i64 (o.b))] (by kernel_rfl) (by kernel_rfl) ?_ ?_ ?_
        · repeat' (first | exact all_nil | apply all_cons)
          all_goals intro v y y' hv hb
          all_goals first | exact Fx_mono _ _ _ _ hv hb
        · refine ⟨?_, ?_, ?_, ?_, ?_, ?_, ?_, ?_, ?_, ?_, ?_, trivial⟩
          all_goals
            intro ρ x hp ρc ρg ρf ho hd
            have o5 : ρ (.tmp 5) = .pointer (some ad) := ho 5 rfl
            have o0 : ρ (.tmp 0) = .slice (some ⟨bl, of, none⟩) ns c := ho 0 rfl
            have o7 : ρ (.tmp 7) = .int .i64 ((i : Int)) := ho 7 rfl
            clear ho
            have d2 := cell_later hp c2
            have d3 := cell_later hp c3
            simp only [depsR, depR, slotR, Fx, List.getElem?_cons_succ, List.getElem?_cons_zero, Region.binds, forall_const] at hd
            simp only [guardR]
            go_split_ands
          · go_simp
          · go_simp
          · go_simp
          · have hq := FK.out
            go_simp
          · go_simp
          · go_simp
          · go_simp
          · go_simp
          · have hq := FK.out
            go_simp
          · go_simp
          · go_simp
        · intro vs x1 hp hw
          simp only [owed, Fx] at hw
          obtain ⟨e0, e1, e2, e3, e4, e5, e6, e7, e8, e9, e10, -⟩ := hw
          simp only [List.length_cons, List.length_nil, List.take_succ_cons, List.take_zero, List.drop_succ_cons, List.drop_zero, asg, List.cons_append, List.nil_append, e0, e1, e2, e3, e4, e5, e6, e7, e8, e9, e10]
          clear e0 e1 e2 e3 e4 e5 e6 e7 e8 e9 e10
          have hX := (XAt.later O HX.out hp).take O ((HB.out.trans (hp.mono HB.out.size)).size) o.a o.b ha1 hb1
          have hB := HB.out.trans (hp.mono HB.out.size)
          clear HX HB
          go_wp2_with fail
          go_at_call 8
          refine hX.mono ?_
          rintro e w5 ⟨rfl, hX5, hb5, -⟩
          have HX5 : Hid _ := hX5
          have HB5 : Hid _ := hB.trans hb5
          have hee := xTurn_ends st o.a o.b true
          have hfr5 : (xTurn st o.a o.b true).fr = 5 := by rw [hee.1]; exact hfr
          have hhi5 : (xTurn st o.a o.b true).hi = 60 := by rw [hee.2]; exact hhi
          have H5 : Hid _ := And.intro hfr5 hhi5
          clear hX hX5 hB hb5 hp hee hfr5 hhi5 c2 c3
          go_wp2
          go_roundw
          case rel => exact ⟨i + 1, _, by omega, by go_num, H5.out.1, H5.out.2, HX5.out, HB5.out⟩
          case measure => simp [intOf]; omega
      · go_upto_region 9 with fail
        clear c0 k1 k2 hev
        have FK : Hid ((i : Int) < (ns : Int)) := hlt'
        clear hlt'
        refine wp_reliesT [Fx (.pointer (some ad)), Fx (.slice (some ⟨bl, of, none⟩) ns c), Fx (.int .i64 ((i : Int))), Fx (.pointer (some ⟨bl, of + i * 4, none⟩)), Fx (.pointer (some ⟨bl, of + i * 4 + 2, none⟩)), Fx (.int .i64 (o.a)), Fx (.slice (some ⟨bl, of, none⟩) ns c), Fx (.int .i64 ((i : Int))), Fx (.pointer (some ⟨bl, of + i * 4, none⟩)), Fx (.pointer (some ⟨bl, of + i * 4 + 3, none⟩)), Fx (.int .i64 (o.b))] (by kernel_rfl) (by kernel_rfl) ?_ ?_ ?_
        · repeat' (first | exact all_nil | apply all_cons)
          all_goals intro v y y' hv hb
          all_goals first | exact Fx_mono _ _ _ _ hv hb
        · refine ⟨?_, ?_, ?_, ?_, ?_, ?_, ?_, ?_, ?_, ?_, ?_, trivial⟩
          all_goals
            intro ρ x hp ρc ρg ρf ho hd
            have o5 : ρ (.tmp 5) = .pointer (some ad) := ho 5 rfl
            have o0 : ρ (.tmp 0) = .slice (some ⟨bl, of, none⟩) ns c := ho 0 rfl
            have o7 : ρ (.tmp 7) = .int .i64 ((i : Int)) := ho 7 rfl
            clear ho
            have d2 := cell_later hp c2
            have d3 := cell_later hp c3
            simp only [depsR, depR, slotR, Fx, List.getElem?_cons_succ, List.getElem?_cons_zero, Region.binds, forall_const] at hd
            simp only [guardR]
            go_split_ands
          · go_simp
          · go_simp
          · go_simp
          · have hq := FK.out
            go_simp
          · go_simp
          · go_simp
          · go_simp
          · go_simp
          · have hq := FK.out
            go_simp
          · go_simp
          · go_simp
        · intro vs x1 hp hw
          simp only [owed, Fx] at hw
          obtain ⟨e0, e1, e2, e3, e4, e5, e6, e7, e8, e9, e10, -⟩ := hw
          simp only [List.length_cons, List.length_nil, List.take_succ_cons, List.take_zero, List.drop_succ_cons, List.drop_zero, asg, List.cons_append, List.nil_append, e0, e1, e2, e3, e4, e5, e6, e7, e8, e9, e10]
          clear e0 e1 e2 e3 e4 e5 e6 e7 e8 e9 e10
          have hX := (XAt.later O HX.out hp).free O ((HB.out.trans (hp.mono HB.out.size)).size) o.a o.b ha1 hb1
          have hB := HB.out.trans (hp.mono HB.out.size)
          clear HX HB
          go_wp2_with fail
          go_at_call 9
          refine hX.mono ?_
          rintro e w5 ⟨rfl, hX5, hb5, -⟩
          have HX5 : Hid _ := hX5
          have HB5 : Hid _ := hB.trans hb5
          have hee := xTurn_ends st o.a o.b false
          have hfr5 : (xTurn st o.a o.b false).fr = 5 := by rw [hee.1]; exact hfr
          have hhi5 : (xTurn st o.a o.b false).hi = 60 := by rw [hee.2]; exact hhi
          have H5 : Hid _ := And.intro hfr5 hhi5
          clear hX hX5 hB hb5 hp hee hfr5 hhi5 c2 c3
          go_wp2
          go_roundw
          case rel => exact ⟨i + 1, _, by omega, by go_num, H5.out.1, H5.out.2, HX5.out, HB5.out⟩
          case measure => simp [intOf]; omega
    · obtain rfl : i = ns := by omega
      clear hlt hi hK hos
      go_wp2_with fail
      go_at_call 10
      refine (hX.ranges O hB.size).mono ?_
      rintro e w5 ⟨y, cy, A, rfl, hO5, hX5, hA5, -, hb5, -⟩
      rw [List.append_nil] at hX5
      have hB5 := hB.trans hb5
      have hR : Rises 60 5 (xRuns st) := by
        have := runs_rises st.f (st.hi - st.fr) st.fr
        unfold xRuns
        rw [hfr, hhi] at this ⊢
        exact this
      have hin : ∀ k, isIn k (xRuns st) = (decide (5 ≤ k ∧ k < 60) && !st.f k) := fun k => by
        unfold xRuns
        rw [runs_in, hfr, hhi]
      have hsum : sumR (xRuns st) = xLeft st := runs_sum _ _ _
      have hcnt : cntIn (xRuns st) 70 = xLeft st := by
        unfold xRuns xLeft
        rw [cntIn_runs, show min (70 - st.fr) (st.hi - st.fr) = st.hi - st.fr by omega]
      have hlow : xLow st n = lowR n (xRuns st) := rfl
      have htk : ∀ k : Nat, xTaken st (k : Int) = (decide (5 ≤ k ∧ k < 60) && st.f k) := fun k => by
        unfold xTaken
        rw [hfr, hhi, Int.toNat_natCast]
        congr 1
        rw [decide_eq_decide]; omega
      clear hX hB hb5
      obtain ⟨R, hRd⟩ : ∃ R, xRuns st = R := ⟨_, rfl⟩
      rw [hRd] at hO5 hA5 hR hin hsum hcnt hlow ⊢
      clear hRd
      obtain ⟨L, hL⟩ : ∃ L, R.length = L := ⟨_, rfl⟩
      have hL60 : L ≤ 60 := by
        rcases rises_len hR with h | h
        · subst h; simp at hL; omega
        · omega
      rw [hL] at hO5 hA5 ⊢
      have HR : Hid (Rises 60 5 R) := hR
      have HT : Hid ((∀ k, isIn k R = (decide (5 ≤ k ∧ k < 60) && !st.f k)) ∧ sumR R = xLeft st ∧ cntIn R 70 = xLeft st ∧ xLow st n = lowR n R ∧ ∀ k : Nat, xTaken st (k : Int) = (decide (5 ≤ k ∧ k < 60) && st.f k)) := ⟨hin, hsum, hcnt, hlow, htk⟩
      have HO : Hid (OwnK prE w5 w.heap.size (.slice y L cy) (rI R)) := hO5
      have HX : Hid (XAt X w.heap.size A w5 (.pointer (some ad)) st) := hX5
      have HB : Hid (Below w.heap.size w w5) := hB5
      have HA : Hid (∀ q, (Value.slice y L cy).ownBlock = some q → q ∈ A) := hA5
      clear hin hsum hcnt hlow htk hO5 hX5 hB5 hA5 hR hfr hhi
      go_wp2
      go_loopw [9, 10, 11, 12] (fun sv fv bv iv wr => ∃ i : Nat, i ≤ L ∧ iv = .int .i64 i ∧ sv = .int .i64 (sumR (R.take i) : Nat) ∧ fv = .int .i64 ((lowR n (R.take i)).getD 0 : Nat) ∧ bv = .bool (lowR n (R.take i)).isSome ∧ Below w5.heap.size w5 wr) (fun _ _ _ iv _ => L - (intOf iv).toNat)
      case atStart => exact ⟨0, by omega, rfl, by simp [sumR], by simp [lowR], by simp [lowR], Below.refl _ _⟩
      case round =>
        obtain ⟨i, hi, rfl, rfl, rfl, rfl, hB5⟩ := hrel
        by_cases hlt : i < L
        · obtain ⟨p, hp⟩ : ∃ p, R[i]? = some p := ⟨_, List.getElem?_eq_getElem (by omega)⟩
          obtain ⟨q1, q2, q3⟩ := rises_at HR.out i p hp
          have hO := OwnK.keep HO.out hB5
          obtain ⟨g, rfl⟩ := slice_block hO (by rw [rI_len]; omega)
          obtain ⟨d0, d1⟩ := pr_cells (hO.range prE_ok i _ (rI_at hp))
          rw [prE_k] at d0 d1
          have hlt' : (i : Int) < (L : Int) := by omega
          have e1 := sumR_snoc R i p hp
          have e2 := lowR_snoc n R i p hp
          have hsl := sumR_le (rises_take HR.out i) (by omega)
          obtain ⟨pa, pn⟩ := p
          dsimp only at q1 q2 q3 d0 d1 e1 e2
          have F1 : Hid (¬ (pn : Int) < 1 ∧ ¬ (pa : Int) < 5 ∧ ¬ (60 : Int) < (pa : Int) + (pn : Int) ∧ IntKind.i64.wrap ((pa : Int) + (pn : Int)) = (pa : Int) + (pn : Int)) := ⟨by omega, by omega, by omega, by rw [IntKind.wrap_i64]; omega⟩
          have FK : Hid ((i : Int) < (L : Int)) := hlt'
          have hpv : ∀ j : Nat, i = j + 1 → ∃ qa qn : Nat, wr.cell? ⟨g, j * 2, none⟩ = some (.int .i64 (qa : Int)) ∧ wr.cell? ⟨g, j * 2 + 1, none⟩ = some (.int .i64 (qn : Int)) ∧ qa + qn < pa := fun j hj => by
            subst hj
            obtain ⟨q, hq⟩ : ∃ q, R[j]? = some q := ⟨_, List.getElem?_eq_getElem (by omega)⟩
            obtain ⟨f0, f1⟩ := pr_cells (hO.range prE_ok j _ (rI_at hq))
            rw [prE_k] at f0 f1
            exact ⟨q.1, q.2, f0, f1, rises_next HR.out j q _ hq hp⟩
          have HE : Hid _ := And.intro e1 e2
          have HQ : Hid (pa ≤ 60 ∧ pn ≤ 60) := by show _ ∧ _; omega
          have HB5 : Hid (Below w5.heap.size w5 wr) := hB5
          have hi0 : (0 : Int) ≤ (i : Int) := by omega
          clear hO hB5 q1 q2 q3 hp e1 e2
          by_cases hz : i = 0
          · have FZ : Hid (¬ 0 < i) := by show ¬ _; omega
            clear hpv hz
            go_upto_region 17 with fail
            clear hlt'
            refine wp_relies [Fx (.slice (some ⟨g, 0, none⟩) L cy), Fx (.int .i64 ((i : Int))), Fx (.pointer (some ⟨g, i * 2, none⟩)), Fx (.pointer (some ⟨g, i * 2 + 1, none⟩)), Fx (.int .i64 ((pn : Int))), Fx (.bool false), Fx (.bool false), Fx (.slice (some ⟨g, 0, none⟩) L cy), Fx (.int .i64 ((i : Int))), Fx (.pointer (some ⟨g, i * 2, none⟩)), Fx (.pointer (some ⟨g, i * 2, none⟩)), Fx (.int .i64 ((pa : Int))), Fx (.bool false), Fx (.bool false), Fx (.bool false), Fx (.slice (some ⟨g, 0, none⟩) L cy), Fx (.int .i64 ((i : Int))), Fx (.pointer (some ⟨g, i * 2, none⟩)), Fx (.pointer (some ⟨g, i * 2, none⟩)), Fx (.int .i64 ((pa : Int))), Fx (.slice (some ⟨g, 0, none⟩) L cy), Fx (.int .i64 ((i : Int))), Fx (.pointer (some ⟨g, i * 2, none⟩)), Fx (.pointer (some ⟨g, i * 2 + 1, none⟩)), Fx (.int .i64 ((pn : Int))), Fx (.int .i64 ((pa : Int) + (pn : Int))), Fx (.bool false), Fx (.bool false), Fx (.bool false), Fx (.int .i64 ((i : Int))), Fx (.bool false), Fx (.bool false), Fx (undef), Fx (undef), Fx (undef), Fx (undef), Fx (undef), Fx (undef), Fx (undef), Fx (undef), Fx (undef), Fx (undef), Fx (undef), Fx (undef), Fx (undef), Fx (undef), Fx (undef), Fx (undef), Fx (undef), Fx (undef), Fx (undef), Fx (.bool false), Fx (.bool false)] (by kernel_rfl) (by kernel_rfl) ?_ ?_ ?_
            · repeat' (first | exact all_nil | apply all_cons)
              all_goals intro v y y' hv hb
              all_goals first | exact Fx_mono _ _ _ _ hv hb
            · refine ⟨?_, ?_, ?_, ?_, ?_, ?_, ?_, ?_, ?_, ?_, ?_, ?_, ?_, ?_, ?_, ?_, ?_, ?_, ?_, ?_, ?_, ?_, ?_, ?_, ?_, ?_, ?_, ?_, ?_, ?_, ?_, ?_, ?_, ?_, ?_, ?_, ?_, ?_, ?_, ?_, ?_, ?_, ?_, ?_, ?_, ?_, ?_, ?_, ?_, ?_, ?_, ?_, ?_, trivial⟩
              all_goals
                intro ρ x hp ρc ρg ρf ho hd
                have o8 : ρ (.tmp 8) = .slice (some ⟨g, 0, none⟩) L cy := ho 8 rfl
                have o12 : ρ (.tmp 12) = .int .i64 ((i : Int)) := ho 12 rfl
                clear ho
                have k0 := cell_later hp d0
                have k1 := cell_later hp d1
                simp only [depsR, depR, slotR, Fx, List.getElem?_cons_succ, List.getElem?_cons_zero, Region.binds, forall_const] at hd
                simp only [guardR]
                go_split_ands
              · go_simp
              · go_simp
              · have hq := FK.out
                go_simp
              · go_simp
              · go_simp
              · obtain ⟨q1, q2, q3, q4⟩ := F1.out
                go_simp
              · go_simp
              · refine ⟨fun _ => ?_, fun hy => absurd (by simp [yieldR, slotR, *]) hy⟩
                go_simp
              · refine ⟨fun _ => ?_, fun hy => absurd (by simp [yieldR, slotR, *]) hy⟩
                go_simp
              · refine ⟨fun _ => ?_, fun hy => absurd (by simp [yieldR, slotR, *]) hy⟩
                have hq := FK.out
                go_simp
              · refine ⟨fun _ => ?_, fun hy => absurd (by simp [yieldR, slotR, *]) hy⟩
                go_simp
              · refine ⟨fun _ => ?_, fun hy => absurd (by simp [yieldR, slotR, *]) hy⟩
                go_simp
              · refine ⟨fun _ => ?_, fun hy => absurd (by simp [yieldR, slotR, *]) hy⟩
                obtain ⟨q1, q2, q3, q4⟩ := F1.out
                go_simp
              · go_simp
              · go_simp
              · refine ⟨fun _ => ?_, fun hy => absurd (by simp [yieldR, slotR, *]) hy⟩
                go_simp
              · refine ⟨fun _ => ?_, fun hy => absurd (by simp [yieldR, slotR, *]) hy⟩
                go_simp
              · refine ⟨fun _ => ?_, fun hy => absurd (by simp [yieldR, slotR, *]) hy⟩
                have hq := FK.out
                go_simp
              · refine ⟨fun _ => ?_, fun hy => absurd (by simp [yieldR, slotR, *]) hy⟩
                go_simp
              · refine ⟨fun _ => ?_, fun hy => absurd (by simp [yieldR, slotR, *]) hy⟩
                go_simp
              · refine ⟨fun _ => ?_, fun hy => absurd (by simp [yieldR, slotR, *]) hy⟩
                go_simp
              · refine ⟨fun _ => ?_, fun hy => absurd (by simp [yieldR, slotR, *]) hy⟩
                go_simp
              · refine ⟨fun _ => ?_, fun hy => absurd (by simp [yieldR, slotR, *]) hy⟩
                have hq := FK.out
                go_simp
              · refine ⟨fun _ => ?_, fun hy => absurd (by simp [yieldR, slotR, *]) hy⟩
                go_simp
              · refine ⟨fun _ => ?_, fun hy => absurd (by simp [yieldR, slotR, *]) hy⟩
                go_simp
              · refine ⟨fun _ => ?_, fun hy => absurd (by simp [yieldR, slotR, *]) hy⟩
                obtain ⟨q1, q2, q3, q4⟩ := F1.out
                go_simp
              · refine ⟨fun _ => ?_, fun hy => absurd (by simp [yieldR, slotR, *]) hy⟩
                obtain ⟨q1, q2, q3, q4⟩ := F1.out
                go_simp
              · go_simp
              · go_simp
              · refine ⟨fun _ => ?_, fun hy => absurd (by simp [yieldR, slotR, *]) hy⟩
                go_simp
              · refine ⟨fun _ => ?_, fun hy => absurd (by simp [yieldR, slotR, *]) hy⟩
                have hq := FZ.out
                go_simp
              · refine ⟨fun _ => ?_, fun hy => absurd (by simp [yieldR, slotR, *]) hy⟩
                go_simp
              · refine ⟨fun hy => ?_, fun _ => rfl⟩
                exfalso; simp [yieldR, slotR, undef, *] at hy
              · refine ⟨fun hy => ?_, fun _ => rfl⟩
                exfalso; simp [yieldR, slotR, undef, *] at hy
              · refine ⟨fun hy => ?_, fun _ => rfl⟩
                exfalso; simp [yieldR, slotR, undef, *] at hy
              · refine ⟨fun hy => ?_, fun _ => rfl⟩
                exfalso; simp [yieldR, slotR, undef, *] at hy
              · refine ⟨fun hy => ?_, fun _ => rfl⟩
                exfalso; simp [yieldR, slotR, undef, *] at hy
              · refine ⟨fun hy => ?_, fun _ => rfl⟩
                exfalso; simp [yieldR, slotR, undef, *] at hy
              · refine ⟨fun hy => ?_, fun _ => rfl⟩
                exfalso; simp [yieldR, slotR, undef, *] at hy
              · refine ⟨fun hy => ?_, fun _ => rfl⟩
                exfalso; simp [yieldR, slotR, undef, *] at hy
              · refine ⟨fun hy => ?_, fun _ => rfl⟩
                exfalso; simp [yieldR, slotR, undef, *] at hy
              · refine ⟨fun hy => ?_, fun _ => rfl⟩
                exfalso; simp [yieldR, slotR, undef, *] at hy
              · refine ⟨fun hy => ?_, fun _ => rfl⟩
                exfalso; simp [yieldR, slotR, undef, *] at hy
              · refine ⟨fun hy => ?_, fun _ => rfl⟩
                exfalso; simp [yieldR, slotR, undef, *] at hy
              · refine ⟨fun hy => ?_, fun _ => rfl⟩
                exfalso; simp [yieldR, slotR, undef, *] at hy
              · refine ⟨fun hy => ?_, fun _ => rfl⟩
                exfalso; simp [yieldR, slotR, undef, *] at hy
              · refine ⟨fun hy => ?_, fun _ => rfl⟩
                exfalso; simp [yieldR, slotR, undef, *] at hy
              · refine ⟨fun hy => ?_, fun _ => rfl⟩
                exfalso; simp [yieldR, slotR, undef, *] at hy
              · refine ⟨fun hy => ?_, fun _ => rfl⟩
                exfalso; simp [yieldR, slotR, undef, *] at hy
              · refine ⟨fun hy => ?_, fun _ => rfl⟩
                exfalso; simp [yieldR, slotR, undef, *] at hy
              · refine ⟨fun hy => ?_, fun _ => rfl⟩
                exfalso; simp [yieldR, slotR, undef, *] at hy
              · refine ⟨fun _ => ?_, fun hy => absurd (by simp [yieldR, slotR, *]) hy⟩
                go_simp
              · go_simp
            · intro vs x1 hp hw
              simp only [owed, Fx] at hw
              obtain ⟨e0, e1, e2, e3, e4, e5, e6, e7, e8, e9, e10, e11, e12, e13, e14, e15, e16, e17, e18, e19, e20, e21, e22, e23, e24, e25, e26, e27, e28, e29, e30, e31, e32, e33, e34, e35, e36, e37, e38, e39, e40, e41, e42, e43, e44, e45, e46, e47, e48, e49, e50, e51, e52, -⟩ := hw
              simp only [List.length_cons, List.length_nil, List.take_succ_cons, List.take_nil, List.drop_succ_cons, List.drop_nil, asg, List.cons_append, List.nil_append, e0, e1, e2, e3, e4, e5, e6, e7, e8, e9, e10, e11, e12, e13, e14, e15, e16, e17, e18, e19, e20, e21, e22, e23, e24, e25, e26, e27, e28, e29, e30, e31, e32, e33, e34, e35, e36, e37, e38, e39, e40, e41, e42, e43, e44, e45, e46, e47, e48, e49, e50, e51, e52]
              clear e0 e1 e2 e3 e4 e5 e6 e7 e8 e9 e10 e11 e12 e13 e14 e15 e16 e17 e18 e19 e20 e21 e22 e23 e24 e25 e26 e27 e28 e29 e30 e31 e32 e33 e34 e35 e36 e37 e38 e39 e40 e41 e42 e43 e44 e45 e46 e47 e48 e49 e50 e51 e52
              have HB6 : Hid _ := HB5.out.trans (hp.mono (Below.size HB5.out))
              have hlt' : (i : Int) < (L : Int) := FK.out
              have c0 := cell_later hp d0
              have c1 := cell_later hp d1
              clear d0 d1 hp HB5 F1 FZ FK
              obtain ⟨sm, hsm⟩ : ∃ sm, sumR (R.take i) = sm := ⟨_, rfl⟩
              obtain ⟨lo, hlo⟩ : ∃ lo, lowR n (R.take i) = lo := ⟨_, rfl⟩
              obtain ⟨e1, e2⟩ := HE.out
              rw [hsm] at e1 hsl ⊢
              rw [hlo] at e2 ⊢
              have hsm6 : sm ≤ 60 := by omega
              have hpn6 := HQ.out.2
              have HE1 : Hid (sumR (R.take (i + 1)) = sm + pn) := e1
              clear e1 hsm hsl HE HQ
              cases lo with
              | some a0 =>
                have HE2 : Hid (lowR n (R.take (i + 1)) = some a0) := e2
                clear e2 hlo
                go_wp2
                go_roundw
                case rel => exact ⟨i + 1, by omega, by go_num, by rw [HE1.out]; go_num, by simp [HE2.out], by simp [HE2.out], HB6.out⟩
                case measure => simp [intOf]; omega
              | none =>
                by_cases hyn : 0 < n
                · by_cases hyp : n ≤ (pn : Int)
                  · have HE2 : Hid (lowR n (R.take (i + 1)) = some pa) := by show _ = _; rw [e2]; simp only; rw [if_pos ⟨hyn, hyp⟩]
                    clear e2 hlo
                    go_wp2
                    go_roundw
                    case rel => exact ⟨i + 1, by omega, by go_num, by rw [HE1.out]; go_num, by simp [HE2.out], by simp [HE2.out], HB6.out⟩
                    case measure => simp [intOf]; omega
                  · have HE2 : Hid (lowR n (R.take (i + 1)) = none) := by show _ = _; rw [e2]; simp only; rw [if_neg (fun h => hyp h.2)]
                    clear e2 hlo
                    go_wp2
                    go_roundw
                    case rel => exact ⟨i + 1, by omega, by go_num, by rw [HE1.out]; go_num, by simp [HE2.out], by simp [HE2.out], HB6.out⟩
                    case measure => simp [intOf]; omega
                · have HE2 : Hid (lowR n (R.take (i + 1)) = none) := by show _ = _; rw [e2]; simp only; rw [if_neg (fun h => hyn h.1)]
                  clear e2 hlo
                  go_wp2
                  go_roundw
                  case rel => exact ⟨i + 1, by omega, by go_num, by rw [HE1.out]; go_num, by simp [HE2.out], by simp [HE2.out], HB6.out⟩
                  case measure => simp [intOf]; omega
          · obtain ⟨j, hj⟩ : ∃ j, i = j + 1 := ⟨i - 1, by omega⟩
            obtain ⟨qa, qn, f0, f1, hq⟩ := hpv j hj
            have FZ : Hid (0 < i) := by show _ < _; omega
            have FJ : Hid ((i : Int) - 1 = (j : Int) ∧ IntKind.i64.wrap (j : Int) = (j : Int) ∧ (j : Int) < (L : Int)) := ⟨by omega, by rw [IntKind.wrap_i64]; omega, by omega⟩
            have F2 : Hid (¬ (pa : Int) ≤ (qa : Int) + (qn : Int) ∧ IntKind.i64.wrap ((qa : Int) + (qn : Int)) = (qa : Int) + (qn : Int)) := ⟨by have := HQ.out; omega, by have := HQ.out; rw [IntKind.wrap_i64]; omega⟩
            clear hpv hq hj hz
            go_upto_region 17 with fail
            clear hlt'
            refine wp_relies [Fx (.slice (some ⟨g, 0, none⟩) L cy), Fx (.int .i64 ((i : Int))), Fx (.pointer (some ⟨g, i * 2, none⟩)), Fx (.pointer (some ⟨g, i * 2 + 1, none⟩)), Fx (.int .i64 ((pn : Int))), Fx (.bool false), Fx (.bool false), Fx (.slice (some ⟨g, 0, none⟩) L cy), Fx (.int .i64 ((i : Int))), Fx (.pointer (some ⟨g, i * 2, none⟩)), Fx (.pointer (some ⟨g, i * 2, none⟩)), Fx (.int .i64 ((pa : Int))), Fx (.bool false), Fx (.bool false), Fx (.bool false), Fx (.slice (some ⟨g, 0, none⟩) L cy), Fx (.int .i64 ((i : Int))), Fx (.pointer (some ⟨g, i * 2, none⟩)), Fx (.pointer (some ⟨g, i * 2, none⟩)), Fx (.int .i64 ((pa : Int))), Fx (.slice (some ⟨g, 0, none⟩) L cy), Fx (.int .i64 ((i : Int))), Fx (.pointer (some ⟨g, i * 2, none⟩)), Fx (.pointer (some ⟨g, i * 2 + 1, none⟩)), Fx (.int .i64 ((pn : Int))), Fx (.int .i64 ((pa : Int) + (pn : Int))), Fx (.bool false), Fx (.bool false), Fx (.bool false), Fx (.int .i64 ((i : Int))), Fx (.bool true), Fx (.bool true), Fx (.slice (some ⟨g, 0, none⟩) L cy), Fx (.int .i64 ((i : Int))), Fx (.int .i64 ((j : Int))), Fx (.pointer (some ⟨g, j * 2, none⟩)), Fx (.pointer (some ⟨g, j * 2, none⟩)), Fx (.int .i64 ((qa : Int))), Fx (.slice (some ⟨g, 0, none⟩) L cy), Fx (.int .i64 ((i : Int))), Fx (.int .i64 ((j : Int))), Fx (.pointer (some ⟨g, j * 2, none⟩)), Fx (.pointer (some ⟨g, j * 2 + 1, none⟩)), Fx (.int .i64 ((qn : Int))), Fx (.int .i64 ((qa : Int) + (qn : Int))), Fx (.slice (some ⟨g, 0, none⟩) L cy), Fx (.int .i64 ((i : Int))), Fx (.pointer (some ⟨g, i * 2, none⟩)), Fx (.pointer (some ⟨g, i * 2, none⟩)), Fx (.int .i64 ((pa : Int))), Fx (.bool false), Fx (.bool false), Fx (.bool false)] (by kernel_rfl) (by kernel_rfl) ?_ ?_ ?_
            · repeat' (first | exact all_nil | apply all_cons)
              all_goals intro v y y' hv hb
              all_goals first | exact Fx_mono _ _ _ _ hv hb
            · refine ⟨?_, ?_, ?_, ?_, ?_, ?_, ?_, ?_, ?_, ?_, ?_, ?_, ?_, ?_, ?_, ?_, ?_, ?_, ?_, ?_, ?_, ?_, ?_, ?_, ?_, ?_, ?_, ?_, ?_, ?_, ?_, ?_, ?_, ?_, ?_, ?_, ?_, ?_, ?_, ?_, ?_, ?_, ?_, ?_, ?_, ?_, ?_, ?_, ?_, ?_, ?_, ?_, ?_, trivial⟩
              all_goals
                intro ρ x hp ρc ρg ρf ho hd
                have o8 : ρ (.tmp 8) = .slice (some ⟨g, 0, none⟩) L cy := ho 8 rfl
                have o12 : ρ (.tmp 12) = .int .i64 ((i : Int)) := ho 12 rfl
                clear ho
                have k0 := cell_later hp d0
                have k1 := cell_later hp d1
                have k2 := cell_later hp f0
                have k3 := cell_later hp f1
                simp only [depsR, depR, slotR, Fx, List.getElem?_cons_succ, List.getElem?_cons_zero, Region.binds, forall_const] at hd
                simp only [guardR]
                go_split_ands
              · go_simp
              · go_simp
              · have hq := FK.out
                go_simp
              · go_simp
              · go_simp
              · obtain ⟨q1, q2, q3, q4⟩ := F1.out
                go_simp
              · go_simp
              · refine ⟨fun _ => ?_, fun hy => absurd (by simp [yieldR, slotR, *]) hy⟩
                go_simp
              · refine ⟨fun _ => ?_, fun hy => absurd (by simp [yieldR, slotR, *]) hy⟩
                go_simp
              · refine ⟨fun _ => ?_, fun hy => absurd (by simp [yieldR, slotR, *]) hy⟩
                have hq := FK.out
                go_simp
              · refine ⟨fun _ => ?_, fun hy => absurd (by simp [yieldR, slotR, *]) hy⟩
                go_simp
              · refine ⟨fun _ => ?_, fun hy => absurd (by simp [yieldR, slotR, *]) hy⟩
                go_simp
              · refine ⟨fun _ => ?_, fun hy => absurd (by simp [yieldR, slotR, *]) hy⟩
                obtain ⟨q1, q2, q3, q4⟩ := F1.out
                go_simp
              · go_simp
              · go_simp
              · refine ⟨fun _ => ?_, fun hy => absurd (by simp [yieldR, slotR, *]) hy⟩
                go_simp
              · refine ⟨fun _ => ?_, fun hy => absurd (by simp [yieldR, slotR, *]) hy⟩
                go_simp
              · refine ⟨fun _ => ?_, fun hy => absurd (by simp [yieldR, slotR, *]) hy⟩
                have hq := FK.out
                go_simp
              · refine ⟨fun _ => ?_, fun hy => absurd (by simp [yieldR, slotR, *]) hy⟩
                go_simp
              · refine ⟨fun _ => ?_, fun hy => absurd (by simp [yieldR, slotR, *]) hy⟩
                go_simp
              · refine ⟨fun _ => ?_, fun hy => absurd (by simp [yieldR, slotR, *]) hy⟩
                go_simp
              · refine ⟨fun _ => ?_, fun hy => absurd (by simp [yieldR, slotR, *]) hy⟩
                go_simp
              · refine ⟨fun _ => ?_, fun hy => absurd (by simp [yieldR, slotR, *]) hy⟩
                have hq := FK.out
                go_simp
              · refine ⟨fun _ => ?_, fun hy => absurd (by simp [yieldR, slotR, *]) hy⟩
                go_simp
              · refine ⟨fun _ => ?_, fun hy => absurd (by simp [yieldR, slotR, *]) hy⟩
                go_simp
              · refine ⟨fun _ => ?_, fun hy => absurd (by simp [yieldR, slotR, *]) hy⟩
                obtain ⟨q1, q2, q3, q4⟩ := F1.out
                go_simp
              · refine ⟨fun _ => ?_, fun hy => absurd (by simp [yieldR, slotR, *]) hy⟩
                obtain ⟨q1, q2, q3, q4⟩ := F1.out
                go_simp
              · go_simp
              · go_simp
              · refine ⟨fun _ => ?_, fun hy => absurd (by simp [yieldR, slotR, *]) hy⟩
                go_simp
              · refine ⟨fun _ => ?_, fun hy => absurd (by simp [yieldR, slotR, *]) hy⟩
                have hq := FZ.out
                go_simp
              · refine ⟨fun _ => ?_, fun hy => absurd (by simp [yieldR, slotR, *]) hy⟩
                go_simp
              · refine ⟨fun _ => ?_, fun hy => absurd (by simp [yieldR, slotR, *]) hy⟩
                go_simp
              · refine ⟨fun _ => ?_, fun hy => absurd (by simp [yieldR, slotR, *]) hy⟩
                go_simp
              · refine ⟨fun _ => ?_, fun hy => absurd (by simp [yieldR, slotR, *]) hy⟩
                obtain ⟨q1, q2, q3⟩ := FJ.out
                go_simp
              · refine ⟨fun _ => ?_, fun hy => absurd (by simp [yieldR, slotR, *]) hy⟩
                obtain ⟨q1, q2, q3⟩ := FJ.out
                go_simp
              · refine ⟨fun _ => ?_, fun hy => absurd (by simp [yieldR, slotR, *]) hy⟩
                go_simp
              · refine ⟨fun _ => ?_, fun hy => absurd (by simp [yieldR, slotR, *]) hy⟩
                go_simp
              · refine ⟨fun _ => ?_, fun hy => absurd (by simp [yieldR, slotR, *]) hy⟩
                go_simp
              · refine ⟨fun _ => ?_, fun hy => absurd (by simp [yieldR, slotR, *]) hy⟩
                go_simp
              · refine ⟨fun _ => ?_, fun hy => absurd (by simp [yieldR, slotR, *]) hy⟩
                obtain ⟨q1, q2, q3⟩ := FJ.out
                go_simp
              · refine ⟨fun _ => ?_, fun hy => absurd (by simp [yieldR, slotR, *]) hy⟩
                obtain ⟨q1, q2, q3⟩ := FJ.out
                go_simp
              · refine ⟨fun _ => ?_, fun hy => absurd (by simp [yieldR, slotR, *]) hy⟩
                go_simp
              · refine ⟨fun _ => ?_, fun hy => absurd (by simp [yieldR, slotR, *]) hy⟩
                go_simp
              · refine ⟨fun _ => ?_, fun hy => absurd (by simp [yieldR, slotR, *]) hy⟩
                obtain ⟨q1, q2⟩ := F2.out
                go_simp
              · refine ⟨fun _ => ?_, fun hy => absurd (by simp [yieldR, slotR, *]) hy⟩
                go_simp
              · refine ⟨fun _ => ?_, fun hy => absurd (by simp [yieldR, slotR, *]) hy⟩
                go_simp
              · refine ⟨fun _ => ?_, fun hy => absurd (by simp [yieldR, slotR, *]) hy⟩
                have hq := FK.out
                go_simp
              · refine ⟨fun _ => ?_, fun hy => absurd (by simp [yieldR, slotR, *]) hy⟩
                go_simp
              · refine ⟨fun _ => ?_, fun hy => absurd (by simp [yieldR, slotR, *]) hy⟩
                go_simp
              · refine ⟨fun _ => ?_, fun hy => absurd (by simp [yieldR, slotR, *]) hy⟩
                obtain ⟨q1, q2⟩ := F2.out
                go_simp
              · refine ⟨fun _ => ?_, fun hy => absurd (by simp [yieldR, slotR, *]) hy⟩
                go_simp
              · go_simp
            · intro vs x1 hp hw
              simp only [owed, Fx] at hw
              obtain ⟨e0, e1, e2, e3, e4, e5, e6, e7, e8, e9, e10, e11, e12, e13, e14, e15, e16, e17, e18, e19, e20, e21, e22, e23, e24, e25, e26, e27, e28, e29, e30, e31, e32, e33, e34, e35, e36, e37, e38, e39, e40, e41, e42, e43, e44, e45, e46, e47, e48, e49, e50, e51, e52, -⟩ := hw
              simp only [List.length_cons, List.length_nil, List.take_succ_cons, List.take_nil, List.drop_succ_cons, List.drop_nil, asg, List.cons_append, List.nil_append, e0, e1, e2, e3, e4, e5, e6, e7, e8, e9, e10, e11, e12, e13, e14, e15, e16, e17, e18, e19, e20, e21, e22, e23, e24, e25, e26, e27, e28, e29, e30, e31, e32, e33, e34, e35, e36, e37, e38, e39, e40, e41, e42, e43, e44, e45, e46, e47, e48, e49, e50, e51, e52]
              clear e0 e1 e2 e3 e4 e5 e6 e7 e8 e9 e10 e11 e12 e13 e14 e15 e16 e17 e18 e19 e20 e21 e22 e23 e24 e25 e26 e27 e28 e29 e30 e31 e32 e33 e34 e35 e36 e37 e38 e39 e40 e41 e42 e43 e44 e45 e46 e47 e48 e49 e50 e51 e52
              have HB6 : Hid _ := HB5.out.trans (hp.mono (Below.size HB5.out))
              have hlt' : (i : Int) < (L : Int) := FK.out
              have c0 := cell_later hp d0
              have c1 := cell_later hp d1
              clear d0 d1 hp HB5 F1 FZ FK F2 FJ f0 f1
              obtain ⟨sm, hsm⟩ : ∃ sm, sumR (R.take i) = sm := ⟨_, rfl⟩
              obtain ⟨lo, hlo⟩ : ∃ lo, lowR n (R.take i) = lo := ⟨_, rfl⟩
              obtain ⟨e1, e2⟩ := HE.out
              rw [hsm] at e1 hsl ⊢
              rw [hlo] at e2 ⊢
              have hsm6 : sm ≤ 60 := by omega
              have hpn6 := HQ.out.2
              have HE1 : Hid (sumR (R.take (i + 1)) = sm + pn) := e1
              clear e1 hsm hsl HE HQ
              cases lo with
              | some a0 =>
                have HE2 : Hid (lowR n (R.take (i + 1)) = some a0) := e2
                clear e2 hlo
                go_wp2
                go_roundw
                case rel => exact ⟨i + 1, by omega, by go_num, by rw [HE1.out]; go_num, by simp [HE2.out], by simp [HE2.out], HB6.out⟩
                case measure => simp [intOf]; omega
              | none =>
                by_cases hyn : 0 < n
                · by_cases hyp : n ≤ (pn : Int)
                  · have HE2 : Hid (lowR n (R.take (i + 1)) = some pa) := by show _ = _; rw [e2]; simp only; rw [if_pos ⟨hyn, hyp⟩]
                    clear e2 hlo
                    go_wp2
                    go_roundw
                    case rel => exact ⟨i + 1, by omega, by go_num, by rw [HE1.out]; go_num, by simp [HE2.out], by simp [HE2.out], HB6.out⟩
                    case measure => simp [intOf]; omega
                  · have HE2 : Hid (lowR n (R.take (i + 1)) = none) := by show _ = _; rw [e2]; simp only; rw [if_neg (fun h => hyp h.2)]
                    clear e2 hlo
                    go_wp2
                    go_roundw
                    case rel => exact ⟨i + 1, by omega, by go_num, by rw [HE1.out]; go_num, by simp [HE2.out], by simp [HE2.out], HB6.out⟩
                    case measure => simp [intOf]; omega
                · have HE2 : Hid (lowR n (R.take (i + 1)) = none) := by show _ = _; rw [e2]; simp only; rw [if_neg (fun h => hyn h.1)]
                  clear e2 hlo
                  go_wp2
                  go_roundw
                  case rel => exact ⟨i + 1, by omega, by go_num, by rw [HE1.out]; go_num, by simp [HE2.out], by simp [HE2.out], HB6.out⟩
                  case measure => simp [intOf]; omega
        · obtain rfl : i = L := by omega
          have htake : R.take i = R := List.take_of_length_le (by omega)
          rw [htake]
          clear htake hlt hi
          have hX5 := XAt.later O HX.out hB5
          have hO5 := OwnK.keep HO.out hB5
          have hb5 := HB.out.trans (hB5.mono (Below.size HB.out))
          clear hB5 HX HO HB
          go_wp2
          go_loopw [13, 14] (fun fv av wr => ∃ t : Nat, t ≤ 70 ∧ av = .int .i64 t ∧ fv = .int .i64 (cntIn R t : Nat) ∧ XAt X w.heap.size A wr (.pointer (some ad)) st ∧ OwnK prE wr w.heap.size (.slice y i cy) (rI R) ∧ Below w.heap.size w wr) (fun _ av _ => 70 - (intOf av).toNat)
          case atStart => exact ⟨0, by omega, rfl, rfl, hX5, hO5, hb5⟩
          case round =>
            clear hX5 hO5 hb5
            obtain ⟨t, ht, rfl, rfl, hX, hO, hB⟩ := hrel
            obtain ⟨wo, rfl⟩ : ∃ wo, wo = wr := ⟨_, rfl⟩
            by_cases hlt : t < 70
            · have hlt' : (t : Int) < 70 := by omega
              have HX : Hid _ := hX
              have HB : Hid _ := hB
              clear hX hB
              go_wp2
              clear hlt'
              go_loopw [15, 16] (fun bv jv wi => ∃ j : Nat, j ≤ i ∧ jv = .int .i64 j ∧ bv = .bool (isIn t (R.take j)) ∧ Below wo.heap.size wo wi) (fun _ jv _ => i - (intOf jv).toNat)
              case atStart => exact ⟨0, by omega, rfl, by simp [isIn], Below.refl _ _⟩
              case round =>
                obtain ⟨j, hj, rfl, rfl, hBi⟩ := hrel
                by_cases hji : j < i
                · have hji' : (j : Int) < (i : Int) := by omega
                  obtain ⟨p, hp⟩ : ∃ p, R[j]? = some p := ⟨_, List.getElem?_eq_getElem (by omega)⟩
                  obtain ⟨q1, q2, q3⟩ := rises_at HR.out j p hp
                  obtain ⟨g, rfl⟩ := slice_block hO (by rw [rI_len]; omega)
                  obtain ⟨d0, d1⟩ := pr_cells ((hO.keep hBi).range prE_ok j _ (rI_at hp))
                  rw [prE_k] at d0 d1
                  have e1 := isIn_snoc t R j p hp
                  obtain ⟨pa, pn⟩ := p
                  dsimp only at q1 q2 q3 d0 d1 e1
                  have FK : Hid ((j : Int) < (i : Int)) := hji'
                  have FW : Hid (IntKind.i64.wrap ((pa : Int) + (pn : Int)) = (pa : Int) + (pn : Int)) := by show _ = _; rw [IntKind.wrap_i64]; omega
                  have HBi : Hid (Below wo.heap.size wo wr) := hBi
                  have HO : Hid (OwnK prE wo w.heap.size (.slice (some ⟨g, 0, none⟩) i cy) (rI R)) := hO
                  obtain ⟨inn, hinn⟩ : ∃ inn, isIn t (R.take j) = inn := ⟨_, rfl⟩
                  rw [hinn] at e1 ⊢
                  clear hinn hp hO hBi
                  cases inn
                  · by_cases hge : pa ≤ t
                    · by_cases hlt2 : t < pa + pn
                      · have HE : Hid (isIn t (R.take (j + 1)) = true) := by show _ = _; rw [e1, decide_eq_true ⟨hge, hlt2⟩]; rfl
                        have F1 : Hid ((pa : Int) ≤ (t : Int) ∧ (t : Int) < (pa : Int) + (pn : Int)) := by show _ ∧ _; omega
                        clear e1 hge hlt2
                        go_upto_region 31 with fail
                        clear hji'
                        refine wp_reliesT [Fx (.bool false), Fx (.bool false), Fx (.int .i64 ((t : Int))), Fx (.slice (some ⟨g, 0, none⟩) i cy), Fx (.int .i64 ((j : Int))), Fx (.pointer (some ⟨g, j * 2, none⟩)), Fx (.pointer (some ⟨g, j * 2, none⟩)), Fx (.int .i64 ((pa : Int))), Fx (.bool true), Fx (.bool true), Fx (.int .i64 ((t : Int))), Fx (.slice (some ⟨g, 0, none⟩) i cy), Fx (.int .i64 ((j : Int))), Fx (.pointer (some ⟨g, j * 2, none⟩)), Fx (.pointer (some ⟨g, j * 2, none⟩)), Fx (.int .i64 ((pa : Int))), Fx (.slice (some ⟨g, 0, none⟩) i cy), Fx (.int .i64 ((j : Int))), Fx (.pointer (some ⟨g, j * 2, none⟩)), Fx (.pointer (some ⟨g, j * 2 + 1, none⟩)), Fx (.int .i64 ((pn : Int))), Fx (.int .i64 ((pa : Int) + (pn : Int))), Fx (.bool true), Fx (.bool true), Fx (.bool true)] (by kernel_rfl) (by kernel_rfl) ?_ ?_ ?_
                        · repeat' (first | exact all_nil | apply all_cons)
                          all_goals intro v y y' hv hb
                          all_goals first | exact Fx_mono _ _ _ _ hv hb
                        · refine ⟨?_, ?_, ?_, ?_, ?_, ?_, ?_, ?_, ?_, ?_, ?_, ?_, ?_, ?_, ?_, ?_, ?_, ?_, ?_, ?_, ?_, ?_, ?_, ?_, ?_, trivial⟩
                          all_goals
                            intro ρ x hp ρc ρg ρf ho hd
                            have o8 : ρ (.tmp 8) = .slice (some ⟨g, 0, none⟩) i cy := ho 8 rfl
                            have o14 : ρ (.tmp 14) = .int .i64 ((t : Int)) := ho 14 rfl
                            have o15 : ρ (.tmp 15) = .bool false := ho 15 rfl
                            have o16 : ρ (.tmp 16) = .int .i64 ((j : Int)) := ho 16 rfl
                            clear ho
                            have k0 := cell_later hp d0
                            have k1 := cell_later hp d1
                            simp only [depsR, depR, slotR, Fx, List.getElem?_cons_succ, List.getElem?_cons_zero, Region.binds, forall_const] at hd
                            simp only [guardR]
                            go_split_ands
                          · go_simp
                          · go_simp
                          · refine ⟨fun _ => ?_, fun hy => absurd (by simp [yieldR, slotR, *]) hy⟩
                            go_simp
                          · refine ⟨fun _ => ?_, fun hy => absurd (by simp [yieldR, slotR, *]) hy⟩
                            go_simp
                          · refine ⟨fun _ => ?_, fun hy => absurd (by simp [yieldR, slotR, *]) hy⟩
                            go_simp
                          · refine ⟨fun _ => ?_, fun hy => absurd (by simp [yieldR, slotR, *]) hy⟩
                            have hq := FK.out
                            go_simp
                          · refine ⟨fun _ => ?_, fun hy => absurd (by simp [yieldR, slotR, *]) hy⟩
                            go_simp
                          · refine ⟨fun _ => ?_, fun hy => absurd (by simp [yieldR, slotR, *]) hy⟩
                            go_simp
                          · refine ⟨fun _ => ?_, fun hy => absurd (by simp [yieldR, slotR, *]) hy⟩
                            obtain ⟨q1, q2⟩ := F1.out
                            go_simp
                          · refine ⟨fun _ => ?_, fun hy => absurd (by simp [yieldR, slotR, *]) hy⟩
                            go_simp
                          · refine ⟨fun _ => ?_, fun hy => absurd (by simp [yieldR, slotR, *]) hy⟩
                            go_simp
                          · refine ⟨fun _ => ?_, fun hy => absurd (by simp [yieldR, slotR, *]) hy⟩
                            go_simp
                          · refine ⟨fun _ => ?_, fun hy => absurd (by simp [yieldR, slotR, *]) hy⟩
                            go_simp
                          · refine ⟨fun _ => ?_, fun hy => absurd (by simp [yieldR, slotR, *]) hy⟩
                            have hq := FK.out
                            go_simp
                          · refine ⟨fun _ => ?_, fun hy => absurd (by simp [yieldR, slotR, *]) hy⟩
                            go_simp
                          · refine ⟨fun _ => ?_, fun hy => absurd (by simp [yieldR, slotR, *]) hy⟩
                            go_simp
                          · refine ⟨fun _ => ?_, fun hy => absurd (by simp [yieldR, slotR, *]) hy⟩
                            go_simp
                          · refine ⟨fun _ => ?_, fun hy => absurd (by simp [yieldR, slotR, *]) hy⟩
                            go_simp
                          · refine ⟨fun _ => ?_, fun hy => absurd (by simp [yieldR, slotR, *]) hy⟩
                            have hq := FK.out
                            go_simp
                          · refine ⟨fun _ => ?_, fun hy => absurd (by simp [yieldR, slotR, *]) hy⟩
                            go_simp
                          · refine ⟨fun _ => ?_, fun hy => absurd (by simp [yieldR, slotR, *]) hy⟩
                            go_simp
                          · refine ⟨fun _ => ?_, fun hy => absurd (by simp [yieldR, slotR, *]) hy⟩
                            have q1 := FW.out
                            go_simp
                          · refine ⟨fun _ => ?_, fun hy => absurd (by simp [yieldR, slotR, *]) hy⟩
                            obtain ⟨q1, q2⟩ := F1.out
                            go_simp
                          · refine ⟨fun _ => ?_, fun hy => absurd (by simp [yieldR, slotR, *]) hy⟩
                            go_simp
                          · go_simp
                        · intro vs x1 hp hw
                          simp only [owed, Fx] at hw
                          obtain ⟨e0, e1, e2, e3, e4, e5, e6, e7, e8, e9, e10, e11, e12, e13, e14, e15, e16, e17, e18, e19, e20, e21, e22, e23, e24, -⟩ := hw
                          simp only [List.length_cons, List.length_nil, List.take_succ_cons, List.take_zero, List.drop_succ_cons, List.drop_zero, asg, List.cons_append, List.nil_append, e0, e1, e2, e3, e4, e5, e6, e7, e8, e9, e10, e11, e12, e13, e14, e15, e16, e17, e18, e19, e20, e21, e22, e23, e24]
                          clear e0 e1 e2 e3 e4 e5 e6 e7 e8 e9 e10 e11 e12 e13 e14 e15 e16 e17 e18 e19 e20 e21 e22 e23 e24
                          have HB6 : Hid _ := HBi.out.trans (hp.mono (Below.size HBi.out))
                          clear d0 d1 hp HBi FK FW
                          go_wp2
                          go_roundw
                          case rel => exact ⟨j + 1, by omega, by go_num, by rw [HE.out], HB6.out⟩
                          case measure => simp [intOf]; omega
                      · have HE : Hid (isIn t (R.take (j + 1)) = false) := by show _ = _; rw [e1, decide_eq_false (fun h => hlt2 h.2)]; rfl
                        have F1 : Hid ((pa : Int) ≤ (t : Int) ∧ ¬ (t : Int) < (pa : Int) + (pn : Int)) := by show _ ∧ _; omega
                        clear e1 hge hlt2
                        go_upto_region 31 with fail
                        clear hji'
                        refine wp_reliesT [Fx (.bool false), Fx (.bool false), Fx (.int .i64 ((t : Int))), Fx (.slice (some ⟨g, 0, none⟩) i cy), Fx (.int .i64 ((j : Int))), Fx (.pointer (some ⟨g, j * 2, none⟩)), Fx (.pointer (some ⟨g, j * 2, none⟩)), Fx (.int .i64 ((pa : Int))), Fx (.bool true), Fx (.bool true), Fx (.int .i64 ((t : Int))), Fx (.slice (some ⟨g, 0, none⟩) i cy), Fx (.int .i64 ((j : Int))), Fx (.pointer (some ⟨g, j * 2, none⟩)), Fx (.pointer (some ⟨g, j * 2, none⟩)), Fx (.int .i64 ((pa : Int))), Fx (.slice (some ⟨g, 0, none⟩) i cy), Fx (.int .i64 ((j : Int))), Fx (.pointer (some ⟨g, j * 2, none⟩)), Fx (.pointer (some ⟨g, j * 2 + 1, none⟩)), Fx (.int .i64 ((pn : Int))), Fx (.int .i64 ((pa : Int) + (pn : Int))), Fx (.bool false), Fx (.bool false), Fx (.bool false)] (by kernel_rfl) (by kernel_rfl) ?_ ?_ ?_
                        · repeat' (first | exact all_nil | apply all_cons)
                          all_goals intro v y y' hv hb
                          all_goals first | exact Fx_mono _ _ _ _ hv hb
                        · refine ⟨?_, ?_, ?_, ?_, ?_, ?_, ?_, ?_, ?_, ?_, ?_, ?_, ?_, ?_, ?_, ?_, ?_, ?_, ?_, ?_, ?_, ?_, ?_, ?_, ?_, trivial⟩
                          all_goals
                            intro ρ x hp ρc ρg ρf ho hd
                            have o8 : ρ (.tmp 8) = .slice (some ⟨g, 0, none⟩) i cy := ho 8 rfl
                            have o14 : ρ (.tmp 14) = .int .i64 ((t : Int)) := ho 14 rfl
                            have o15 : ρ (.tmp 15) = .bool false := ho 15 rfl
                            have o16 : ρ (.tmp 16) = .int .i64 ((j : Int)) := ho 16 rfl
                            clear ho
                            have k0 := cell_later hp d0
                            have k1 := cell_later hp d1
                            simp only [depsR, depR, slotR, Fx, List.getElem?_cons_succ, List.getElem?_cons_zero, Region.binds, forall_const] at hd
                            simp only [guardR]
                            go_split_ands
                          · go_simp
                          · go_simp
                          · refine ⟨fun _ => ?_, fun hy => absurd (by simp [yieldR, slotR, *]) hy⟩
                            go_simp
                          · refine ⟨fun _ => ?_, fun hy => absurd (by simp [yieldR, slotR, *]) hy⟩
                            go_simp
                          · refine ⟨fun _ => ?_, fun hy => absurd (by simp [yieldR, slotR, *]) hy⟩
                            go_simp
                          · refine ⟨fun _ => ?_, fun hy => absurd (by simp [yieldR, slotR, *]) hy⟩
                            have hq := FK.out
                            go_simp
                          · refine ⟨fun _ => ?_, fun hy => absurd (by simp [yieldR, slotR, *]) hy⟩
                            go_simp
                          · refine ⟨fun _ => ?_, fun hy => absurd (by simp [yieldR, slotR, *]) hy⟩
                            go_simp
                          · refine ⟨fun _ => ?_, fun hy => absurd (by simp [yieldR, slotR, *]) hy⟩
                            obtain ⟨q1, q2⟩ := F1.out
                            go_simp
                          · refine ⟨fun _ => ?_, fun hy => absurd (by simp [yieldR, slotR, *]) hy⟩
                            go_simp
                          · refine ⟨fun _ => ?_, fun hy => absurd (by simp [yieldR, slotR, *]) hy⟩
                            go_simp
                          · refine ⟨fun _ => ?_, fun hy => absurd (by simp [yieldR, slotR, *]) hy⟩
                            go_simp
                          · refine ⟨fun _ => ?_, fun hy => absurd (by simp [yieldR, slotR, *]) hy⟩
                            go_simp
                          · refine ⟨fun _ => ?_, fun hy => absurd (by simp [yieldR, slotR, *]) hy⟩
                            have hq := FK.out
                            go_simp
                          · refine ⟨fun _ => ?_, fun hy => absurd (by simp [yieldR, slotR, *]) hy⟩
                            go_simp
                          · refine ⟨fun _ => ?_, fun hy => absurd (by simp [yieldR, slotR, *]) hy⟩
                            go_simp
                          · refine ⟨fun _ => ?_, fun hy => absurd (by simp [yieldR, slotR, *]) hy⟩
                            go_simp
                          · refine ⟨fun _ => ?_, fun hy => absurd (by simp [yieldR, slotR, *]) hy⟩
                            go_simp
                          · refine ⟨fun _ => ?_, fun hy => absurd (by simp [yieldR, slotR, *]) hy⟩
                            have hq := FK.out
                            go_simp
                          · refine ⟨fun _ => ?_, fun hy => absurd (by simp [yieldR, slotR, *]) hy⟩
                            go_simp
                          · refine ⟨fun _ => ?_, fun hy => absurd (by simp [yieldR, slotR, *]) hy⟩
                            go_simp
                          · refine ⟨fun _ => ?_, fun hy => absurd (by simp [yieldR, slotR, *]) hy⟩
                            have q1 := FW.out
                            go_simp
                          · refine ⟨fun _ => ?_, fun hy => absurd (by simp [yieldR, slotR, *]) hy⟩
                            obtain ⟨q1, q2⟩ := F1.out
                            go_simp
                          · refine ⟨fun _ => ?_, fun hy => absurd (by simp [yieldR, slotR, *]) hy⟩
                            go_simp
                          · go_simp
                        · intro vs x1 hp hw
                          simp only [owed, Fx] at hw
                          obtain ⟨e0, e1, e2, e3, e4, e5, e6, e7, e8, e9, e10, e11, e12, e13, e14, e15, e16, e17, e18, e19, e20, e21, e22, e23, e24, -⟩ := hw
                          simp only [List.length_cons, List.length_nil, List.take_succ_cons, List.take_zero, List.drop_succ_cons, List.drop_zero, asg, List.cons_append, List.nil_append, e0, e1, e2, e3, e4, e5, e6, e7, e8, e9, e10, e11, e12, e13, e14, e15, e16, e17, e18, e19, e20, e21, e22, e23, e24]
                          clear e0 e1 e2 e3 e4 e5 e6 e7 e8 e9 e10 e11 e12 e13 e14 e15 e16 e17 e18 e19 e20 e21 e22 e23 e24
                          have HB6 : Hid _ := HBi.out.trans (hp.mono (Below.size HBi.out))
                          clear d0 d1 hp HBi FK FW
                          go_wp2
                          go_roundw
                          case rel => exact ⟨j + 1, by omega, by go_num, by rw [HE.out], HB6.out⟩
                          case measure => simp [intOf]; omega
                    · have HE : Hid (isIn t (R.take (j + 1)) = false) := by show _ = _; rw [e1, decide_eq_false (fun h => hge h.1)]; rfl
                      have F1 : Hid (¬ (pa : Int) ≤ (t : Int)) := by show ¬ _; omega
                      clear e1 hge
                      go_upto_region 31 with fail
                      clear hji'
                      refine wp_reliesT [Fx (.bool false), Fx (.bool false), Fx (.int .i64 ((t : Int))), Fx (.slice (some ⟨g, 0, none⟩) i cy), Fx (.int .i64 ((j : Int))), Fx (.pointer (some ⟨g, j * 2, none⟩)), Fx (.pointer (some ⟨g, j * 2, none⟩)), Fx (.int .i64 ((pa : Int))), Fx (.bool false), Fx (.bool false), Fx (undef), Fx (undef), Fx (undef), Fx (undef), Fx (undef), Fx (undef), Fx (undef), Fx (undef), Fx (undef), Fx (undef), Fx (undef), Fx (undef), Fx (undef), Fx (.bool false), Fx (.bool false)] (by kernel_rfl) (by kernel_rfl) ?_ ?_ ?_
                      · repeat' (first | exact all_nil | apply all_cons)
                        all_goals intro v y y' hv hb
                        all_goals first | exact Fx_mono _ _ _ _ hv hb
                      · refine ⟨?_, ?_, ?_, ?_, ?_, ?_, ?_, ?_, ?_, ?_, ?_, ?_, ?_, ?_, ?_, ?_, ?_, ?_, ?_, ?_, ?_, ?_, ?_, ?_, ?_, trivial⟩
                        all_goals
                          intro ρ x hp ρc ρg ρf ho hd
                          have o8 : ρ (.tmp 8) = .slice (some ⟨g, 0, none⟩) i cy := ho 8 rfl
                          have o14 : ρ (.tmp 14) = .int .i64 ((t : Int)) := ho 14 rfl
                          have o15 : ρ (.tmp 15) = .bool false := ho 15 rfl
                          have o16 : ρ (.tmp 16) = .int .i64 ((j : Int)) := ho 16 rfl
                          clear ho
                          have k0 := cell_later hp d0
                          have k1 := cell_later hp d1
                          simp only [depsR, depR, slotR, Fx, List.getElem?_cons_succ, List.getElem?_cons_zero, Region.binds, forall_const] at hd
                          simp only [guardR]
                          go_split_ands
                        · go_simp
                        · go_simp
                        · refine ⟨fun _ => ?_, fun hy => absurd (by simp [yieldR, slotR, *]) hy⟩
                          go_simp
                        · refine ⟨fun _ => ?_, fun hy => absurd (by simp [yieldR, slotR, *]) hy⟩
                          go_simp
                        · refine ⟨fun _ => ?_, fun hy => absurd (by simp [yieldR, slotR, *]) hy⟩
                          go_simp
                        · refine ⟨fun _ => ?_, fun hy => absurd (by simp [yieldR, slotR, *]) hy⟩
                          have hq := FK.out
                          go_simp
                        · refine ⟨fun _ => ?_, fun hy => absurd (by simp [yieldR, slotR, *]) hy⟩
                          go_simp
                        · refine ⟨fun _ => ?_, fun hy => absurd (by simp [yieldR, slotR, *]) hy⟩
                          go_simp
                        · refine ⟨fun _ => ?_, fun hy => absurd (by simp [yieldR, slotR, *]) hy⟩
                          have q1 := F1.out
                          go_simp
                        · refine ⟨fun _ => ?_, fun hy => absurd (by simp [yieldR, slotR, *]) hy⟩
                          go_simp
                        · refine ⟨fun hy => ?_, fun _ => rfl⟩
                          exfalso; simp [yieldR, slotR, undef, *] at hy
                        · refine ⟨fun hy => ?_, fun _ => rfl⟩
                          exfalso; simp [yieldR, slotR, undef, *] at hy
                        · refine ⟨fun hy => ?_, fun _ => rfl⟩
                          exfalso; simp [yieldR, slotR, undef, *] at hy
                        · refine ⟨fun hy => ?_, fun _ => rfl⟩
                          exfalso; simp [yieldR, slotR, undef, *] at hy
                        · refine ⟨fun hy => ?_, fun _ => rfl⟩
                          exfalso; simp [yieldR, slotR, undef, *] at hy
                        · refine ⟨fun hy => ?_, fun _ => rfl⟩
                          exfalso; simp [yieldR, slotR, undef, *] at hy
                        · refine ⟨fun hy => ?_, fun _ => rfl⟩
                          exfalso; simp [yieldR, slotR, undef, *] at hy
                        · refine ⟨fun hy => ?_, fun _ => rfl⟩
                          exfalso; simp [yieldR, slotR, undef, *] at hy
                        · refine ⟨fun hy => ?_, fun _ => rfl⟩
                          exfalso; simp [yieldR, slotR, undef, *] at hy
                        · refine ⟨fun hy => ?_, fun _ => rfl⟩
                          exfalso; simp [yieldR, slotR, undef, *] at hy
                        · refine ⟨fun hy => ?_, fun _ => rfl⟩
                          exfalso; simp [yieldR, slotR, undef, *] at hy
                        · refine ⟨fun hy => ?_, fun _ => rfl⟩
                          exfalso; simp [yieldR, slotR, undef, *] at hy
                        · refine ⟨fun hy => ?_, fun _ => rfl⟩
                          exfalso; simp [yieldR, slotR, undef, *] at hy
                        · refine ⟨fun _ => ?_, fun hy => absurd (by simp [yieldR, slotR, *]) hy⟩
                          go_simp
                        · go_simp
                      · intro vs x1 hp hw
                        simp only [owed, Fx] at hw
                        obtain ⟨e0, e1, e2, e3, e4, e5, e6, e7, e8, e9, e10, e11, e12, e13, e14, e15, e16, e17, e18, e19, e20, e21, e22, e23, e24, -⟩ := hw
                        simp only [List.length_cons, List.length_nil, List.take_succ_cons, List.take_zero, List.drop_succ_cons, List.drop_zero, asg, List.cons_append, List.nil_append, e0, e1, e2, e3, e4, e5, e6, e7, e8, e9, e10, e11, e12, e13, e14, e15, e16, e17, e18, e19, e20, e21, e22, e23, e24]
                        clear e0 e1 e2 e3 e4 e5 e6 e7 e8 e9 e10 e11 e12 e13 e14 e15 e16 e17 e18 e19 e20 e21 e22 e23 e24
                        have HB6 : Hid _ := HBi.out.trans (hp.mono (Below.size HBi.out))
                        clear d0 d1 hp HBi FK FW
                        go_wp2
                        go_roundw
                        case rel => exact ⟨j + 1, by omega, by go_num, by rw [HE.out], HB6.out⟩
                        case measure => simp [intOf]; omega
                  · have HE : Hid (isIn t (R.take (j + 1)) = true) := by show _ = _; rw [e1]; rfl
                    clear e1
                    go_upto_region 31 with fail
                    clear hji'
                    refine wp_reliesT [Fx (.bool true), Fx (.bool true), Fx (undef), Fx (undef), Fx (undef), Fx (undef), Fx (undef), Fx (undef), Fx (undef), Fx (undef), Fx (undef), Fx (undef), Fx (undef), Fx (undef), Fx (undef), Fx (undef), Fx (undef), Fx (undef), Fx (undef), Fx (undef), Fx (undef), Fx (undef), Fx (undef), Fx (undef), Fx (.bool true)] (by kernel_rfl) (by kernel_rfl) ?_ ?_ ?_
                    · repeat' (first | exact all_nil | apply all_cons)
                      all_goals intro v y y' hv hb
                      all_goals first | exact Fx_mono _ _ _ _ hv hb
                    · refine ⟨?_, ?_, ?_, ?_, ?_, ?_, ?_, ?_, ?_, ?_, ?_, ?_, ?_, ?_, ?_, ?_, ?_, ?_, ?_, ?_, ?_, ?_, ?_, ?_, ?_, trivial⟩
                      all_goals
                        intro ρ x hp ρc ρg ρf ho hd
                        have o8 : ρ (.tmp 8) = .slice (some ⟨g, 0, none⟩) i cy := ho 8 rfl
                        have o14 : ρ (.tmp 14) = .int .i64 ((t : Int)) := ho 14 rfl
                        have o15 : ρ (.tmp 15) = .bool true := ho 15 rfl
                        have o16 : ρ (.tmp 16) = .int .i64 ((j : Int)) := ho 16 rfl
                        clear ho
                        have k0 := cell_later hp d0
                        have k1 := cell_later hp d1
                        simp only [depsR, depR, slotR, Fx, List.getElem?_cons_succ, List.getElem?_cons_zero, Region.binds, forall_const] at hd
                        simp only [guardR]
                        go_split_ands
                      · go_simp
                      · go_simp
                      · refine ⟨fun hy => ?_, fun _ => rfl⟩
                        exfalso; simp [yieldR, slotR, undef, *] at hy
                      · refine ⟨fun hy => ?_, fun _ => rfl⟩
                        exfalso; simp [yieldR, slotR, undef, *] at hy
                      · refine ⟨fun hy => ?_, fun _ => rfl⟩
                        exfalso; simp [yieldR, slotR, undef, *] at hy
                      · refine ⟨fun hy => ?_, fun _ => rfl⟩
                        exfalso; simp [yieldR, slotR, undef, *] at hy
                      · refine ⟨fun hy => ?_, fun _ => rfl⟩
                        exfalso; simp [yieldR, slotR, undef, *] at hy
                      · refine ⟨fun hy => ?_, fun _ => rfl⟩
                        exfalso; simp [yieldR, slotR, undef, *] at hy
                      · refine ⟨fun hy => ?_, fun _ => rfl⟩
                        exfalso; simp [yieldR, slotR, undef, *] at hy
                      · refine ⟨fun hy => ?_, fun _ => rfl⟩
                        exfalso; simp [yieldR, slotR, undef, *] at hy
                      · refine ⟨fun hy => ?_, fun _ => rfl⟩
                        exfalso; simp [yieldR, slotR, undef, *] at hy
                      · refine ⟨fun hy => ?_, fun _ => rfl⟩
                        exfalso; simp [yieldR, slotR, undef, *] at hy
                      · refine ⟨fun hy => ?_, fun _ => rfl⟩
                        exfalso; simp [yieldR, slotR, undef, *] at hy
                      · refine ⟨fun hy => ?_, fun _ => rfl⟩
                        exfalso; simp [yieldR, slotR, undef, *] at hy
                      · refine ⟨fun hy => ?_, fun _ => rfl⟩
                        exfalso; simp [yieldR, slotR, undef, *] at hy
                      · refine ⟨fun hy => ?_, fun _ => rfl⟩
                        exfalso; simp [yieldR, slotR, undef, *] at hy
                      · refine ⟨fun hy => ?_, fun _ => rfl⟩
                        exfalso; simp [yieldR, slotR, undef, *] at hy
                      · refine ⟨fun hy => ?_, fun _ => rfl⟩
                        exfalso; simp [yieldR, slotR, undef, *] at hy
                      · refine ⟨fun hy => ?_, fun _ => rfl⟩
                        exfalso; simp [yieldR, slotR, undef, *] at hy
                      · refine ⟨fun hy => ?_, fun _ => rfl⟩
                        exfalso; simp [yieldR, slotR, undef, *] at hy
                      · refine ⟨fun hy => ?_, fun _ => rfl⟩
                        exfalso; simp [yieldR, slotR, undef, *] at hy
                      · refine ⟨fun hy => ?_, fun _ => rfl⟩
                        exfalso; simp [yieldR, slotR, undef, *] at hy
                      · refine ⟨fun hy => ?_, fun _ => rfl⟩
                        exfalso; simp [yieldR, slotR, undef, *] at hy
                      · refine ⟨fun hy => ?_, fun _ => rfl⟩
                        exfalso; simp [yieldR, slotR, undef, *] at hy
                      · go_simp
                    · intro vs x1 hp hw
                      simp only [owed, Fx] at hw
                      obtain ⟨e0, e1, e2, e3, e4, e5, e6, e7, e8, e9, e10, e11, e12, e13, e14, e15, e16, e17, e18, e19, e20, e21, e22, e23, e24, -⟩ := hw
                      simp only [List.length_cons, List.length_nil, List.take_succ_cons, List.take_zero, List.drop_succ_cons, List.drop_zero, asg, List.cons_append, List.nil_append, e0, e1, e2, e3, e4, e5, e6, e7, e8, e9, e10, e11, e12, e13, e14, e15, e16, e17, e18, e19, e20, e21, e22, e23, e24]
                      clear e0 e1 e2 e3 e4 e5 e6 e7 e8 e9 e10 e11 e12 e13 e14 e15 e16 e17 e18 e19 e20 e21 e22 e23 e24
                      have HB6 : Hid _ := HBi.out.trans (hp.mono (Below.size HBi.out))
                      clear d0 d1 hp HBi FK FW
                      go_wp2
                      go_roundw
                      case rel => exact ⟨j + 1, by omega, by go_num, by rw [HE.out], HB6.out⟩
                      case measure => simp [intOf]; omega
                · obtain rfl : j = i := by omega
                  have htake : R.take j = R := List.take_of_length_le (by omega)
                  rw [htake]
                  clear htake hji hj
                  have hX := XAt.later O HX.out hBi
                  have hO5 := hO.keep hBi
                  have hB := HB.out.trans (hBi.mono (Below.size HB.out))
                  have hin := HT.out.1 t
                  have htk := HT.out.2.2.2.2 t
                  have hcs : cntIn R (t + 1) = cntIn R t + (bif isIn t R then 1 else 0) := rfl
                  have hcl := cntIn_le R t
                  clear hBi HX HB hO
                  have hT := hX.taken O hB.size (t : Int) (by unfold i64; omega)
                  rw [htk] at hT
                  rw [hin] at hcs ⊢
                  clear hin htk hX
                  obtain ⟨cn, hcn⟩ : ∃ cn, cntIn R t = cn := ⟨_, rfl⟩
                  rw [hcn] at hcs hcl ⊢
                  clear hcn
                  by_cases h5 : 5 ≤ t ∧ t < 60
                  · have h51 : (5 : Int) ≤ (t : Int) := by omega
                    have h52 : (t : Int) < 60 := by omega
                    rw [decide_eq_true h5] at hcs hT ⊢
                    cases hft : st.f t
                    · rw [hft] at hcs hT
                      go_wp2_with fail
                      go_at_call 11
                      refine hT.mono ?_
                      rintro e w7 ⟨rfl, hX7, hb7, hk7⟩
                      have HX7 : Hid _ := hX7
                      have HO7 : Hid _ := KeepA.own hk7 hO5 HA.out
                      have HB7 : Hid _ := hB.trans hb7
                      have HC : Hid _ := hcs
                      clear hT hX7 hb7 hk7 hO5 hB hcs
                      go_wp2
                      go_roundw
                      case rel => exact ⟨t + 1, by omega, by go_num, by rw [HC.out]; simp, HX7.out, HO7.out, HB7.out⟩
                      case measure => simp [intOf]; omega
                    · rw [hft] at hcs hT
                      go_wp2_with fail
                      go_at_call 11
                      refine hT.mono ?_
                      rintro e w7 ⟨rfl, hX7, hb7, hk7⟩
                      have HX7 : Hid _ := hX7
                      have HO7 : Hid _ := KeepA.own hk7 hO5 HA.out
                      have HB7 : Hid _ := hB.trans hb7
                      have HC : Hid _ := hcs
                      clear hT hX7 hb7 hk7 hO5 hB hcs
                      go_wp2
                      go_roundw
                      case rel => exact ⟨t + 1, by omega, by go_num, by rw [HC.out]; simp, HX7.out, HO7.out, HB7.out⟩
                      case measure => simp [intOf]; omega
                  · rw [decide_eq_false h5] at hcs hT ⊢
                    rw [Bool.false_and] at hcs hT ⊢
                    by_cases h6 : 5 ≤ t
                    · have h61 : (5 : Int) ≤ (t : Int) := by omega
                      have h62 : ¬ (t : Int) < 60 := by omega
                      go_wp2_with fail
                      go_at_call 11
                      refine hT.mono ?_
                      rintro e w7 ⟨rfl, hX7, hb7, hk7⟩
                      have HX7 : Hid _ := hX7
                      have HO7 : Hid _ := KeepA.own hk7 hO5 HA.out
                      have HB7 : Hid _ := hB.trans hb7
                      have HC : Hid _ := hcs
                      clear hT hX7 hb7 hk7 hO5 hB hcs
                      go_wp2
                      go_roundw
                      case rel => exact ⟨t + 1, by omega, by go_num, by rw [HC.out]; simp, HX7.out, HO7.out, HB7.out⟩
                      case measure => simp [intOf]; omega
                    · have h61 : ¬ (5 : Int) ≤ (t : Int) := by omega
                      go_wp2_with fail
                      go_at_call 11
                      refine hT.mono ?_
                      rintro e w7 ⟨rfl, hX7, hb7, hk7⟩
                      have HX7 : Hid _ := hX7
                      have HO7 : Hid _ := KeepA.own hk7 hO5 HA.out
                      have HB7 : Hid _ := hB.trans hb7
                      have HC : Hid _ := hcs
                      clear hT hX7 hb7 hk7 hO5 hB hcs
                      go_wp2
                      go_roundw
                      case rel => exact ⟨t + 1, by omega, by go_num, by rw [HC.out]; simp, HX7.out, HO7.out, HB7.out⟩
                      case measure => simp [intOf]; omega
            · obtain rfl : t = 70 := by omega
              clear hlt ht
              obtain ⟨-, hs1, hs2, hs3, -⟩ := HT.out
              rw [hs2]
              rw [hs1, ← hs3]
              clear hs1 hs2 hs3 HT HR
              have hlo := hX.lowest O hB.size n ⟨hn0, hn1⟩
              obtain ⟨lo, hlod⟩ : ∃ lo, xLow st n = lo := ⟨_, rfl⟩
              rw [hlod] at hlo ⊢
              clear hX
              go_wp2_with fail
              go_at_call 12
              refine hlo.mono ?_
              rintro e w8 ⟨rfl, hX8, hb8, -⟩
              have hB8 := hB.trans hb8
              clear hlo hb8 hB
              go_wp2_with fail
              go_at_call 13
              refine (hX8.left O hB8.size).mono ?_
              rintro e w9 ⟨rfl, -, hb9, -⟩
              have hB9 := hB8.trans hb9
              clear hX8 hb9 hB8
              go_wp2
              go_ret
              exact ⟨rfl, hB9⟩
end Go.Proofs.Ytafbkdpheneceaa
