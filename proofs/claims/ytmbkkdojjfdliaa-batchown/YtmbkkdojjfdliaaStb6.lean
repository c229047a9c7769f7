
import Derived.Test.YtmbkkdojjfdliaaStb5
namespace Go.Proofs.Ytmbkkdojjfdliaa
open Go.RowKit

/-! symMerge: the second part has one -/
set_option linter.unusedSimpArgs false in
set_option maxHeartbeats 8000000 in
set_option maxRecDepth 100000 in
theorem symR26 (w : World) (B g n c a m b : Nat) (P A S : List Wr) (z : Wr) (h : OwnK wrE w B (.slice (some ⟨g, 0, none⟩) n c) (P ++ (A ++ (z :: S)))) (ha : P.length = a) (hm : a + A.length = m) (hb : m + 1 = b) (hA : Srd A) (hA2 : 2 ≤ A.length) (hn : n ≤ 140737488355328) :
    Calls Try.prog 31 #[.slice (some ⟨g, 0, none⟩) n c, .int .i64 (a : Int), .int .i64 (m : Int), .int .i64 (b : Int), cmV] w fun e w' => (∃ u, e = .returned u) ∧ ∃ M, Srd M ∧ Sim (A ++ [z]) M ∧ OwnK wrE w' B (.slice (some ⟨g, 0, none⟩) n c) (P ++ (M ++ S)) ∧ Keep [g] w w' := by
  have hlen := own_len h
  simp only [List.length_append, List.length_cons] at hlen
  have hbn : b ≤ n := by omega
  have w1 := wSub m a A.length (by omega) (by omega)
  have w2 := wSub b m 1 (by omega) (by omega)
  have hne : ¬ (A.length : Int) = 1 := by omega
  have HL : Hid (P.length = a ∧ a + A.length = m ∧ m + 1 = b) := ⟨ha, hm, hb⟩
  have h0 : OwnK wrE w B (.slice (some ⟨g, 0, none⟩) n c) (mvK P A S z A.length) := by simpa [mvK] using h
  have hmn : m < n := by omega
  have ham : a ≤ m := by omega
  clear h hlen ha hm hb hA2
  go_enter Try.func31, Try.ntmps31
  go_wp2_with fail
  clear w1 w2 hne
  go_loopw [14, 15] (fun iv jv wr => ∃ i j : Nat, iv = .int .i64 (i : Int) ∧ jv = .int .i64 (j : Int) ∧ a ≤ i ∧ i ≤ j ∧ j ≤ m ∧ (i = a ∨ ¬ z.1 < (gw A (i - 1 - a)).1) ∧ (j = m ∨ z.1 < (gw A (j - a)).1) ∧ OwnK wrE wr B (.slice (some ⟨g, 0, none⟩) n c) (mvK P A S z A.length) ∧ Keep [g] w wr) (fun iv jv _ => (intOf jv).toNat - (intOf iv).toNat)
  case atStart => exact ⟨a, m, rfl, rfl, by omega, by omega, by omega, .inl rfl, .inl rfl, h0, Keep.refl _ _⟩
  case round =>
    clear h0
    obtain ⟨i, j, rfl, rfl, hmi, hij, hjb, hI, hJ, hO, hK⟩ := hrel
    by_cases hlt : i < j
    · have hc : (i : Int) < (j : Int) := by omega
      obtain ⟨q, hq9⟩ : ∃ q, (i + j) / 2 = q := ⟨_, rfl⟩
      obtain ⟨u1, u2, u3⟩ := half_u i j q hq9 (by omega)
      have hq2 : ((i : Int) + (j : Int)) / 2 = (q : Int) := by omega
      have HQ : Hid (i ≤ q ∧ q < j ∧ a ≤ i ∧ j ≤ m) := ⟨by omega, by omega, hmi, hjb⟩
      have hq : q < n := by omega
      have hm : m < n := hmn
      have hq1 : (q : Int) < (n : Int) := by omega
      have hq0 : (0 : Int) ≤ (q : Int) := by omega
      have hm1 : (m : Int) < (n : Int) := by omega
      have hm0 : (0 : Int) ≤ (m : Int) := by omega
      have G1 : gw (mvK P A S z A.length) m = z := by
        obtain ⟨q1, q2, q3⟩ := HL.out
        have e : mvK P A S z A.length = (P ++ A) ++ z :: S := by simp [mvK]
        rw [e]
        exact gw_mid (P ++ A) _ z m (by simp; omega)
      obtain ⟨y, hy⟩ : ∃ y, gw A (q - a) = y := ⟨_, rfl⟩
      have G2 : gw (mvK P A S z A.length) q = y := by
        obtain ⟨q1, q2, q3⟩ := HL.out
        have e : mvK P A S z A.length = P ++ (A ++ z :: S) := by simp [mvK]
        rw [e, gw_right P (A ++ z :: S) q a q1 (by omega), gw_left A _ _ (by omega), hy]
      have HY : Hid (gw A (q - a) = y) := hy
      have HI : Hid ((i = a ∨ ¬ z.1 < (gw A (i - 1 - a)).1) ∧ (j = m ∨ z.1 < (gw A (j - a)).1)) := ⟨hI, hJ⟩
      have wq := wAdd1 q (q + 1) rfl (by omega)
      clear hq9 hI hJ hmi hij hjb hlt hy
      obtain ⟨bb, hbb⟩ : ∃ t, decide (z.1 < y.1) = t := ⟨_, rfl⟩
      have hcm : decide (cmI z.1 y.1 < 0) = bb := by rw [cmI_neg, hbb]
      have HB : Hid (decide (z.1 < y.1) = bb) := hbb
      clear hbb
      go_upto_region 17 with fail
      clear u1 u2 u3 hq2
      refine wp_relies [Fx (.func (.func 23) #[] #[]), Fx (.slice (some ⟨g, 0, none⟩) n c), Fx (.int .i64 ((m : Nat) : Int)), Fx (.pointer (some ⟨g, m * 65, none⟩)), Fx (.agg (wrA z)), Fx (.slice (some ⟨g, 0, none⟩) n c), Fx (.int .i64 ((q : Nat) : Int)), Fx (.pointer (some ⟨g, q * 65, none⟩)), Fx (.agg (wrA y)), Fx (.int .i64 (cmI z.1 y.1)), Fx (.bool bb), Fx (.bool (!bb))] (by kernel_rfl) (by kernel_rfl) ?_ ?_ ?_
      · repeat' (first | exact all_nil | apply all_cons)
        all_goals intro v y y' hv hb
        all_goals first | exact Fx_mono _ _ _ _ hv hb
      · refine ⟨?_, ?_, ?_, ?_, ?_, ?_, ?_, ?_, ?_, ?_, ?_, ?_, trivial⟩
        all_goals
          intro ρ y9 hp ρc ρg ρf ho hd
          have o0 : ρ (.tmp 0) = .slice (some ⟨g, 0, none⟩) n c := ho 0 rfl
          have o2 : ρ (.tmp 2) = .int .i64 ((m : Nat) : Int) := ho 2 rfl
          have o4 : ρ (.tmp 4) = .func (.func 23) #[] #[] := ho 4 rfl
          have o16 : ρ (.tmp 16) = .int .i64 ((q : Nat) : Int) := ho 16 rfl
          clear ho
          simp only [depsR, depR, slotR, Fx, List.getElem?_cons_succ, List.getElem?_cons_zero, Region.binds, forall_const] at hd
          simp only [guardR]
          go_split_ands
        · go_simp
        · go_simp
        · go_simp
        · go_simp
        · have hh := own_rg (hO.keep hp) m hm
          go_simp
        · go_simp
        · go_simp
        · go_simp
        · have hh := own_rg (hO.keep hp) q hq
          go_simp
        · go_simp
          refine (cmp26 _ _ _).mono ?_
          rintro e w' ⟨rfl, hw⟩
          exact ⟨_, rfl, rfl, hw⟩
        · go_simp
        · go_simp
      · intro us xa hp1 hw
        simp only [owed, Fx] at hw
        obtain ⟨e0, e1, e2, e3, e4, e5, e6, e7, e8, e9, e10, e11, -⟩ := hw
        simp only [List.length_cons, List.length_nil, List.take_succ_cons, List.take_nil, List.drop_succ_cons, List.drop_nil, asg, List.cons_append, List.nil_append, e0, e1, e2, e3, e4, e5, e6, e7, e8, e9, e10, e11]
        clear e0 e1 e2 e3 e4 e5 e6 e7 e8 e9 e10 e11
        have HO1 : Hid _ := hO.keep hp1
        have HK1 : Hid (Keep [g] w xa) := hK.trans (Keep.of_below hp1)
        clear hO hK hp1 G1 G2
        cases bb with
        | false =>
          simp only [Bool.not_false]
          go_wp2
          go_roundw
          case rel =>
            obtain ⟨q1, q2, q3, q4⟩ := HQ.out
            refine ⟨q + 1, j, by go_num, rfl, by omega, by omega, q4, .inr ?_, HI.out.2, HO1.out, HK1.out⟩
            rw [Nat.add_sub_cancel, HY.out]
            exact of_decide_eq_false HB.out
          case measure => have := HQ.out; simp [intOf]; omega
        | true =>
          simp only [Bool.not_true]
          go_wp2
          go_roundw
          case rel =>
            obtain ⟨q1, q2, q3, q4⟩ := HQ.out
            refine ⟨i, q, rfl, rfl, q3, q1, by omega, HI.out.1, .inr ?_, HO1.out, HK1.out⟩
            rw [HY.out]
            exact of_decide_eq_true HB.out
          case measure => have := HQ.out; simp [intOf]; omega
    · have hc : ¬ (i : Int) < (j : Int) := by omega
      obtain rfl : i = j := by omega
      have HE : Hid (Srd (A.take (i - a) ++ z :: A.drop (i - a)) ∧ Sim (A ++ [z]) (A.take (i - a) ++ z :: A.drop (i - a))) := by
        have q3 := HL.out.2.1
        have := move_left z (A.take (i - a)) (A.drop (i - a)) (by rw [List.take_append_drop]; exact hA) (fun y hy => by
          rcases hI with h1 | h1
          · subst h1; simp at hy
          · rcases Nat.lt_or_ge a i with h2 | h2
            · have := take_le hA (i - 1 - a) (by omega) y (by rw [show i - 1 - a + 1 = i - a by omega]; exact hy)
              omega
            · rw [show i - a = 0 by omega] at hy; simp at hy) (fun y hy => by
          rcases hJ with h1 | h1
          · subst h1; rw [List.drop_eq_nil_of_le (by omega)] at hy; simp at hy
          · have := drop_ge hA (i - a) y hy; omega)
        rw [List.take_append_drop] at this
        exact this
      clear hI hJ hlt hij
      go_wp2_with fail
      go_loopw [17] (fun uv wr => ∃ t u : Nat, uv = .int .i64 (u : Int) ∧ a + t = u ∧ i ≤ u ∧ u ≤ m ∧ OwnK wrE wr B (.slice (some ⟨g, 0, none⟩) n c) (mvK P A S z t) ∧ Keep [g] w wr) (fun uv _ => (intOf uv).toNat)
      case atStart => exact ⟨A.length, m, rfl, HL.out.2.1, hjb, by omega, hO, hK⟩
      case round =>
        clear hO hK
        obtain ⟨t, u, rfl, htu, hiu, hum, hO, hK⟩ := hrel
        by_cases hlt : i < u
        · have hc2 : (u : Int) > (i : Int) := by omega
          obtain ⟨v, hv9⟩ : ∃ v, v + 1 = u := ⟨u - 1, by omega⟩
          obtain ⟨t', ht'⟩ : ∃ t', t' + 1 = t := ⟨t - 1, by omega⟩
          have hu : u < n := by omega
          have hv : v < n := by omega
          have hu1 : (u : Int) < (n : Int) := by omega
          have hv1 : (v : Int) < (n : Int) := by omega
          have hu0 : (0 : Int) ≤ (u : Int) := by omega
          have hv0 : (0 : Int) ≤ (v : Int) := by omega
          have wv := wSub1 u v hv9 (by omega)
          have HS : Hid (swW (mvK P A S z t) u v = mvK P A S z t') := by
            obtain ⟨q1, q2, q3⟩ := HL.out
            have := (mvK_step P A S z t' v u (by omega) (by omega) hv9).2
            rw [ht'] at this
            exact this
          have HU : Hid (a + t' = v ∧ i ≤ v ∧ v ≤ m ∧ v < u) := ⟨by omega, by omega, by omega, by omega⟩
          obtain ⟨L, hL⟩ : ∃ L, mvK P A S z t = L := ⟨_, rfl⟩
          rw [hL] at hO HS
          clear hL htu hiu hum hlt hv9 hc ht'
          go_upto_region 23 with fail
          refine wp_reliesI (kokW (G := [g])) (SwJ B g n c L u v) [15] [none, none, none, none, none, none, none, none, none, some (0, [], []), none, none, none, some (0, [], []), none, some (0, [], []), none] [Fx (.slice (some ⟨g, 0, none⟩) n c), Fx (.int .i64 ((u : Nat) : Int)), Fx (.slice (some ⟨g, 0, none⟩) n c), Fx (.int .i64 ((u : Nat) : Int)), Fx (.int .i64 ((v : Nat) : Int)), Fx (.slice (some ⟨g, 0, none⟩) n c), Fx (.int .i64 ((u : Nat) : Int)), Fx (.int .i64 ((v : Nat) : Int)), Fx (.pointer (some ⟨g, v * 65, none⟩)), Fx (.agg (wrA (gw L v))), Fx (.slice (some ⟨g, 0, none⟩) n c), Fx (.int .i64 ((u : Nat) : Int)), Fx (.pointer (some ⟨g, u * 65, none⟩)), Fx (.agg (wrA (gw L u))), Fx (.pointer (some ⟨g, u * 65, none⟩)), fun _ _ => True, Fx (.pointer (some ⟨g, v * 65, none⟩))] rfl (by decide) rfl (by kernel_rfl) (by kernel_rfl) (by kernel_rfl) hO (SwJ_later B g n c L u v) ?_ ?_ ?_ ?_
          · repeat' (first | exact all_nil | apply all_cons)
            all_goals intro v y y' hv hb
            all_goals first | exact Fx_mono _ _ _ _ hv hb | exact trivial
          · intro i9 f9 hf9 hl9 v y y' hv hb
            rcases i9 with _ | i9
            · first | (cases hl9; done) | (cases hf9; first | exact hv | exact trivial)
            rcases i9 with _ | i9
            · first | (cases hl9; done) | (cases hf9; first | exact hv | exact trivial)
            rcases i9 with _ | i9
            · first | (cases hl9; done) | (cases hf9; first | exact hv | exact trivial)
            rcases i9 with _ | i9
            · first | (cases hl9; done) | (cases hf9; first | exact hv | exact trivial)
            rcases i9 with _ | i9
            · first | (cases hl9; done) | (cases hf9; first | exact hv | exact trivial)
            rcases i9 with _ | i9
            · first | (cases hl9; done) | (cases hf9; first | exact hv | exact trivial)
            rcases i9 with _ | i9
            · first | (cases hl9; done) | (cases hf9; first | exact hv | exact trivial)
            rcases i9 with _ | i9
            · first | (cases hl9; done) | (cases hf9; first | exact hv | exact trivial)
            rcases i9 with _ | i9
            · first | (cases hl9; done) | (cases hf9; first | exact hv | exact trivial)
            rcases i9 with _ | i9
            · first | (cases hl9; done) | (cases hf9; first | exact hv | exact trivial)
            rcases i9 with _ | i9
            · first | (cases hl9; done) | (cases hf9; first | exact hv | exact trivial)
            rcases i9 with _ | i9
            · first | (cases hl9; done) | (cases hf9; first | exact hv | exact trivial)
            rcases i9 with _ | i9
            · first | (cases hl9; done) | (cases hf9; first | exact hv | exact trivial)
            rcases i9 with _ | i9
            · first | (cases hl9; done) | (cases hf9; first | exact hv | exact trivial)
            rcases i9 with _ | i9
            · first | (cases hl9; done) | (cases hf9; first | exact hv | exact trivial)
            rcases i9 with _ | i9
            · first | (cases hl9; done) | (cases hf9; first | exact hv | exact trivial)
            rcases i9 with _ | i9
            · first | (cases hl9; done) | (cases hf9; first | exact hv | exact trivial)
            · simp at hf9
          · refine ⟨?_, ?_, ?_, ?_, ?_, ?_, ?_, ?_, ?_, ?_, ?_, ?_, ?_, ?_, ?_, ?_, ?_, trivial⟩
            all_goals
              intro ρ x hk hat ρc ρg ρf ho hd
              have o0 : ρ (.tmp 0) = .slice (some ⟨g, 0, none⟩) n c := ho 0 rfl
              have o17 : ρ (.tmp 17) = .int .i64 ((u : Nat) : Int) := ho 17 rfl
              clear ho
              simp only [depsR, depR, slotR, Fx, List.getElem?_cons_succ, List.getElem?_cons_zero, Region.binds, forall_const] at hd
              simp only [guardR, List.contains_cons, List.contains_nil, List.elem_cons, List.elem_nil, Nat.reduceBEq, Bool.or_false, Bool.false_or, Bool.or_true, Bool.true_or, cond_true, cond_false]
              go_split_ands
            · go_simp
            · go_simp
            · go_simp
            · go_simp
            · have hw9 := wv
              go_simp
            · go_simp
            · go_simp
            · have hw9 := wv
              go_simp
            · go_simp
            · have hh := own_rg hat v hv
              go_simp
            · go_simp
            · go_simp
            · go_simp
            · have hh := own_rg hat u hu
              go_simp
            · go_simp
            · have hr := own_st hat u hu (gw L v)
              go_simp
              exact ⟨⟨trivial, own_put hat u hu _⟩, keep_st x g (u * 65) _⟩
            · go_simp
          · intro vs x1 hk hw hI
            simp only [owed, Fx] at hw
            obtain ⟨e0, e1, e2, e3, e4, e5, e6, e7, e8, e9, e10, e11, e12, e13, e14, e15, e16, -⟩ := hw
            simp only [List.length_cons, List.length_nil, List.take_succ_cons, List.take_zero, List.drop_succ_cons, List.drop_zero, asg, List.cons_append, List.nil_append, e0, e1, e2, e3, e4, e5, e6, e7, e8, e9, e10, e11, e12, e13, e14, e16]
            clear e0 e1 e2 e3 e4 e5 e6 e7 e8 e9 e10 e11 e12 e13 e14 e16 e15
            have hI' : OwnK wrE x1 B (.slice (some ⟨g, 0, none⟩) n c) (L.set u (gw L v)) := hI
            have hr := own_st hI' v hv (gw L u)
            have hfin : OwnK wrE _ B (.slice (some ⟨g, 0, none⟩) n c) (swW L u v) := own_put hI' v hv (gw L u)
            have hK2 : Keep [g] wr _ := hk.trans (keep_st x1 g (v * 65) (wrE.enc (gw L u)))
            rw [HS.out] at hfin
            have HO : Hid _ := hfin
            have HK : Hid (Keep [g] w _) := hK.trans hK2
            clear hfin hK2 hI' hI hk hO hK
            go_wp2
            go_roundw
            case rel =>
              obtain ⟨q1, q2, q3, q4⟩ := HU.out
              exact ⟨t', v, by go_num, q1, q2, q3, HO.out, HK.out⟩
            case measure => have := HU.out; simp [intOf]; omega
        · have hc2 : ¬ (u : Int) > (i : Int) := by omega
          obtain rfl : u = i := by omega
          obtain rfl : t = u - a := by omega
          have HO : Hid _ := hO
          clear hO htu hiu hum hlt
          go_wp2
          refine bodyPost_ret (results_none rfl _ _ _) rfl ?_
          exact ⟨⟨_, rfl⟩, _, HE.out.1, HE.out.2, by rw [← mvK_eq]; exact HO.out, hK⟩
end Go.Proofs.Ytmbkkdojjfdliaa
