
import Derived.Test.YtmbkkdojjfdliaaStb7
namespace Go.Proofs.Ytmbkkdojjfdliaa
open Go.RowKit

/-! symMerge: both parts have more than one (what its calls of itself owe) -/
set_option linter.unusedSimpArgs false in
set_option maxHeartbeats 16000000 in
set_option maxRecDepth 100000 in
theorem symG26b (f : Nat) (ih : SymOk f) (w : World) (B g n c a m b mid : Nat) (P A D S : List Wr) (h : OwnK wrE w B (.slice (some ⟨g, 0, none⟩) n c) (P ++ (A ++ (D ++ S)))) (ha : P.length = a) (hm : a + A.length = m) (hb : m + D.length = b) (hA2 : 2 ≤ A.length) (hD2 : 2 ≤ D.length) (hA : Srd A) (hD : Srd D) (hn : n ≤ 140737488355328) (hf : A.length + D.length ≤ f + 1) (hmid : (a + b) / 2 = mid) (hcs : m ≤ mid) :
    Calls Try.prog 31 #[.slice (some ⟨g, 0, none⟩) n c, .int .i64 (a : Int), .int .i64 (m : Int), .int .i64 (b : Int), cmV] w fun e w' => (∃ u, e = .returned u) ∧ ∃ M, Srd M ∧ Sim (A ++ D) M ∧ OwnK wrE w' B (.slice (some ⟨g, 0, none⟩) n c) (P ++ (M ++ S)) ∧ Keep [g] w w' := by
  have hlen := own_len h
  simp only [List.length_append] at hlen
  have hbn : b ≤ n := by omega
  have w1 := wSub m a A.length (by omega) (by omega)
  have w2 := wSub b m D.length (by omega) (by omega)
  have hne1 : ¬ (A.length : Int) = 1 := by omega
  have hne2 : ¬ (D.length : Int) = 1 := by omega
  obtain ⟨u1, u2, u3⟩ := half_u a b mid hmid (by omega)
  have u4 := half_v a b (by omega)
  have hq2 : ((a : Int) + (b : Int)) / 2 = (mid : Int) := by omega
  obtain ⟨nn, hnn⟩ : ∃ nn, mid + m = nn := ⟨_, rfl⟩
  have w3 := wAdd mid m nn hnn (by omega)
  obtain ⟨p, hp9⟩ : ∃ p, p + 1 = nn := ⟨nn - 1, by omega⟩
  have w4 := wSub1 nn p hp9 (by omega)
  have hcz : ¬ (m : Int) > (mid : Int) := by omega
  have HL : Hid (P.length = a ∧ a + A.length = m ∧ m + D.length = b ∧ 2 ≤ A.length ∧ 2 ≤ D.length ∧ Srd A ∧ Srd D ∧ A.length + D.length ≤ f + 1 ∧ (a + b) / 2 = mid ∧ mid + m = nn ∧ p + 1 = nn ∧ a ≤ a ∧ a ≤ m ∧ m ≤ m ∧ nn ≤ a + b ∧ m + m ≤ nn ∧ (a = a ∨ a + b = mid + m) ∧ (m = m ∨ m = mid) ∧ b ≤ n) := ⟨ha, hm, hb, hA2, hD2, hA, hD, hf, hmid, hnn, hp9, by omega, by omega, by omega, by omega, by omega, by omega, by omega, hbn⟩
  clear hlen ha hm hb hA2 hD2 hA hD hf hmid hnn hp9
  go_enter Try.func31, Try.ntmps31
  go_wp2_with fail
  clear w1 w2 w3 w4 hne1 hne2 u1 u2 u3 u4 hq2
  go_loopw [20, 21] (fun sv rv wr => ∃ s r : Nat, sv = .int .i64 (s : Int) ∧ rv = .int .i64 (r : Int) ∧ a ≤ s ∧ s ≤ r ∧ r ≤ m ∧ (s = a ∨ ¬ (gw D (nn - s - m)).1 < (gw A (s - 1 - a)).1) ∧ (r = m ∨ (gw D (nn - 1 - r - m)).1 < (gw A (r - a)).1) ∧ OwnK wrE wr B (.slice (some ⟨g, 0, none⟩) n c) (P ++ (A ++ (D ++ S))) ∧ Keep [g] w wr) (fun sv rv _ => (intOf rv).toNat - (intOf sv).toNat)
  case atStart => exact ⟨a, m, rfl, rfl, by omega, by have := HL.out; omega, by omega, .inl rfl, .inl rfl, h, Keep.refl _ _⟩
  case round =>
    clear h
    obtain ⟨s, r, rfl, rfl, hs0, hsr, hr0, hI, hJ, hO, hK⟩ := hrel
    by_cases hlt : s < r
    · obtain ⟨l1, l2, l3, l4, l5, l6, l7, l8, l9, l10, l11, l12, l13, l14, l15, l16, l17, l18, l19⟩ := HL.out
      have hc : (s : Int) < (r : Int) := by omega
      obtain ⟨q, hq9⟩ : ∃ q, (s + r) / 2 = q := ⟨_, rfl⟩
      obtain ⟨u1, u2, u3⟩ := half_u s r q hq9 (by omega)
      have u4 := half_v s r (by omega)
      have hq2 : ((s : Int) + (r : Int)) / 2 = (q : Int) := by omega
      obtain ⟨v, hv9⟩ : ∃ v, v + q = p := ⟨p - q, by omega⟩
      have wv := wSub p q v hv9 (by omega)
      have HQ : Hid (s ≤ q ∧ q < r ∧ a ≤ s ∧ r ≤ m ∧ v = nn - 1 - q) := ⟨by omega, by omega, hs0, hr0, by omega⟩
      have hq : q < n := by omega
      have hv : v < n := by omega
      have hq1 : (q : Int) < (n : Int) := by omega
      have hq0 : (0 : Int) ≤ (q : Int) := by omega
      have hv1 : (v : Int) < (n : Int) := by omega
      have hv0 : (0 : Int) ≤ (v : Int) := by omega
      obtain ⟨x, hx⟩ : ∃ x, gw A (q - a) = x := ⟨_, rfl⟩
      obtain ⟨y, hy⟩ : ∃ y, gw D (v - m) = y := ⟨_, rfl⟩
      have G1 : gw (P ++ (A ++ (D ++ S))) q = x := by
        rw [gw_right P _ q a l1 (by omega), gw_left A _ _ (by omega), hx]
      have G2 : gw (P ++ (A ++ (D ++ S))) v = y := by
        rw [gw_right P _ v a l1 (by omega), gw_right A _ (v - a) A.length rfl (by omega), gw_left D S _ (by omega), ← hy]
        congr 1
        omega
      have HY : Hid (gw A (q - a) = x ∧ gw D (v - m) = y) := ⟨hx, hy⟩
      have HI : Hid ((s = a ∨ ¬ (gw D (nn - s - m)).1 < (gw A (s - 1 - a)).1) ∧ (r = m ∨ (gw D (nn - 1 - r - m)).1 < (gw A (r - a)).1)) := ⟨hI, hJ⟩
      have wq := wAdd1 q (q + 1) rfl (by omega)
      clear hq9 hI hJ hs0 hsr hr0 hlt hx hy hv9 l1 l2 l3 l4 l5 l6 l7 l8 l9 l10 l11 l12 l13 l14 l15 l16 l17 l18 l19 ih
      obtain ⟨bb, hbb⟩ : ∃ t, decide (y.1 < x.1) = t := ⟨_, rfl⟩
      have hcm : decide (cmI y.1 x.1 < 0) = bb := by rw [cmI_neg, hbb]
      have HB : Hid (decide (y.1 < x.1) = bb) := hbb
      clear hbb
      go_upto_region 35 with fail
      clear u1 u2 u3 u4 hq2
      refine wp_relies [Fx (.func (.func 23) #[] #[]), Fx (.slice (some ⟨g, 0, none⟩) n c), Fx (.int .i64 ((p : Nat) : Int)), Fx (.int .i64 ((q : Nat) : Int)), Fx (.int .i64 ((v : Nat) : Int)), Fx (.pointer (some ⟨g, v * 65, none⟩)), Fx (.agg (wrA y)), Fx (.slice (some ⟨g, 0, none⟩) n c), Fx (.int .i64 ((q : Nat) : Int)), Fx (.pointer (some ⟨g, q * 65, none⟩)), Fx (.agg (wrA x)), Fx (.int .i64 (cmI y.1 x.1)), Fx (.bool bb), Fx (.bool (!bb))] (by kernel_rfl) (by kernel_rfl) ?_ ?_ ?_
      · repeat' (first | exact all_nil | apply all_cons)
        all_goals intro v y y' hv hb
        all_goals first | exact Fx_mono _ _ _ _ hv hb
      · refine ⟨?_, ?_, ?_, ?_, ?_, ?_, ?_, ?_, ?_, ?_, ?_, ?_, ?_, ?_, trivial⟩
        all_goals
          intro ρ y9 hp ρc ρg ρf ho hd
          have o0 : ρ (.tmp 0) = .slice (some ⟨g, 0, none⟩) n c := ho 0 rfl
          have o4 : ρ (.tmp 4) = .func (.func 23) #[] #[] := ho 4 rfl
          have o22 : ρ (.tmp 22) = .int .i64 ((p : Nat) : Int) := ho 22 rfl
          have o23 : ρ (.tmp 23) = .int .i64 ((q : Nat) : Int) := ho 23 rfl
          clear ho
          simp only [depsR, depR, slotR, Fx, List.getElem?_cons_succ, List.getElem?_cons_zero, Region.binds, forall_const] at hd
          simp only [guardR]
          go_split_ands
        · go_simp
        · go_simp
        · go_simp
        · go_simp
        · have hw9 := wv
          go_simp
        · go_simp
        · have hh := own_rg (hO.keep hp) v hv
          go_simp
        · go_simp
        · go_simp
        · go_simp
        · have hh := own_rg (hO.keep hp) q hq
          go_simp
        · go_simp
          refine (cmp26 _ _ _).mono ?_
          rintro e w' ⟨rfl, hw⟩
          exact ⟨_, rfl, rfl, hw⟩
        · go_simp
        · go_simp
      · intro us xa hp1 hw
        simp only [owed, Fx] at hw
        obtain ⟨e0, e1, e2, e3, e4, e5, e6, e7, e8, e9, e10, e11, e12, e13, -⟩ := hw
        simp only [List.length_cons, List.length_nil, List.take_succ_cons, List.take_nil, List.drop_succ_cons, List.drop_nil, asg, List.cons_append, List.nil_append, e0, e1, e2, e3, e4, e5, e6, e7, e8, e9, e10, e11, e12, e13]
        clear e0 e1 e2 e3 e4 e5 e6 e7 e8 e9 e10 e11 e12 e13
        have HO1 : Hid _ := hO.keep hp1
        have HK1 : Hid (Keep [g] w xa) := hK.trans (Keep.of_below hp1)
        clear hO hK hp1 G1 G2
        cases bb with
        | false =>
          simp only [Bool.not_false]
          go_wp2
          go_roundw
          case rel =>
            obtain ⟨q1, q2, q3, q4, q5⟩ := HQ.out
            refine ⟨q + 1, r, by go_num, rfl, by omega, by omega, q4, .inr ?_, HI.out.2, HO1.out, HK1.out⟩
            rw [Nat.add_sub_cancel, HY.out.1, show nn - (q + 1) - m = v - m by omega, HY.out.2]
            exact of_decide_eq_false HB.out
          case measure => have := HQ.out; simp [intOf]; omega
        | true =>
          simp only [Bool.not_true]
          go_wp2
          go_roundw
          case rel =>
            obtain ⟨q1, q2, q3, q4, q5⟩ := HQ.out
            refine ⟨s, q, rfl, rfl, q3, q1, by omega, HI.out.1, .inr ?_, HO1.out, HK1.out⟩
            rw [HY.out.1, ← q5, HY.out.2]
            exact of_decide_eq_true HB.out
          case measure => have := HQ.out; simp [intOf]; omega
    · obtain ⟨l1, l2, l3, l4, l5, l6, l7, l8, l9, l10, l11, l12, l13, l14, l15, l16, l17, l18, l19⟩ := HL.out
      have hc : ¬ (s : Int) < (r : Int) := by omega
      obtain rfl : s = r := by omega
      obtain ⟨e, he9⟩ : ∃ e, e + s = nn := ⟨nn - s, by omega⟩
      have we := wSub nn s e he9 (by omega)
      have hcut := sym_cut (e := e) (mid := mid) (s0 := a) (r0 := m) l6 l7 l2 l3 (by omega) ⟨l12, hs0, hr0, l14⟩ ⟨by omega, by omega⟩ (by omega) (by omega) (by rw [show e - m = nn - s - m by omega]; exact hI) (by rw [show e - 1 - m = nn - 1 - s - m by omega]; exact hJ)
      obtain ⟨A1, hA1⟩ : ∃ q, A.take (s - a) = q := ⟨_, rfl⟩
      obtain ⟨X, hX⟩ : ∃ q, A.drop (s - a) = q := ⟨_, rfl⟩
      obtain ⟨Y, hY⟩ : ∃ q, D.take (e - m) = q := ⟨_, rfl⟩
      obtain ⟨D2, hD2⟩ : ∃ q, D.drop (e - m) = q := ⟨_, rfl⟩
      rw [hA1, hX, hY, hD2] at hcut
      obtain rfl : A = A1 ++ X := by rw [← hA1, ← hX, List.take_append_drop]
      obtain rfl : D = Y ++ D2 := by rw [← hY, ← hD2, List.take_append_drop]
      have k1 : a + A1.length = s := by rw [← hA1, List.length_take]; omega
      have k3 : m + Y.length = e := by rw [← hY, List.length_take]; omega
      simp only [List.length_append] at l2 l3 l4 l5 l8
      have k2 : s + X.length = m := by omega
      have k4 : e + D2.length = b := by omega
      have k5 : s + Y.length = mid := by omega
      have k6 : mid + X.length = e := by omega
      have HM : Hid (∀ L R : List Wr, Srd L → Srd R → Sim (A1 ++ Y) L → Sim (X ++ D2) R → Srd (L ++ R) ∧ Sim (A1 ++ X ++ (Y ++ D2)) (L ++ R)) := fun L R hL hR sL sR => sym_merge l6 l7 hcut.1 hcut.2 hL hR sL sR
      have HA : Hid (Srd A1 ∧ Srd X ∧ Srd Y ∧ Srd D2) := ⟨l6.left, l6.right, l7.left, l7.right⟩
      have IH : Hid (SymOk f) := ih
      have HK : Hid (P.length = a ∧ a + A1.length = s ∧ s + X.length = m ∧ m + Y.length = e ∧ e + D2.length = b ∧ s + Y.length = mid ∧ mid + X.length = e ∧ A1.length + Y.length ≤ f ∧ X.length + D2.length ≤ f ∧ n ≤ 140737488355328) := ⟨l1, k1, k2, k3, k4, k5, k6, by omega, by omega, hn⟩
      have HLN : Hid (2 ≤ A1.length + X.length ∧ 2 ≤ Y.length + D2.length) := ⟨l4, l5⟩
      clear l1 l2 l3 l4 l5 l6 l7 l8 l9 l10 l11 l12 l13 l14 l15 l16 l17 l18 l19 k1 k2 k3 k4 k5 k6 hcut hA1 hX hY hD2 hI hJ hs0 hsr hr0 hlt he9 ih HL hbn hn hcs
      have HN : Hid (P.length + (A1.length + (X.length + (Y.length + (D2.length + S.length)))) = n) := by have := own_len hO; simp only [List.length_append] at this; show _ = _; omega
      rcases Nat.eq_zero_or_pos A1.length with q9 | qA1
      · obtain rfl : A1 = [] := List.eq_nil_of_length_eq_zero q9
        clear q9
        have qX : 0 < X.length := by have := HLN.out; (try simp only [List.length_nil] at this); omega
        rcases Nat.eq_zero_or_pos Y.length with q9 | qY
        · obtain rfl : Y = [] := List.eq_nil_of_length_eq_zero q9
          clear q9
          have qD2 : 0 < D2.length := by have := HLN.out; (try simp only [List.length_nil] at this); omega
          have f1 : (s : Int) < (m : Int) := by have := HK.out; omega
          have f2 : ¬ (m : Int) < (e : Int) := by have := HK.out; (try simp only [List.length_nil] at this); omega
          have f3 : ¬ (a : Int) < (s : Int) := by have := HK.out; (try simp only [List.length_nil] at this); omega
          have f4 : ¬ (s : Int) < (mid : Int) := by have := HK.out; (try simp only [List.length_nil] at this); omega
          have f5 : (mid : Int) < (e : Int) := by have := HK.out; omega
          have f6 : (e : Int) < (b : Int) := by have := HK.out; omega
          obtain ⟨z1, z2, z3, z4, z5, z6, z7, z8, z9, z10⟩ := HK.out
          have hO1 : OwnK wrE wr B (.slice (some ⟨g, 0, none⟩) n c) (P ++ ([] ++ ([] ++ (X ++ (D2 ++ S))))) := by simpa using hO
          have hK1 := hK
          clear z1 z2 z3 z4 z5 z6 z7 z8 z9 z10
          clear hO hK
          obtain ⟨z1, z2, z3, z4, z5, z6, z7, z8, z9, z10⟩ := HK.out
          obtain ⟨Lm, hLm⟩ : ∃ q, [] ++ [] = q := ⟨_, rfl⟩
          have hL1 : Srd Lm := by rw [← hLm]; simpa using HA.out.2.2.1
          have hL2 : Sim ([] ++ []) Lm := by rw [← hLm]; exact Sim.refl _
          have hO2 : OwnK wrE wr B (.slice (some ⟨g, 0, none⟩) n c) (P ++ (Lm ++ (X ++ (D2 ++ S)))) := by rw [← hLm]; simpa using hO1
          have hK3 := hK1
          clear z1 z2 z3 z4 z5 z6 z7 z8 z9 z10
          clear hO1 hK1 hLm
          have hlm := own_len hO2
          simp only [List.length_append] at hlm
          obtain ⟨z1, z2, z3, z4, z5, z6, z7, z8, z9, z10⟩ := HK.out
          have hlm2 : (P ++ Lm).length = mid := by simp only [List.length_append]; have := HN.out; (try simp only [List.length_nil] at *); omega
          have hS := IH.out wr B g n c mid e b (P ++ Lm) X D2 S (by simpa using hO2) hlm2 z7 z5 (by omega) (by omega) HA.out.2.1 HA.out.2.2.2 z10 z9
          have KK : Hid _ := hK3
          have HLL : Hid _ := And.intro hL1 hL2
          clear z1 z2 z3 z4 z5 z6 z7 z8 z9 z10
          clear hO2 hK3 hlm hlm2 hL1 hL2
          go_wp2_with fail
          refine hS.mono ?_
          rintro e9 w4 ⟨⟨u, rfl⟩, R, hR1, hR2, hO3, hK2⟩
          clear hS
          have HKE : Hid (Keep [g] w w4) := KK.out.trans hK2
          have HRR : Hid _ := And.intro hR1 hR2
          clear hK2 KK hR1 hR2
          have HOE : Hid (OwnK wrE w4 B (.slice (some ⟨g, 0, none⟩) n c) (P ++ ((Lm ++ R) ++ S))) := by show OwnK _ _ _ _ _; simpa using hO3
          clear hO3
          go_wp2
          all_goals
            go_end0
            have hfin := HM.out Lm R HLL.out.1 HRR.out.1 HLL.out.2 HRR.out.2
            exact ⟨⟨_, rfl⟩, Lm ++ R, hfin.1, by simpa using hfin.2, HOE.out, HKE.out⟩
        · skip
          rcases Nat.eq_zero_or_pos D2.length with q9 | qD2
          · obtain rfl : D2 = [] := List.eq_nil_of_length_eq_zero q9
            clear q9
            have f1 : (s : Int) < (m : Int) := by have := HK.out; omega
            have f2 : (m : Int) < (e : Int) := by have := HK.out; omega
            have f3 : ¬ (a : Int) < (s : Int) := by have := HK.out; (try simp only [List.length_nil] at this); omega
            have f4 : (s : Int) < (mid : Int) := by have := HK.out; omega
            have f5 : (mid : Int) < (e : Int) := by have := HK.out; omega
            have f6 : ¬ (e : Int) < (b : Int) := by have := HK.out; (try simp only [List.length_nil] at this); omega
            obtain ⟨z1, z2, z3, z4, z5, z6, z7, z8, z9, z10⟩ := HK.out
            have hS := rotate26 wr B g n c s m e (P ++ []) X Y ([] ++ S) cmV (by simpa using hO) (by simp only [List.length_append, List.length_nil] at *; omega) z3 z4 (by omega) (by omega) z10
            have KK : Hid _ := hK
            clear z1 z2 z3 z4 z5 z6 z7 z8 z9 z10
            clear hO hK
            go_wp2_with fail
            refine hS.mono ?_
            rintro e9 w2 ⟨⟨u, rfl⟩, hO2, hK2⟩
            clear hS
            have hO1 : OwnK wrE w2 B (.slice (some ⟨g, 0, none⟩) n c) (P ++ ([] ++ (Y ++ (X ++ ([] ++ S))))) := by simpa using hO2
            have hK1 : Keep [g] w w2 := KK.out.trans hK2
            clear hO2 hK2 KK
            obtain ⟨z1, z2, z3, z4, z5, z6, z7, z8, z9, z10⟩ := HK.out
            obtain ⟨Lm, hLm⟩ : ∃ q, [] ++ Y = q := ⟨_, rfl⟩
            have hL1 : Srd Lm := by rw [← hLm]; simpa using HA.out.2.2.1
            have hL2 : Sim ([] ++ Y) Lm := by rw [← hLm]; exact Sim.refl _
            have hO2 : OwnK wrE w2 B (.slice (some ⟨g, 0, none⟩) n c) (P ++ (Lm ++ (X ++ ([] ++ S)))) := by rw [← hLm]; simpa using hO1
            have hK3 := hK1
            clear z1 z2 z3 z4 z5 z6 z7 z8 z9 z10
            clear hO1 hK1 hLm
            have hlm := own_len hO2
            simp only [List.length_append] at hlm
            obtain ⟨z1, z2, z3, z4, z5, z6, z7, z8, z9, z10⟩ := HK.out
            obtain ⟨R, hR⟩ : ∃ q, X ++ [] = q := ⟨_, rfl⟩
            have HLL : Hid _ := And.intro hL1 hL2
            have HRR : Hid (Srd R ∧ Sim (X ++ []) R) := ⟨by rw [← hR]; simpa using HA.out.2.1, by rw [← hR]; exact Sim.refl _⟩
            have HOE : Hid (OwnK wrE w2 B (.slice (some ⟨g, 0, none⟩) n c) (P ++ ((Lm ++ R) ++ S))) := by show OwnK _ _ _ _ _; rw [← hR]; simpa using hO2
            have HKE : Hid _ := hK3
            clear z1 z2 z3 z4 z5 z6 z7 z8 z9 z10
            clear hO2 hK3 hlm hL1 hL2 hR
            go_wp2
            all_goals
              go_end0
              have hfin := HM.out Lm R HLL.out.1 HRR.out.1 HLL.out.2 HRR.out.2
              exact ⟨⟨_, rfl⟩, Lm ++ R, hfin.1, by simpa using hfin.2, HOE.out, HKE.out⟩
          · skip
            have f1 : (s : Int) < (m : Int) := by have := HK.out; omega
            have f2 : (m : Int) < (e : Int) := by have := HK.out; omega
            have f3 : ¬ (a : Int) < (s : Int) := by have := HK.out; (try simp only [List.length_nil] at this); omega
            have f4 : (s : Int) < (mid : Int) := by have := HK.out; omega
            have f5 : (mid : Int) < (e : Int) := by have := HK.out; omega
            have f6 : (e : Int) < (b : Int) := by have := HK.out; omega
            obtain ⟨z1, z2, z3, z4, z5, z6, z7, z8, z9, z10⟩ := HK.out
            have hS := rotate26 wr B g n c s m e (P ++ []) X Y (D2 ++ S) cmV (by simpa using hO) (by simp only [List.length_append, List.length_nil] at *; omega) z3 z4 (by omega) (by omega) z10
            have KK : Hid _ := hK
            clear z1 z2 z3 z4 z5 z6 z7 z8 z9 z10
            clear hO hK
            go_wp2_with fail
            refine hS.mono ?_
            rintro e9 w2 ⟨⟨u, rfl⟩, hO2, hK2⟩
            clear hS
            have hO1 : OwnK wrE w2 B (.slice (some ⟨g, 0, none⟩) n c) (P ++ ([] ++ (Y ++ (X ++ (D2 ++ S))))) := by simpa using hO2
            have hK1 : Keep [g] w w2 := KK.out.trans hK2
            clear hO2 hK2 KK
            obtain ⟨z1, z2, z3, z4, z5, z6, z7, z8, z9, z10⟩ := HK.out
            obtain ⟨Lm, hLm⟩ : ∃ q, [] ++ Y = q := ⟨_, rfl⟩
            have hL1 : Srd Lm := by rw [← hLm]; simpa using HA.out.2.2.1
            have hL2 : Sim ([] ++ Y) Lm := by rw [← hLm]; exact Sim.refl _
            have hO2 : OwnK wrE w2 B (.slice (some ⟨g, 0, none⟩) n c) (P ++ (Lm ++ (X ++ (D2 ++ S)))) := by rw [← hLm]; simpa using hO1
            have hK3 := hK1
            clear z1 z2 z3 z4 z5 z6 z7 z8 z9 z10
            clear hO1 hK1 hLm
            have hlm := own_len hO2
            simp only [List.length_append] at hlm
            obtain ⟨z1, z2, z3, z4, z5, z6, z7, z8, z9, z10⟩ := HK.out
            have hlm2 : (P ++ Lm).length = mid := by simp only [List.length_append]; have := HN.out; (try simp only [List.length_nil] at *); omega
            have hS := IH.out w2 B g n c mid e b (P ++ Lm) X D2 S (by simpa using hO2) hlm2 z7 z5 (by omega) (by omega) HA.out.2.1 HA.out.2.2.2 z10 z9
            have KK : Hid _ := hK3
            have HLL : Hid _ := And.intro hL1 hL2
            clear z1 z2 z3 z4 z5 z6 z7 z8 z9 z10
            clear hO2 hK3 hlm hlm2 hL1 hL2
            go_wp2_with fail
            refine hS.mono ?_
            rintro e9 w4 ⟨⟨u, rfl⟩, R, hR1, hR2, hO3, hK2⟩
            clear hS
            have HKE : Hid (Keep [g] w w4) := KK.out.trans hK2
            have HRR : Hid _ := And.intro hR1 hR2
            clear hK2 KK hR1 hR2
            have HOE : Hid (OwnK wrE w4 B (.slice (some ⟨g, 0, none⟩) n c) (P ++ ((Lm ++ R) ++ S))) := by show OwnK _ _ _ _ _; simpa using hO3
            clear hO3
            go_wp2
            all_goals
              go_end0
              have hfin := HM.out Lm R HLL.out.1 HRR.out.1 HLL.out.2 HRR.out.2
              exact ⟨⟨_, rfl⟩, Lm ++ R, hfin.1, by simpa using hfin.2, HOE.out, HKE.out⟩
      · skip
        rcases Nat.eq_zero_or_pos X.length with q9 | qX
        · obtain rfl : X = [] := List.eq_nil_of_length_eq_zero q9
          clear q9
          rcases Nat.eq_zero_or_pos Y.length with q9 | qY
          · obtain rfl : Y = [] := List.eq_nil_of_length_eq_zero q9
            clear q9
            have qD2 : 0 < D2.length := by have := HLN.out; (try simp only [List.length_nil] at this); omega
            have f1 : ¬ (s : Int) < (m : Int) := by have := HK.out; (try simp only [List.length_nil] at this); omega
            have f2 : ¬ (m : Int) < (e : Int) := by have := HK.out; (try simp only [List.length_nil] at this); omega
            have f3 : (a : Int) < (s : Int) := by have := HK.out; omega
            have f4 : ¬ (s : Int) < (mid : Int) := by have := HK.out; (try simp only [List.length_nil] at this); omega
            have f5 : ¬ (mid : Int) < (e : Int) := by have := HK.out; (try simp only [List.length_nil] at this); omega
            have f6 : (e : Int) < (b : Int) := by have := HK.out; omega
            obtain ⟨z1, z2, z3, z4, z5, z6, z7, z8, z9, z10⟩ := HK.out
            have hO1 : OwnK wrE wr B (.slice (some ⟨g, 0, none⟩) n c) (P ++ (A1 ++ ([] ++ ([] ++ (D2 ++ S))))) := by simpa using hO
            have hK1 := hK
            clear z1 z2 z3 z4 z5 z6 z7 z8 z9 z10
            clear hO hK
            obtain ⟨z1, z2, z3, z4, z5, z6, z7, z8, z9, z10⟩ := HK.out
            obtain ⟨Lm, hLm⟩ : ∃ q, A1 ++ [] = q := ⟨_, rfl⟩
            have hL1 : Srd Lm := by rw [← hLm]; simpa using HA.out.1
            have hL2 : Sim (A1 ++ []) Lm := by rw [← hLm]; exact Sim.refl _
            have hO2 : OwnK wrE wr B (.slice (some ⟨g, 0, none⟩) n c) (P ++ (Lm ++ ([] ++ (D2 ++ S)))) := by rw [← hLm]; simpa using hO1
            have hK3 := hK1
            clear z1 z2 z3 z4 z5 z6 z7 z8 z9 z10
            clear hO1 hK1 hLm
            have hlm := own_len hO2
            simp only [List.length_append] at hlm
            obtain ⟨z1, z2, z3, z4, z5, z6, z7, z8, z9, z10⟩ := HK.out
            obtain ⟨R, hR⟩ : ∃ q, [] ++ D2 = q := ⟨_, rfl⟩
            have HLL : Hid _ := And.intro hL1 hL2
            have HRR : Hid (Srd R ∧ Sim ([] ++ D2) R) := ⟨by rw [← hR]; simpa using HA.out.2.2.2, by rw [← hR]; exact Sim.refl _⟩
            have HOE : Hid (OwnK wrE wr B (.slice (some ⟨g, 0, none⟩) n c) (P ++ ((Lm ++ R) ++ S))) := by show OwnK _ _ _ _ _; rw [← hR]; simpa using hO2
            have HKE : Hid _ := hK3
            clear z1 z2 z3 z4 z5 z6 z7 z8 z9 z10
            clear hO2 hK3 hlm hL1 hL2 hR
            go_wp2
            all_goals
              go_end0
              have hfin := HM.out Lm R HLL.out.1 HRR.out.1 HLL.out.2 HRR.out.2
              exact ⟨⟨_, rfl⟩, Lm ++ R, hfin.1, by simpa using hfin.2, HOE.out, HKE.out⟩
          · skip
            rcases Nat.eq_zero_or_pos D2.length with q9 | qD2
            · obtain rfl : D2 = [] := List.eq_nil_of_length_eq_zero q9
              clear q9
              have f1 : ¬ (s : Int) < (m : Int) := by have := HK.out; (try simp only [List.length_nil] at this); omega
              have f2 : (m : Int) < (e : Int) := by have := HK.out; omega
              have f3 : (a : Int) < (s : Int) := by have := HK.out; omega
              have f4 : (s : Int) < (mid : Int) := by have := HK.out; omega
              have f5 : ¬ (mid : Int) < (e : Int) := by have := HK.out; (try simp only [List.length_nil] at this); omega
              have f6 : ¬ (e : Int) < (b : Int) := by have := HK.out; (try simp only [List.length_nil] at this); omega
              obtain ⟨z1, z2, z3, z4, z5, z6, z7, z8, z9, z10⟩ := HK.out
              have hO1 : OwnK wrE wr B (.slice (some ⟨g, 0, none⟩) n c) (P ++ (A1 ++ (Y ++ ([] ++ ([] ++ S))))) := by simpa using hO
              have hK1 := hK
              clear z1 z2 z3 z4 z5 z6 z7 z8 z9 z10
              clear hO hK
              obtain ⟨z1, z2, z3, z4, z5, z6, z7, z8, z9, z10⟩ := HK.out
              have hS := IH.out wr B g n c a s mid P A1 Y ([] ++ ([] ++ S)) (by simpa using hO1) z1 z2 z6 (by omega) (by omega) HA.out.1 HA.out.2.2.1 z10 z8
              have KK : Hid _ := hK1
              clear z1 z2 z3 z4 z5 z6 z7 z8 z9 z10
              clear hO1 hK1
              go_wp2_with fail
              refine hS.mono ?_
              rintro e9 w3 ⟨⟨u, rfl⟩, Lm, hL1, hL2, hO2, hK2⟩
              clear hS
              have hK3 : Keep [g] w w3 := KK.out.trans hK2
              clear hK2 KK
              have hlm := own_len hO2
              simp only [List.length_append] at hlm
              obtain ⟨z1, z2, z3, z4, z5, z6, z7, z8, z9, z10⟩ := HK.out
              obtain ⟨R, hR⟩ : ∃ q, [] ++ [] = q := ⟨_, rfl⟩
              have HLL : Hid _ := And.intro hL1 hL2
              have HRR : Hid (Srd R ∧ Sim ([] ++ []) R) := ⟨by rw [← hR]; simpa using HA.out.2.2.2, by rw [← hR]; exact Sim.refl _⟩
              have HOE : Hid (OwnK wrE w3 B (.slice (some ⟨g, 0, none⟩) n c) (P ++ ((Lm ++ R) ++ S))) := by show OwnK _ _ _ _ _; rw [← hR]; simpa using hO2
              have HKE : Hid _ := hK3
              clear z1 z2 z3 z4 z5 z6 z7 z8 z9 z10
              clear hO2 hK3 hlm hL1 hL2 hR
              go_wp2
              all_goals
                go_end0
                have hfin := HM.out Lm R HLL.out.1 HRR.out.1 HLL.out.2 HRR.out.2
                exact ⟨⟨_, rfl⟩, Lm ++ R, hfin.1, by simpa using hfin.2, HOE.out, HKE.out⟩
            · skip
              have f1 : ¬ (s : Int) < (m : Int) := by have := HK.out; (try simp only [List.length_nil] at this); omega
              have f2 : (m : Int) < (e : Int) := by have := HK.out; omega
              have f3 : (a : Int) < (s : Int) := by have := HK.out; omega
              have f4 : (s : Int) < (mid : Int) := by have := HK.out; omega
              have f5 : ¬ (mid : Int) < (e : Int) := by have := HK.out; (try simp only [List.length_nil] at this); omega
              have f6 : (e : Int) < (b : Int) := by have := HK.out; omega
              obtain ⟨z1, z2, z3, z4, z5, z6, z7, z8, z9, z10⟩ := HK.out
              have hO1 : OwnK wrE wr B (.slice (some ⟨g, 0, none⟩) n c) (P ++ (A1 ++ (Y ++ ([] ++ (D2 ++ S))))) := by simpa using hO
              have hK1 := hK
              clear z1 z2 z3 z4 z5 z6 z7 z8 z9 z10
              clear hO hK
              obtain ⟨z1, z2, z3, z4, z5, z6, z7, z8, z9, z10⟩ := HK.out
              have hS := IH.out wr B g n c a s mid P A1 Y ([] ++ (D2 ++ S)) (by simpa using hO1) z1 z2 z6 (by omega) (by omega) HA.out.1 HA.out.2.2.1 z10 z8
              have KK : Hid _ := hK1
              clear z1 z2 z3 z4 z5 z6 z7 z8 z9 z10
              clear hO1 hK1
              go_wp2_with fail
              refine hS.mono ?_
              rintro e9 w3 ⟨⟨u, rfl⟩, Lm, hL1, hL2, hO2, hK2⟩
              clear hS
              have hK3 : Keep [g] w w3 := KK.out.trans hK2
              clear hK2 KK
              have hlm := own_len hO2
              simp only [List.length_append] at hlm
              obtain ⟨z1, z2, z3, z4, z5, z6, z7, z8, z9, z10⟩ := HK.out
              obtain ⟨R, hR⟩ : ∃ q, [] ++ D2 = q := ⟨_, rfl⟩
              have HLL : Hid _ := And.intro hL1 hL2
              have HRR : Hid (Srd R ∧ Sim ([] ++ D2) R) := ⟨by rw [← hR]; simpa using HA.out.2.2.2, by rw [← hR]; exact Sim.refl _⟩
              have HOE : Hid (OwnK wrE w3 B (.slice (some ⟨g, 0, none⟩) n c) (P ++ ((Lm ++ R) ++ S))) := by show OwnK _ _ _ _ _; rw [← hR]; simpa using hO2
              have HKE : Hid _ := hK3
              clear z1 z2 z3 z4 z5 z6 z7 z8 z9 z10
              clear hO2 hK3 hlm hL1 hL2 hR
              go_wp2
              all_goals
                go_end0
                have hfin := HM.out Lm R HLL.out.1 HRR.out.1 HLL.out.2 HRR.out.2
                exact ⟨⟨_, rfl⟩, Lm ++ R, hfin.1, by simpa using hfin.2, HOE.out, HKE.out⟩
        · skip
          rcases Nat.eq_zero_or_pos Y.length with q9 | qY
          · obtain rfl : Y = [] := List.eq_nil_of_length_eq_zero q9
            clear q9
            have qD2 : 0 < D2.length := by have := HLN.out; (try simp only [List.length_nil] at this); omega
            have f1 : (s : Int) < (m : Int) := by have := HK.out; omega
            have f2 : ¬ (m : Int) < (e : Int) := by have := HK.out; (try simp only [List.length_nil] at this); omega
            have f3 : (a : Int) < (s : Int) := by have := HK.out; omega
            have f4 : ¬ (s : Int) < (mid : Int) := by have := HK.out; (try simp only [List.length_nil] at this); omega
            have f5 : (mid : Int) < (e : Int) := by have := HK.out; omega
            have f6 : (e : Int) < (b : Int) := by have := HK.out; omega
            obtain ⟨z1, z2, z3, z4, z5, z6, z7, z8, z9, z10⟩ := HK.out
            have hO1 : OwnK wrE wr B (.slice (some ⟨g, 0, none⟩) n c) (P ++ (A1 ++ ([] ++ (X ++ (D2 ++ S))))) := by simpa using hO
            have hK1 := hK
            clear z1 z2 z3 z4 z5 z6 z7 z8 z9 z10
            clear hO hK
            obtain ⟨z1, z2, z3, z4, z5, z6, z7, z8, z9, z10⟩ := HK.out
            obtain ⟨Lm, hLm⟩ : ∃ q, A1 ++ [] = q := ⟨_, rfl⟩
            have hL1 : Srd Lm := by rw [← hLm]; simpa using HA.out.1
            have hL2 : Sim (A1 ++ []) Lm := by rw [← hLm]; exact Sim.refl _
            have hO2 : OwnK wrE wr B (.slice (some ⟨g, 0, none⟩) n c) (P ++ (Lm ++ (X ++ (D2 ++ S)))) := by rw [← hLm]; simpa using hO1
            have hK3 := hK1
            clear z1 z2 z3 z4 z5 z6 z7 z8 z9 z10
            clear hO1 hK1 hLm
            have hlm := own_len hO2
            simp only [List.length_append] at hlm
            obtain ⟨z1, z2, z3, z4, z5, z6, z7, z8, z9, z10⟩ := HK.out
            have hlm2 : (P ++ Lm).length = mid := by simp only [List.length_append]; have := HN.out; (try simp only [List.length_nil] at *); omega
            have hS := IH.out wr B g n c mid e b (P ++ Lm) X D2 S (by simpa using hO2) hlm2 z7 z5 (by omega) (by omega) HA.out.2.1 HA.out.2.2.2 z10 z9
            have KK : Hid _ := hK3
            have HLL : Hid _ := And.intro hL1 hL2
            clear z1 z2 z3 z4 z5 z6 z7 z8 z9 z10
            clear hO2 hK3 hlm hlm2 hL1 hL2
            go_wp2_with fail
            refine hS.mono ?_
            rintro e9 w4 ⟨⟨u, rfl⟩, R, hR1, hR2, hO3, hK2⟩
            clear hS
            have HKE : Hid (Keep [g] w w4) := KK.out.trans hK2
            have HRR : Hid _ := And.intro hR1 hR2
            clear hK2 KK hR1 hR2
            have HOE : Hid (OwnK wrE w4 B (.slice (some ⟨g, 0, none⟩) n c) (P ++ ((Lm ++ R) ++ S))) := by show OwnK _ _ _ _ _; simpa using hO3
            clear hO3
            go_wp2
            all_goals
              go_end0
              have hfin := HM.out Lm R HLL.out.1 HRR.out.1 HLL.out.2 HRR.out.2
              exact ⟨⟨_, rfl⟩, Lm ++ R, hfin.1, by simpa using hfin.2, HOE.out, HKE.out⟩
          · skip
            rcases Nat.eq_zero_or_pos D2.length with q9 | qD2
            · obtain rfl : D2 = [] := List.eq_nil_of_length_eq_zero q9
              clear q9
              have f1 : (s : Int) < (m : Int) := by have := HK.out; omega
              have f2 : (m : Int) < (e : Int) := by have := HK.out; omega
              have f3 : (a : Int) < (s : Int) := by have := HK.out; omega
              have f4 : (s : Int) < (mid : Int) := by have := HK.out; omega
              have f5 : (mid : Int) < (e : Int) := by have := HK.out; omega
              have f6 : ¬ (e : Int) < (b : Int) := by have := HK.out; (try simp only [List.length_nil] at this); omega
              obtain ⟨z1, z2, z3, z4, z5, z6, z7, z8, z9, z10⟩ := HK.out
              have hS := rotate26 wr B g n c s m e (P ++ A1) X Y ([] ++ S) cmV (by simpa using hO) (by simp only [List.length_append, List.length_nil] at *; omega) z3 z4 (by omega) (by omega) z10
              have KK : Hid _ := hK
              clear z1 z2 z3 z4 z5 z6 z7 z8 z9 z10
              clear hO hK
              go_wp2_with fail
              refine hS.mono ?_
              rintro e9 w2 ⟨⟨u, rfl⟩, hO2, hK2⟩
              clear hS
              have hO1 : OwnK wrE w2 B (.slice (some ⟨g, 0, none⟩) n c) (P ++ (A1 ++ (Y ++ (X ++ ([] ++ S))))) := by simpa using hO2
              have hK1 : Keep [g] w w2 := KK.out.trans hK2
              clear hO2 hK2 KK
              obtain ⟨z1, z2, z3, z4, z5, z6, z7, z8, z9, z10⟩ := HK.out
              have hS := IH.out w2 B g n c a s mid P A1 Y (X ++ ([] ++ S)) (by simpa using hO1) z1 z2 z6 (by omega) (by omega) HA.out.1 HA.out.2.2.1 z10 z8
              have KK : Hid _ := hK1
              clear z1 z2 z3 z4 z5 z6 z7 z8 z9 z10
              clear hO1 hK1
              go_wp2_with fail
              refine hS.mono ?_
              rintro e9 w3 ⟨⟨u, rfl⟩, Lm, hL1, hL2, hO2, hK2⟩
              clear hS
              have hK3 : Keep [g] w w3 := KK.out.trans hK2
              clear hK2 KK
              have hlm := own_len hO2
              simp only [List.length_append] at hlm
              obtain ⟨z1, z2, z3, z4, z5, z6, z7, z8, z9, z10⟩ := HK.out
              obtain ⟨R, hR⟩ : ∃ q, X ++ [] = q := ⟨_, rfl⟩
              have HLL : Hid _ := And.intro hL1 hL2
              have HRR : Hid (Srd R ∧ Sim (X ++ []) R) := ⟨by rw [← hR]; simpa using HA.out.2.1, by rw [← hR]; exact Sim.refl _⟩
              have HOE : Hid (OwnK wrE w3 B (.slice (some ⟨g, 0, none⟩) n c) (P ++ ((Lm ++ R) ++ S))) := by show OwnK _ _ _ _ _; rw [← hR]; simpa using hO2
              have HKE : Hid _ := hK3
              clear z1 z2 z3 z4 z5 z6 z7 z8 z9 z10
              clear hO2 hK3 hlm hL1 hL2 hR
              go_wp2
              all_goals
                go_end0
                have hfin := HM.out Lm R HLL.out.1 HRR.out.1 HLL.out.2 HRR.out.2
                exact ⟨⟨_, rfl⟩, Lm ++ R, hfin.1, by simpa using hfin.2, HOE.out, HKE.out⟩
            · skip
              have f1 : (s : Int) < (m : Int) := by have := HK.out; omega
              have f2 : (m : Int) < (e : Int) := by have := HK.out; omega
              have f3 : (a : Int) < (s : Int) := by have := HK.out; omega
              have f4 : (s : Int) < (mid : Int) := by have := HK.out; omega
              have f5 : (mid : Int) < (e : Int) := by have := HK.out; omega
              have f6 : (e : Int) < (b : Int) := by have := HK.out; omega
              obtain ⟨z1, z2, z3, z4, z5, z6, z7, z8, z9, z10⟩ := HK.out
              have hS := rotate26 wr B g n c s m e (P ++ A1) X Y (D2 ++ S) cmV (by simpa using hO) (by simp only [List.length_append, List.length_nil] at *; omega) z3 z4 (by omega) (by omega) z10
              have KK : Hid _ := hK
              clear z1 z2 z3 z4 z5 z6 z7 z8 z9 z10
              clear hO hK
              go_wp2_with fail
              refine hS.mono ?_
              rintro e9 w2 ⟨⟨u, rfl⟩, hO2, hK2⟩
              clear hS
              have hO1 : OwnK wrE w2 B (.slice (some ⟨g, 0, none⟩) n c) (P ++ (A1 ++ (Y ++ (X ++ (D2 ++ S))))) := by simpa using hO2
              have hK1 : Keep [g] w w2 := KK.out.trans hK2
              clear hO2 hK2 KK
              obtain ⟨z1, z2, z3, z4, z5, z6, z7, z8, z9, z10⟩ := HK.out
              have hS := IH.out w2 B g n c a s mid P A1 Y (X ++ (D2 ++ S)) (by simpa using hO1) z1 z2 z6 (by omega) (by omega) HA.out.1 HA.out.2.2.1 z10 z8
              have KK : Hid _ := hK1
              clear z1 z2 z3 z4 z5 z6 z7 z8 z9 z10
              clear hO1 hK1
              go_wp2_with fail
              refine hS.mono ?_
              rintro e9 w3 ⟨⟨u, rfl⟩, Lm, hL1, hL2, hO2, hK2⟩
              clear hS
              have hK3 : Keep [g] w w3 := KK.out.trans hK2
              clear hK2 KK
              have hlm := own_len hO2
              simp only [List.length_append] at hlm
              obtain ⟨z1, z2, z3, z4, z5, z6, z7, z8, z9, z10⟩ := HK.out
              have hlm2 : (P ++ Lm).length = mid := by simp only [List.length_append]; have := HN.out; (try simp only [List.length_nil] at *); omega
              have hS := IH.out w3 B g n c mid e b (P ++ Lm) X D2 S (by simpa using hO2) hlm2 z7 z5 (by omega) (by omega) HA.out.2.1 HA.out.2.2.2 z10 z9
              have KK : Hid _ := hK3
              have HLL : Hid _ := And.intro hL1 hL2
              clear z1 z2 z3 z4 z5 z6 z7 z8 z9 z10
              clear hO2 hK3 hlm hlm2 hL1 hL2
              go_wp2_with fail
              refine hS.mono ?_
              rintro e9 w4 ⟨⟨u, rfl⟩, R, hR1, hR2, hO3, hK2⟩
              clear hS
              have HKE : Hid (Keep [g] w w4) := KK.out.trans hK2
              have HRR : Hid _ := And.intro hR1 hR2
              clear hK2 KK hR1 hR2
              have HOE : Hid (OwnK wrE w4 B (.slice (some ⟨g, 0, none⟩) n c) (P ++ ((Lm ++ R) ++ S))) := by show OwnK _ _ _ _ _; simpa using hO3
              clear hO3
              go_wp2
              all_goals
                go_end0
                have hfin := HM.out Lm R HLL.out.1 HRR.out.1 HLL.out.2 HRR.out.2
                exact ⟨⟨_, rfl⟩, Lm ++ R, hfin.1, by simpa using hfin.2, HOE.out, HKE.out⟩
end Go.Proofs.Ytmbkkdojjfdliaa
