
import Derived.Test.YtmbkkdojjfdliaaStb3
namespace Go.Proofs.Ytmbkkdojjfdliaa
open Go.RowKit

/-! insertionSort -/
def cmV : Value := .func (.func 23) #[] #[]
set_option linter.unusedSimpArgs false in
theorem insertion0 (w : World) (v : Value) (a : Nat) (h : a ≤ 140737488355328) : Calls Try.prog 30 #[v, .int .i64 (a : Int), .int .i64 (a : Int), cmV] w fun e w' => (∃ u, e = .returned u) ∧ Below w.heap.size w w' := by
  have wa := wAdd1 a (a + 1) rfl (by omega)
  go_enter Try.func30, Try.ntmps30
  go_wp2_with fail
  go_loopw [8] (fun iv wr => iv = .int .i64 ((a + 1 : Nat) : Int) ∧ Below w.heap.size w wr) (fun _ _ => 0)
  case atStart => exact ⟨by go_num, Below.refl _ _⟩
  case round =>
    obtain ⟨rfl, hB⟩ := hrel
    have hc : ¬ ((a + 1 : Nat) : Int) < (a : Int) := by omega
    go_wp2
    go_end0
    exact ⟨⟨_, rfl⟩, hB⟩
set_option linter.unusedSimpArgs false in
set_option maxHeartbeats 8000000 in
set_option maxRecDepth 100000 in
theorem insertion26 (w : World) (B g n c a b : Nat) (P A S : List Wr) (h : OwnK wrE w B (.slice (some ⟨g, 0, none⟩) n c) (P ++ (A ++ S))) (ha : P.length = a) (hb : a + A.length = b) (hn : n ≤ 140737488355328) :
    Calls Try.prog 30 #[.slice (some ⟨g, 0, none⟩) n c, .int .i64 (a : Int), .int .i64 (b : Int), cmV] w fun e w' => (∃ u, e = .returned u) ∧ ∃ M, Srd M ∧ Sim A M ∧ OwnK wrE w' B (.slice (some ⟨g, 0, none⟩) n c) (P ++ (M ++ S)) ∧ Keep [g] w w' := by
  have hlen := own_len h
  simp only [List.length_append] at hlen
  cases A with
  | nil =>
    obtain rfl : a = b := by simpa using hb
    refine (insertion0 w _ a (by omega)).mono ?_
    rintro e w' ⟨hu, hB⟩
    exact ⟨hu, [], Srd.nil, Sim.refl _, h.keep hB, Keep.of_below hB⟩
  | cons x0 R0 =>
    have hbn : b ≤ n := by omega
    have han : a + 1 ≤ b := by rw [← hb]; simp
    have HL : Hid (P.length = a ∧ a + (x0 :: R0).length = b) := ⟨ha, hb⟩
    have wa := wAdd1 a (a + 1) rfl (by omega)
    clear hlen ha hb
    go_enter Try.func30, Try.ntmps30
    go_wp2_with fail
    clear wa
    go_loopw [8] (fun iv wr => ∃ (k : Nat) (A1 M R : List Wr), iv = .int .i64 (k : Int) ∧ x0 :: R0 = A1 ++ R ∧ Srd M ∧ Sim A1 M ∧ a + M.length = k ∧ a < k ∧ k + R.length = b ∧ OwnK wrE wr B (.slice (some ⟨g, 0, none⟩) n c) (P ++ (M ++ (R ++ S))) ∧ Keep [g] w wr) (fun iv _ => b - (intOf iv).toNat)
    case atStart => exact ⟨a + 1, [x0], [x0], R0, by go_num, rfl, Srd.one _, Sim.refl _, rfl, by omega, by have := HL.out.2; simp at this; omega, by simpa using h, Keep.refl _ _⟩
    case round =>
      clear h
      obtain ⟨k, A1, M, R, rfl, hA, hM, hS, hk, hak, hkR, hO, hK⟩ := hrel
      have hlen : P.length + (M.length + (R.length + S.length)) = n ∧ a + M.length + R.length = b := by
        have := own_len hO
        simp only [List.length_append] at this
        exact ⟨this, by omega⟩
      by_cases hlt : k < b
      · have hkb : (k : Int) < (b : Int) := by omega
        obtain ⟨x, R', rfl⟩ : ∃ x r, R = x :: r := by
          cases R with
          | nil => simp at hlen; omega
          | cons x r => exact ⟨x, r, rfl⟩
        have HX : Hid (x0 :: R0 = (A1 ++ [x]) ++ R' ∧ Sim (A1 ++ [x]) (M ++ [x]) ∧ Srd M ∧ a + M.length = k ∧ a < k ∧ k < b ∧ k + 1 + R'.length = b) := ⟨by rw [hA]; simp, hS.app (Sim.refl _), hM, hk, hak, hlt, by simp at hkR; omega⟩
        have hpk : P.length = a := HL.out.1
        have hkn : k < n := by omega
        have wk := wAdd1 k (k + 1) rfl (by omega)
        clear hA hM hS hlen hlt hkR
        go_wp2_with fail
        go_loopw [9] (fun jv wr => ∃ (i : Nat) (Ma Mb : List Wr), jv = .int .i64 (i : Int) ∧ M = Ma ++ Mb ∧ a + Ma.length = i ∧ (∀ y ∈ Mb, x.1 < y.1) ∧ OwnK wrE wr B (.slice (some ⟨g, 0, none⟩) n c) (P ++ (Ma ++ (x :: (Mb ++ (R' ++ S))))) ∧ Keep [g] w wr) (fun jv _ => (intOf jv).toNat)
        case atStart => exact ⟨k, M, [], rfl, by simp, hk, by simp, by simpa using hO, hK⟩
        case round =>
          clear hO hK hk hak
          obtain ⟨i, Ma, Mb, rfl, hM, hi9, hMb, hO, hK⟩ := hrel
          have hML : Ma.length + Mb.length = M.length := by rw [hM]; simp
          have hik : i ≤ k := by have := HX.out.2.2.2.1; omega
          by_cases hgt : a < i
          · have hga : (i : Int) > (a : Int) := by omega
            obtain ⟨q, hq9⟩ : ∃ q, q + 1 = i := ⟨i - 1, by omega⟩
            have hi : i < n := by omega
            have hq : q < n := by omega
            have wq := wSub1 i q hq9 (by omega)
            have hi1 : (i : Int) < (n : Int) := by omega
            have hq1 : (q : Int) < (n : Int) := by omega
            have hi0 : (0 : Int) ≤ (i : Int) := by omega
            have hq0 : (0 : Int) ≤ (q : Int) := by omega
            obtain ⟨M', y, rfl⟩ : ∃ M' y, Ma = M' ++ [y] := ⟨Ma.dropLast, Ma.getLast (by intro q; subst q; simp at hi9; omega), (List.dropLast_concat_getLast _).symm⟩
            simp only [List.length_append, List.length_cons, List.length_nil] at hi9 hML
            have G1 : gw (P ++ ((M' ++ [y]) ++ (x :: (Mb ++ (R' ++ S))))) i = x := by
              have := gw_mid (P ++ (M' ++ [y])) (Mb ++ (R' ++ S)) x i (by simp; omega)
              simpa using this
            have G2 : gw (P ++ ((M' ++ [y]) ++ (x :: (Mb ++ (R' ++ S))))) q = y := by
              have := gw_mid (P ++ M') (x :: (Mb ++ (R' ++ S))) y q (by simp; omega)
              simpa using this
            have e3 : swW (P ++ ((M' ++ [y]) ++ (x :: (Mb ++ (R' ++ S))))) i q = P ++ (M' ++ (x :: ((y :: Mb) ++ (R' ++ S)))) := by
              rw [swW_comm]
              have := swW_mid (P ++ M') [] (Mb ++ (R' ++ S)) y x q i (by simp; omega) (by simp; omega)
              simpa using this
            obtain ⟨L, hL⟩ : ∃ L, P ++ ((M' ++ [y]) ++ (x :: (Mb ++ (R' ++ S)))) = L := ⟨_, rfl⟩
            rw [hL] at G1 G2 e3 hO
            have HS : Hid (swW L i q = P ++ (M' ++ (x :: ((y :: Mb) ++ (R' ++ S))))) := e3
            have HM : Hid (M = (M' ++ [y]) ++ Mb ∧ a + (M' ++ [y]).length = i ∧ (∀ z ∈ Mb, x.1 < z.1) ∧ P ++ ((M' ++ [y]) ++ (x :: (Mb ++ (R' ++ S)))) = L ∧ q + 1 = i) := ⟨hM, by simp; omega, hMb, hL, hq9⟩
            clear hML hM hi9 hMb hL e3 hq9 hgt
            obtain ⟨bb, hbb⟩ : ∃ t, decide (x.1 < y.1) = t := ⟨_, rfl⟩
            have hcm : decide (cmI x.1 y.1 < 0) = bb := by rw [cmI_neg, hbb]
            have HB : Hid (decide (x.1 < y.1) = bb) := hbb
            clear hbb
            go_upto_region 4 with fail
            refine wp_relies [Fx (.int .i64 ((i : Nat) : Int)), Fx (.int .i64 ((a : Nat) : Int)), Fx (.bool true), Fx (.bool true), Fx (.func (.func 23) #[] #[]), Fx (.slice (some ⟨g, 0, none⟩) n c), Fx (.int .i64 ((i : Nat) : Int)), Fx (.pointer (some ⟨g, i * 65, none⟩)), Fx (.agg (wrA x)), Fx (.slice (some ⟨g, 0, none⟩) n c), Fx (.int .i64 ((i : Nat) : Int)), Fx (.int .i64 ((q : Nat) : Int)), Fx (.pointer (some ⟨g, q * 65, none⟩)), Fx (.agg (wrA y)), Fx (.int .i64 (cmI x.1 y.1)), Fx (.bool bb), Fx (.bool bb)] (by kernel_rfl) (by kernel_rfl) ?_ ?_ ?_
            · repeat' (first | exact all_nil | apply all_cons)
              all_goals intro v y y' hv hb
              all_goals first | exact Fx_mono _ _ _ _ hv hb
            · refine ⟨?_, ?_, ?_, ?_, ?_, ?_, ?_, ?_, ?_, ?_, ?_, ?_, ?_, ?_, ?_, ?_, ?_, trivial⟩
              all_goals
                intro ρ y9 hp ρc ρg ρf ho hd
                have o0 : ρ (.tmp 0) = .slice (some ⟨g, 0, none⟩) n c := ho 0 rfl
                have o1 : ρ (.tmp 1) = .int .i64 ((a : Nat) : Int) := ho 1 rfl
                have o3 : ρ (.tmp 3) = .func (.func 23) #[] #[] := ho 3 rfl
                have o9 : ρ (.tmp 9) = .int .i64 ((i : Nat) : Int) := ho 9 rfl
                clear ho
                simp only [depsR, depR, slotR, Fx, List.getElem?_cons_succ, List.getElem?_cons_zero, Region.binds, forall_const] at hd
                simp only [guardR]
                go_split_ands
              · go_simp
              · go_simp
              · go_simp
              · go_simp
              · refine ⟨fun _ => ?_, fun hy => absurd (by simp [yieldR, slotR, *]) hy⟩
                go_simp
              · refine ⟨fun _ => ?_, fun hy => absurd (by simp [yieldR, slotR, *]) hy⟩
                go_simp
              · refine ⟨fun _ => ?_, fun hy => absurd (by simp [yieldR, slotR, *]) hy⟩
                go_simp
              · refine ⟨fun _ => ?_, fun hy => absurd (by simp [yieldR, slotR, *]) hy⟩
                go_simp
              · refine ⟨fun _ => ?_, fun hy => absurd (by simp [yieldR, slotR, *]) hy⟩
                have hh := own_rg (hO.keep hp) i hi
                go_simp
              · refine ⟨fun _ => ?_, fun hy => absurd (by simp [yieldR, slotR, *]) hy⟩
                go_simp
              · refine ⟨fun _ => ?_, fun hy => absurd (by simp [yieldR, slotR, *]) hy⟩
                go_simp
              · refine ⟨fun _ => ?_, fun hy => absurd (by simp [yieldR, slotR, *]) hy⟩
                go_simp
              · refine ⟨fun _ => ?_, fun hy => absurd (by simp [yieldR, slotR, *]) hy⟩
                go_simp
              · refine ⟨fun _ => ?_, fun hy => absurd (by simp [yieldR, slotR, *]) hy⟩
                have hh := own_rg (hO.keep hp) q hq
                go_simp
              · refine ⟨fun _ => ?_, fun hy => absurd (by simp [yieldR, slotR, *]) hy⟩
                go_simp
                refine (cmp26 _ _ _).mono ?_
                rintro e w' ⟨rfl, hw⟩
                exact ⟨_, rfl, rfl, hw⟩
              · refine ⟨fun _ => ?_, fun hy => absurd (by simp [yieldR, slotR, *]) hy⟩
                go_simp
              · go_simp
            · intro us xa hp1 hw
              simp only [owed, Fx] at hw
              obtain ⟨e0, e1, e2, e3, e4, e5, e6, e7, e8, e9, e10, e11, e12, e13, e14, e15, e16, -⟩ := hw
              simp only [List.length_cons, List.length_nil, List.take_succ_cons, List.take_nil, List.drop_succ_cons, List.drop_nil, asg, List.cons_append, List.nil_append, e0, e1, e2, e3, e4, e5, e6, e7, e8, e9, e10, e11, e12, e13, e14, e15, e16]
              clear e0 e1 e2 e3 e4 e5 e6 e7 e8 e9 e10 e11 e12 e13 e14 e15 e16
              have hO1 := hO.keep hp1
              have hK1 : Keep [g] w xa := hK.trans (Keep.of_below hp1)
              clear hO hK hp1 G1 G2
              cases bb with
              | true =>
                have hxy : x.1 < y.1 := of_decide_eq_true HB.out
                go_upto_region 6 with fail
                refine wp_reliesI (kokW (G := [g])) (SwJ B g n c L i q) [15] [none, none, none, none, none, none, none, none, none, some (0, [], []), none, none, none, some (0, [], []), none, some (0, [], []), none] [Fx (.slice (some ⟨g, 0, none⟩) n c), Fx (.int .i64 ((i : Nat) : Int)), Fx (.slice (some ⟨g, 0, none⟩) n c), Fx (.int .i64 ((i : Nat) : Int)), Fx (.int .i64 ((q : Nat) : Int)), Fx (.slice (some ⟨g, 0, none⟩) n c), Fx (.int .i64 ((i : Nat) : Int)), Fx (.int .i64 ((q : Nat) : Int)), Fx (.pointer (some ⟨g, q * 65, none⟩)), Fx (.agg (wrA (gw L q))), Fx (.slice (some ⟨g, 0, none⟩) n c), Fx (.int .i64 ((i : Nat) : Int)), Fx (.pointer (some ⟨g, i * 65, none⟩)), Fx (.agg (wrA (gw L i))), Fx (.pointer (some ⟨g, i * 65, none⟩)), fun _ _ => True, Fx (.pointer (some ⟨g, q * 65, none⟩))] rfl (by decide) rfl (by kernel_rfl) (by kernel_rfl) (by kernel_rfl) hO1 (SwJ_later B g n c L i q) ?_ ?_ ?_ ?_
                · repeat' (first | exact all_nil | apply all_cons)
                  all_goals intro v y y' hv hb
                  all_goals first | exact Fx_mono _ _ _ _ hv hb | exact trivial
                · intro i9 f9 hf9 hl9 v y y' hv hb
                  rcases i9 with _ | i9
                  · first | (cases hl9; done) | (cases hf9; first | exact hv | exact trivial)
                  rcases i9 with _ | i9
                  · first | (cases hl9; done) | (cases hf9; first | exact hv | exact trivial)
                  rcases i9 with _ | i9
                  · first | (cases hl9; done) | (cases hf9; first | exact hv | exact trivial)
                  rcases i9 with _ | i9
                  · first | (cases hl9; done) | (cases hf9; first | exact hv | exact trivial)
                  rcases i9 with _ | i9
                  · first | (cases hl9; done) | (cases hf9; first | exact hv | exact trivial)
                  rcases i9 with _ | i9
                  · first | (cases hl9; done) | (cases hf9; first | exact hv | exact trivial)
                  rcases i9 with _ | i9
                  · first | (cases hl9; done) | (cases hf9; first | exact hv | exact trivial)
                  rcases i9 with _ | i9
                  · first | (cases hl9; done) | (cases hf9; first | exact hv | exact trivial)
                  rcases i9 with _ | i9
                  · first | (cases hl9; done) | (cases hf9; first | exact hv | exact trivial)
                  rcases i9 with _ | i9
                  · first | (cases hl9; done) | (cases hf9; first | exact hv | exact trivial)
                  rcases i9 with _ | i9
                  · first | (cases hl9; done) | (cases hf9; first | exact hv | exact trivial)
                  rcases i9 with _ | i9
                  · first | (cases hl9; done) | (cases hf9; first | exact hv | exact trivial)
                  rcases i9 with _ | i9
                  · first | (cases hl9; done) | (cases hf9; first | exact hv | exact trivial)
                  rcases i9 with _ | i9
                  · first | (cases hl9; done) | (cases hf9; first | exact hv | exact trivial)
                  rcases i9 with _ | i9
                  · first | (cases hl9; done) | (cases hf9; first | exact hv | exact trivial)
                  rcases i9 with _ | i9
                  · first | (cases hl9; done) | (cases hf9; first | exact hv | exact trivial)
                  rcases i9 with _ | i9
                  · first | (cases hl9; done) | (cases hf9; first | exact hv | exact trivial)
                  · simp at hf9
                · refine ⟨?_, ?_, ?_, ?_, ?_, ?_, ?_, ?_, ?_, ?_, ?_, ?_, ?_, ?_, ?_, ?_, ?_, trivial⟩
                  all_goals
                    intro ρ x hk hat ρc ρg ρf ho hd
                    have o0 : ρ (.tmp 0) = .slice (some ⟨g, 0, none⟩) n c := ho 0 rfl
                    have o9 : ρ (.tmp 9) = .int .i64 ((i : Nat) : Int) := ho 9 rfl
                    clear ho
                    simp only [depsR, depR, slotR, Fx, List.getElem?_cons_succ, List.getElem?_cons_zero, Region.binds, forall_const] at hd
                    simp only [guardR, List.contains_cons, List.contains_nil, List.elem_cons, List.elem_nil, Nat.reduceBEq, Bool.or_false, Bool.false_or, Bool.or_true, Bool.true_or, cond_true, cond_false]
                    go_split_ands
                  · go_simp
                  · go_simp
                  · go_simp
                  · go_simp
                  · have hw9 := wq
                    go_simp
                  · go_simp
                  · go_simp
                  · have hw9 := wq
                    go_simp
                  · go_simp
                  · have hh := own_rg hat q hq
                    go_simp
                  · go_simp
                  · go_simp
                  · go_simp
                  · have hh := own_rg hat i hi
                    go_simp
                  · go_simp
                  · have hr := own_st hat i hi (gw L q)
                    go_simp
                    exact ⟨⟨trivial, own_put hat i hi _⟩, keep_st x g (i * 65) _⟩
                  · go_simp
                · intro vs x1 hk hw hI
                  simp only [owed, Fx] at hw
                  obtain ⟨e0, e1, e2, e3, e4, e5, e6, e7, e8, e9, e10, e11, e12, e13, e14, e15, e16, -⟩ := hw
                  simp only [List.length_cons, List.length_nil, List.take_succ_cons, List.take_zero, List.drop_succ_cons, List.drop_zero, asg, List.cons_append, List.nil_append, e0, e1, e2, e3, e4, e5, e6, e7, e8, e9, e10, e11, e12, e13, e14, e16]
                  clear e0 e1 e2 e3 e4 e5 e6 e7 e8 e9 e10 e11 e12 e13 e14 e16 e15
                  have hI' : OwnK wrE x1 B (.slice (some ⟨g, 0, none⟩) n c) (L.set i (gw L q)) := hI
                  have hr := own_st hI' q hq (gw L i)
                  have hfin : OwnK wrE _ B (.slice (some ⟨g, 0, none⟩) n c) (swW L i q) := own_put hI' q hq (gw L i)
                  have hK2 : Keep [g] xa _ := hk.trans (keep_st x1 g (q * 65) (wrE.enc (gw L i)))
                  rw [HS.out] at hfin
                  have HO : Hid _ := hfin
                  have HK : Hid (Keep [g] w _) := hK1.trans hK2
                  clear hfin hK2 hI' hI hk hO1 hK1
                  go_wp2
                  go_roundw
                  case rel =>
                    obtain ⟨q1, q2, q3, q4, q5⟩ := HM.out
                    refine ⟨q, M', y :: Mb, by go_num, by rw [q1]; simp, by simp at q2; omega, fun z hz => ?_, HO.out, HK.out⟩
                    rcases List.mem_cons.1 hz with rfl | hz
                    · exact hxy
                    · exact q3 z hz
                  case measure => have := HM.out.2.2.2.2; simp [intOf]; omega
              | false =>
                have hxy : ¬ x.1 < y.1 := of_decide_eq_false HB.out
                have HE : Hid (Srd (M' ++ [y] ++ x :: Mb) ∧ Sim (M ++ [x]) (M' ++ [y] ++ x :: Mb) ∧ L = P ++ ((M' ++ [y] ++ x :: Mb) ++ (R' ++ S)) ∧ a + (M' ++ [y] ++ x :: Mb).length = k + 1) := by
                  obtain ⟨q1, q2, q3, q4, q5⟩ := HM.out
                  obtain ⟨-, -, s3, s4, -⟩ := HX.out
                  rw [q1] at s3 s4 ⊢
                  have := move_left x (M' ++ [y]) Mb s3 (fun z hz => by have := s3.left.last z hz; omega) q3
                  exact ⟨this.1, this.2, by rw [← q4]; simp, by simp at s4 ⊢; omega⟩
                have HO : Hid _ := hO1
                have HK : Hid _ := hK1
                clear hO1 hK1
                go_wp2
                go_roundw
                case rel =>
                  obtain ⟨q1, q2, q3, q4⟩ := HE.out
                  obtain ⟨s1, s2, s3, s4, s5, s6, s7⟩ := HX.out
                  exact ⟨k + 1, _, _, R', by go_num, s1, q1, s2.trans q2, q4, by omega, s7, by rw [← q3]; exact HO.out, HK.out⟩
                case measure => have := HX.out.2.2.2.2.2.1; simp [intOf]; omega
          · have hga : ¬ (i : Int) > (a : Int) := by omega
            obtain rfl : Ma = [] := by cases Ma with | nil => rfl | cons _ _ => simp at hi9; omega
            have HE : Hid (Srd (x :: Mb) ∧ Sim (M ++ [x]) (x :: Mb) ∧ a + (x :: Mb).length = k + 1) := by
              obtain ⟨-, -, s3, s4, -⟩ := HX.out
              rw [hM] at s3 s4 ⊢
              have := move_left x [] Mb s3 (by simp) hMb
              exact ⟨this.1, this.2, by simp at s4 ⊢; omega⟩
            have HO : Hid (OwnK wrE wr B (.slice (some ⟨g, 0, none⟩) n c) (P ++ ((x :: Mb) ++ (R' ++ S)))) := by show OwnK _ _ _ _ _; simpa using hO
            clear hM hML hi9 hMb hgt hO
            go_upto_region 4 with fail
            refine wp_relies [Fx (.int .i64 ((i : Nat) : Int)), Fx (.int .i64 ((a : Nat) : Int)), Fx (.bool false), Fx (.bool false), Fx (undef), Fx (undef), Fx (undef), Fx (undef), Fx (undef), Fx (undef), Fx (undef), Fx (undef), Fx (undef), Fx (undef), Fx (undef), Fx (undef), Fx (.bool false)] (by kernel_rfl) (by kernel_rfl) ?_ ?_ ?_
            · repeat' (first | exact all_nil | apply all_cons)
              all_goals intro v y y' hv hb
              all_goals first | exact Fx_mono _ _ _ _ hv hb
            · refine ⟨?_, ?_, ?_, ?_, ?_, ?_, ?_, ?_, ?_, ?_, ?_, ?_, ?_, ?_, ?_, ?_, ?_, trivial⟩
              all_goals
                intro ρ y9 hp ρc ρg ρf ho hd
                have o1 : ρ (.tmp 1) = .int .i64 ((a : Nat) : Int) := ho 1 rfl
                have o9 : ρ (.tmp 9) = .int .i64 ((i : Nat) : Int) := ho 9 rfl
                clear ho
                simp only [depsR, depR, slotR, Fx, List.getElem?_cons_succ, List.getElem?_cons_zero, Region.binds, forall_const] at hd
                simp only [guardR]
                go_split_ands
              · go_simp
              · go_simp
              · go_simp
              · go_simp
              · refine ⟨fun hy => ?_, fun _ => rfl⟩
                exfalso; simp [yieldR, slotR, undef, *] at hy
              · refine ⟨fun hy => ?_, fun _ => rfl⟩
                exfalso; simp [yieldR, slotR, undef, *] at hy
              · refine ⟨fun hy => ?_, fun _ => rfl⟩
                exfalso; simp [yieldR, slotR, undef, *] at hy
              · refine ⟨fun hy => ?_, fun _ => rfl⟩
                exfalso; simp [yieldR, slotR, undef, *] at hy
              · refine ⟨fun hy => ?_, fun _ => rfl⟩
                exfalso; simp [yieldR, slotR, undef, *] at hy
              · refine ⟨fun hy => ?_, fun _ => rfl⟩
                exfalso; simp [yieldR, slotR, undef, *] at hy
              · refine ⟨fun hy => ?_, fun _ => rfl⟩
                exfalso; simp [yieldR, slotR, undef, *] at hy
              · refine ⟨fun hy => ?_, fun _ => rfl⟩
                exfalso; simp [yieldR, slotR, undef, *] at hy
              · refine ⟨fun hy => ?_, fun _ => rfl⟩
                exfalso; simp [yieldR, slotR, undef, *] at hy
              · refine ⟨fun hy => ?_, fun _ => rfl⟩
                exfalso; simp [yieldR, slotR, undef, *] at hy
              · refine ⟨fun hy => ?_, fun _ => rfl⟩
                exfalso; simp [yieldR, slotR, undef, *] at hy
              · refine ⟨fun hy => ?_, fun _ => rfl⟩
                exfalso; simp [yieldR, slotR, undef, *] at hy
              · go_simp
            · intro us x1 hp1 hw
              simp only [owed, Fx] at hw
              obtain ⟨e0, e1, e2, e3, e4, e5, e6, e7, e8, e9, e10, e11, e12, e13, e14, e15, e16, -⟩ := hw
              simp only [List.length_cons, List.length_nil, List.take_succ_cons, List.take_nil, List.drop_succ_cons, List.drop_nil, asg, List.cons_append, List.nil_append, e0, e1, e2, e3, e4, e5, e6, e7, e8, e9, e10, e11, e12, e13, e14, e15, e16]
              clear e0 e1 e2 e3 e4 e5 e6 e7 e8 e9 e10 e11 e12 e13 e14 e15 e16
              have HO1 : Hid _ := HO.out.keep hp1
              have HK1 : Hid (Keep [g] w x1) := hK.trans (Keep.of_below hp1)
              clear HO hK hp1
              go_wp2
              go_roundw
              case rel =>
                obtain ⟨q1, q2, q3⟩ := HE.out
                obtain ⟨s1, s2, s3, s4, s5, s6, s7⟩ := HX.out
                exact ⟨k + 1, _, _, R', by go_num, s1, q1, s2.trans q2, q3, by omega, s7, HO1.out, HK1.out⟩
              case measure => have := HX.out.2.2.2.2.2.1; simp [intOf]; omega
      · have hkb : ¬ (k : Int) < (b : Int) := by omega
        obtain rfl : R = [] := by cases R with | nil => rfl | cons _ _ => simp at hlen; omega
        have HO : Hid _ := hO
        have HE : Hid (Srd M ∧ Sim (x0 :: R0) M) := ⟨hM, by rw [hA]; simpa using hS⟩
        clear hO hA hM hS hk hak hlen hlt hkR
        go_wp2
        go_end0
        exact ⟨⟨_, rfl⟩, M, HE.out.1, HE.out.2, HO.out, hK⟩
end Go.Proofs.Ytmbkkdojjfdliaa
