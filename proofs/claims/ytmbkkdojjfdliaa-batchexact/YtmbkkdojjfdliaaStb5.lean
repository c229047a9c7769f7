
import Derived.Test.YtmbkkdojjfdliaaStb4
namespace Go.Proofs.Ytmbkkdojjfdliaa
open Go.RowKit

/-! symMerge: a part of one -/
theorem gw_le {A : List Wr} (h : Srd A) {t u : Nat} (htu : t ≤ u) (hu : u < A.length) : (gw A t).1 ≤ (gw A u).1 := by
  rcases Nat.lt_or_ge t u with h1 | h1
  · have := (List.pairwise_iff_getElem.1 h) t u (by omega) hu h1
    unfold gw
    rw [List.getElem?_eq_getElem hu, List.getElem?_eq_getElem (by omega)]
    exact this
  · obtain rfl : t = u := by omega
    exact Int.le_refl _
theorem take_le {A : List Wr} (h : Srd A) (t : Nat) (ht : t < A.length) : ∀ y ∈ A.take (t + 1), y.1 ≤ (gw A t).1 := fun y hy => by
  obtain ⟨j, hj⟩ := List.mem_iff_getElem?.1 hy
  have hjt : j < t + 1 := by
    rcases Nat.lt_or_ge j (t + 1) with h1 | h1
    · exact h1
    · rw [List.getElem?_take_eq_none h1] at hj; cases hj
  rw [List.getElem?_take_of_lt hjt] at hj
  have e : y = gw A j := by unfold gw; rw [hj]; rfl
  rw [e]; exact gw_le h (by omega) ht
theorem drop_ge {A : List Wr} (h : Srd A) (t : Nat) : ∀ y ∈ A.drop t, (gw A t).1 ≤ y.1 := fun y hy => by
  obtain ⟨j, hj⟩ := List.mem_iff_getElem?.1 hy
  rw [List.getElem?_drop] at hj
  have e : y = gw A (t + j) := by unfold gw; rw [hj]; rfl
  rw [e]; exact gw_le h (by omega) (List.getElem?_eq_some_iff.1 hj).1
theorem gw_left (A C : List Wr) (i : Nat) (h : i < A.length) : gw (A ++ C) i = gw A i := by unfold gw; rw [List.getElem?_append_left h]
theorem gw_right (A C : List Wr) (i a : Nat) (h : A.length = a) (hi : a ≤ i) : gw (A ++ C) i = gw C (i - a) := by unfold gw; rw [List.getElem?_append_right (by omega), h]
def mvK (P Y S : List Wr) (x : Wr) (t : Nat) : List Wr := P ++ (Y.take t ++ (x :: (Y.drop t ++ S)))
theorem mvK_step (P Y S : List Wr) (x : Wr) (t i j : Nat) (ht : t < Y.length) (hi : P.length + t = i) (hj : i + 1 = j) : swW (mvK P Y S x t) i j = mvK P Y S x (t + 1) ∧ swW (mvK P Y S x (t + 1)) j i = mvK P Y S x t := by
  obtain ⟨y, hy⟩ : ∃ y, Y[t]? = some y := ⟨_, List.getElem?_eq_getElem ht⟩
  have e2 : Y.drop t = y :: Y.drop (t + 1) := by
    rw [List.getElem?_eq_getElem ht] at hy
    rw [List.drop_eq_getElem_cons ht, Option.some.inj hy]
  have e4 : Y.take (t + 1) = Y.take t ++ [y] := by rw [List.take_add_one, hy]; rfl
  have h := swW_mid (P ++ Y.take t) [] (Y.drop (t + 1) ++ S) x y i j (by simp; omega) (by simp; omega)
  have k := swW_mid (P ++ Y.take t) [] (Y.drop (t + 1) ++ S) y x i j (by simp; omega) (by simp; omega)
  have a1 : mvK P Y S x t = P ++ Y.take t ++ x :: ([] ++ y :: (Y.drop (t + 1) ++ S)) := by unfold mvK; rw [e2]; simp
  have a2 : mvK P Y S x (t + 1) = P ++ Y.take t ++ y :: ([] ++ x :: (Y.drop (t + 1) ++ S)) := by unfold mvK; rw [e4]; simp
  exact ⟨by rw [a1, a2, h], by rw [swW_comm, a1, a2, k]⟩
theorem mvK_eq (P Y S : List Wr) (x : Wr) (t : Nat) : mvK P Y S x t = P ++ ((Y.take t ++ x :: Y.drop t) ++ S) := by simp [mvK]
/-- The middle of two numbers, as the library reckons it. -/
theorem half_u (i j h : Nat) (he : (i + j) / 2 = h) (hb : i + j ≤ 1125899906842624) : IntKind.i64.wrap ((i : Int) + (j : Int)) = ((i + j : Nat) : Int) ∧ IntKind.u64.wrap ((i + j : Nat) : Int) = ((i + j : Nat) : Int) ∧ IntKind.i64.wrap (h : Int) = (h : Int) := by
  refine ⟨by rw [IntKind.wrap_i64]; omega, ?_, by rw [IntKind.wrap_i64]; omega⟩
  rw [IntKind.wrap_u64]; omega
set_option linter.unusedSimpArgs false in
set_option maxHeartbeats 8000000 in
set_option maxRecDepth 100000 in
theorem symL26 (w : World) (B g n c a m b : Nat) (P Y S : List Wr) (x : Wr) (h : OwnK wrE w B (.slice (some ⟨g, 0, none⟩) n c) (P ++ (x :: (Y ++ S)))) (ha : P.length = a) (hm : a + 1 = m) (hb : m + Y.length = b) (hY : Srd Y) (hn : n ≤ 140737488355328) :
    Calls Try.prog 31 #[.slice (some ⟨g, 0, none⟩) n c, .int .i64 (a : Int), .int .i64 (m : Int), .int .i64 (b : Int), cmV] w fun e w' => (∃ u, e = .returned u) ∧ ∃ M, Srd M ∧ Sim (x :: Y) M ∧ OwnK wrE w' B (.slice (some ⟨g, 0, none⟩) n c) (P ++ (M ++ S)) ∧ Keep [g] w w' := by
  have hlen := own_len h
  simp only [List.length_append, List.length_cons] at hlen
  have hbn : b ≤ n := by omega
  have w1 := wSub m a 1 (by omega) (by omega)
  have HL : Hid (P.length = a ∧ a + 1 = m ∧ m + Y.length = b) := ⟨ha, hm, hb⟩
  have h0 : OwnK wrE w B (.slice (some ⟨g, 0, none⟩) n c) (mvK P Y S x 0) := by simpa [mvK] using h
  have hmb : m ≤ b := by omega
  have ham : a < n ∧ a < m := by omega
  clear h hlen ha hm hb
  go_enter Try.func31, Try.ntmps31
  go_wp2_with fail
  clear w1
  go_loopw [10, 11] (fun iv jv wr => ∃ i j : Nat, iv = .int .i64 (i : Int) ∧ jv = .int .i64 (j : Int) ∧ m ≤ i ∧ i ≤ j ∧ j ≤ b ∧ (i = m ∨ (gw Y (i - 1 - m)).1 < x.1) ∧ (j = b ∨ ¬ (gw Y (j - m)).1 < x.1) ∧ OwnK wrE wr B (.slice (some ⟨g, 0, none⟩) n c) (mvK P Y S x 0) ∧ Keep [g] w wr) (fun iv jv _ => (intOf jv).toNat - (intOf iv).toNat)
  case atStart => exact ⟨m, b, rfl, rfl, by omega, by omega, by omega, .inl rfl, .inl rfl, h0, Keep.refl _ _⟩
  case round =>
    clear h0
    obtain ⟨i, j, rfl, rfl, hmi, hij, hjb, hI, hJ, hO, hK⟩ := hrel
    by_cases hlt : i < j
    · have hc : (i : Int) < (j : Int) := by omega
      obtain ⟨q, hq9⟩ : ∃ q, (i + j) / 2 = q := ⟨_, rfl⟩
      obtain ⟨u1, u2, u3⟩ := half_u i j q hq9 (by omega)
      have hq2 : ((i : Int) + (j : Int)) / 2 = (q : Int) := by omega
      have HQ : Hid (i ≤ q ∧ q < j ∧ m ≤ i ∧ j ≤ b) := ⟨by omega, by omega, hmi, hjb⟩
      have hq : q < n := by omega
      have ha : a < n := ham.1
      have hq1 : (q : Int) < (n : Int) := by omega
      have hq0 : (0 : Int) ≤ (q : Int) := by omega
      have ha1 : (a : Int) < (n : Int) := by omega
      have ha0 : (0 : Int) ≤ (a : Int) := by omega
      have G1 : gw (mvK P Y S x 0) a = x := by
        unfold mvK
        exact gw_mid P _ x a HL.out.1
      obtain ⟨y, hy⟩ : ∃ y, gw Y (q - m) = y := ⟨_, rfl⟩
      have G2 : gw (mvK P Y S x 0) q = y := by
        obtain ⟨q1, q2, q3⟩ := HL.out
        have e : mvK P Y S x 0 = (P ++ [x]) ++ (Y ++ S) := by simp [mvK]
        rw [e, gw_right (P ++ [x]) (Y ++ S) q m (by simp; omega) (by omega), gw_left Y S _ (by omega), hy]
      have HY : Hid (gw Y (q - m) = y) := hy
      have HI : Hid ((i = m ∨ (gw Y (i - 1 - m)).1 < x.1) ∧ (j = b ∨ ¬ (gw Y (j - m)).1 < x.1)) := ⟨hI, hJ⟩
      have wq := wAdd1 q (q + 1) rfl (by omega)
      clear hq9 hI hJ hmi hij hjb hlt hy
      obtain ⟨bb, hbb⟩ : ∃ t, decide (y.1 < x.1) = t := ⟨_, rfl⟩
      have hcm : decide (cmI y.1 x.1 < 0) = bb := by rw [cmI_neg, hbb]
      have HB : Hid (decide (y.1 < x.1) = bb) := hbb
      clear hbb
      go_upto_region 5 with fail
      clear u1 u2 u3 hq2
      refine wp_relies [Fx (.func (.func 23) #[] #[]), Fx (.slice (some ⟨g, 0, none⟩) n c), Fx (.int .i64 ((q : Nat) : Int)), Fx (.pointer (some ⟨g, q * 65, none⟩)), Fx (.agg (wrA y)), Fx (.slice (some ⟨g, 0, none⟩) n c), Fx (.int .i64 ((a : Nat) : Int)), Fx (.pointer (some ⟨g, a * 65, none⟩)), Fx (.agg (wrA x)), Fx (.int .i64 (cmI y.1 x.1)), Fx (.bool bb)] (by kernel_rfl) (by kernel_rfl) ?_ ?_ ?_
      · repeat' (first | exact all_nil | apply all_cons)
        all_goals intro v y y' hv hb
        all_goals first | exact Fx_mono _ _ _ _ hv hb
      · refine ⟨?_, ?_, ?_, ?_, ?_, ?_, ?_, ?_, ?_, ?_, ?_, trivial⟩
        all_goals
          intro ρ y9 hp ρc ρg ρf ho hd
          have o0 : ρ (.tmp 0) = .slice (some ⟨g, 0, none⟩) n c := ho 0 rfl
          have o1 : ρ (.tmp 1) = .int .i64 ((a : Nat) : Int) := ho 1 rfl
          have o4 : ρ (.tmp 4) = .func (.func 23) #[] #[] := ho 4 rfl
          have o12 : ρ (.tmp 12) = .int .i64 ((q : Nat) : Int) := ho 12 rfl
          clear ho
          simp only [depsR, depR, slotR, Fx, List.getElem?_cons_succ, List.getElem?_cons_zero, Region.binds, forall_const] at hd
          simp only [guardR]
          go_split_ands
        · go_simp
        · go_simp
        · go_simp
        · go_simp
        · have hh := own_rg (hO.keep hp) q hq
          go_simp
        · go_simp
        · go_simp
        · go_simp
        · have hh := own_rg (hO.keep hp) a ha
          go_simp
        · go_simp
          refine (cmp26 _ _ _).mono ?_
          rintro e w' ⟨rfl, hw⟩
          exact ⟨_, rfl, rfl, hw⟩
        · go_simp
      · intro us xa hp1 hw
        simp only [owed, Fx] at hw
        obtain ⟨e0, e1, e2, e3, e4, e5, e6, e7, e8, e9, e10, -⟩ := hw
        simp only [List.length_cons, List.length_nil, List.take_succ_cons, List.take_nil, List.drop_succ_cons, List.drop_nil, asg, List.cons_append, List.nil_append, e0, e1, e2, e3, e4, e5, e6, e7, e8, e9, e10]
        clear e0 e1 e2 e3 e4 e5 e6 e7 e8 e9 e10
        have HO1 : Hid _ := hO.keep hp1
        have HK1 : Hid (Keep [g] w xa) := hK.trans (Keep.of_below hp1)
        clear hO hK hp1 G1 G2
        cases bb with
        | true =>
          go_wp2
          go_roundw
          case rel =>
            obtain ⟨q1, q2, q3, q4⟩ := HQ.out
            refine ⟨q + 1, j, by go_num, rfl, by omega, by omega, q4, .inr ?_, HI.out.2, HO1.out, HK1.out⟩
            rw [Nat.add_sub_cancel, HY.out]
            exact of_decide_eq_true HB.out
          case measure => have := HQ.out; simp [intOf]; omega
        | false =>
          go_wp2
          go_roundw
          case rel =>
            obtain ⟨q1, q2, q3, q4⟩ := HQ.out
            refine ⟨i, q, rfl, rfl, q3, q1, by omega, HI.out.1, .inr ?_, HO1.out, HK1.out⟩
            rw [HY.out]
            exact of_decide_eq_false HB.out
          case measure => have := HQ.out; simp [intOf]; omega
    · have hc : ¬ (i : Int) < (j : Int) := by omega
      obtain rfl : i = j := by omega
      have HE : Hid (Srd (Y.take (i - m) ++ x :: Y.drop (i - m)) ∧ Sim (x :: Y) (Y.take (i - m) ++ x :: Y.drop (i - m))) := by
        have q3 := HL.out.2.2
        have := move_right x (Y.take (i - m)) (Y.drop (i - m)) (by rw [List.take_append_drop]; exact hY) (fun y hy => by
          rcases hI with h1 | h1
          · subst h1; simp at hy
          · rcases Nat.lt_or_ge m i with h2 | h2
            · have := take_le hY (i - 1 - m) (by omega) y (by rw [show i - 1 - m + 1 = i - m by omega]; exact hy)
              omega
            · rw [show i - m = 0 by omega] at hy; simp at hy) (fun y hy => by
          rcases hJ with h1 | h1
          · subst h1; rw [List.drop_eq_nil_of_le (by omega)] at hy; simp at hy
          · have := drop_ge hY (i - m) y hy; omega)
        rw [List.take_append_drop] at this
        exact this
      obtain ⟨r, hr⟩ : ∃ r, r + 1 = i := ⟨i - 1, by omega⟩
      have wr1 := wSub1 i r hr (by omega)
      have har : a ≤ r ∧ r < n ∧ r < b ∧ r - a = i - m := by have := HL.out; omega
      rw [← har.2.2.2] at HE
      clear hI hJ hlt hmi hij hjb hr
      go_wp2_with fail
      go_loopw [13] (fun uv wr => ∃ t u : Nat, uv = .int .i64 (u : Int) ∧ a + t = u ∧ u ≤ r ∧ OwnK wrE wr B (.slice (some ⟨g, 0, none⟩) n c) (mvK P Y S x t) ∧ Keep [g] w wr) (fun uv _ => n - (intOf uv).toNat)
      case atStart => exact ⟨0, a, rfl, rfl, har.1, hO, hK⟩
      case round =>
        clear hO hK
        obtain ⟨t, u, rfl, htu, hur, hO, hK⟩ := hrel
        by_cases hlt : u < r
        · have hc2 : (u : Int) < (r : Int) := by omega
          obtain ⟨v, hv9⟩ : ∃ v, u + 1 = v := ⟨_, rfl⟩
          have hu : u < n := by omega
          have hv : v < n := by omega
          have hu1 : (u : Int) < (n : Int) := by omega
          have hv1 : (v : Int) < (n : Int) := by omega
          have hu0 : (0 : Int) ≤ (u : Int) := by omega
          have hv0 : (0 : Int) ≤ (v : Int) := by omega
          have wv := wAdd1 u v hv9 (by omega)
          have HS : Hid (swW (mvK P Y S x t) u v = mvK P Y S x (t + 1)) := by
            obtain ⟨q1, q2, q3⟩ := HL.out
            exact (mvK_step P Y S x t u v (by omega) (by omega) hv9).1
          have HU : Hid (a + t = u ∧ u < r ∧ u + 1 = v) := ⟨htu, hlt, hv9⟩
          obtain ⟨L, hL⟩ : ∃ L, mvK P Y S x t = L := ⟨_, rfl⟩
          rw [hL] at hO HS
          clear hL htu hur hlt hv9 hc
          go_upto_region 11 with fail
          refine wp_reliesI (kokW (G := [g])) (SwJ B g n c L u v) [15] [none, none, none, none, none, none, none, none, none, some (0, [], []), none, none, none, some (0, [], []), none, some (0, [], []), none] [Fx (.slice (some ⟨g, 0, none⟩) n c), Fx (.int .i64 ((u : Nat) : Int)), Fx (.slice (some ⟨g, 0, none⟩) n c), Fx (.int .i64 ((u : Nat) : Int)), Fx (.int .i64 ((v : Nat) : Int)), Fx (.slice (some ⟨g, 0, none⟩) n c), Fx (.int .i64 ((u : Nat) : Int)), Fx (.int .i64 ((v : Nat) : Int)), Fx (.pointer (some ⟨g, v * 65, none⟩)), Fx (.agg (wrA (gw L v))), Fx (.slice (some ⟨g, 0, none⟩) n c), Fx (.int .i64 ((u : Nat) : Int)), Fx (.pointer (some ⟨g, u * 65, none⟩)), Fx (.agg (wrA (gw L u))), Fx (.pointer (some ⟨g, u * 65, none⟩)), fun _ _ => True, Fx (.pointer (some ⟨g, v * 65, none⟩))] rfl (by decide) rfl (by kernel_rfl) (by kernel_rfl) (by kernel_rfl) hO (SwJ_later B g n c L u v) ?_ ?_ ?_ ?_
          · repeat' (first | exact all_nil | apply all_cons)
            all_goals intro v y y' hv hb
            all_goals first | exact Fx_mono _ _ _ _ hv hb | exact trivial
          · intro i9 f9 hf9 hl9 v y y' hv hb
            rcases i9 with _ | i9
            · first | (cases hl9; done) | (cases hf9; first | exact hv | exact trivial)
            rcases i9 with _ | i9
            · first | (cases hl9; done) | (cases hf9; first | exact hv | exact trivial)
            rcases i9 with _ | i9
            · first | (cases hl9; done) | (cases hf9; first | exact hv | exact trivial)
            rcases i9 with _ | i9
            · first | (cases hl9; done) | (cases hf9; first | exact hv | exact trivial)
            rcases i9 with _ | i9
            · first | (cases hl9; done) | (cases hf9; first | exact hv | exact trivial)
            rcases i9 with _ | i9
            · first | (cases hl9; done) | (cases hf9; first | exact hv | exact trivial)
            rcases i9 with _ | i9
            · first | (cases hl9; done) | (cases hf9; first | exact hv | exact trivial)
            rcases i9 with _ | i9
            · first | (cases hl9; done) | (cases hf9; first | exact hv | exact trivial)
            rcases i9 with _ | i9
            · first | (cases hl9; done) | (cases hf9; first | exact hv | exact trivial)
            rcases i9 with _ | i9
            · first | (cases hl9; done) | (cases hf9; first | exact hv | exact trivial)
            rcases i9 with _ | i9
            · first | (cases hl9; done) | (cases hf9; first | exact hv | exact trivial)
            rcases i9 with _ | i9
            · first | (cases hl9; done) | (cases hf9; first | exact hv | exact trivial)
            rcases i9 with _ | i9
            · first | (cases hl9; done) | (cases hf9; first | exact hv | exact trivial)
            rcases i9 with _ | i9
            · first | (cases hl9; done) | (cases hf9; first | exact hv | exact trivial)
            rcases i9 with _ | i9
            · first | (cases hl9; done) | (cases hf9; first | exact hv | exact trivial)
            rcases i9 with _ | i9
            · first | (cases hl9; done) | (cases hf9; first | exact hv | exact trivial)
            rcases i9 with _ | i9
            · first | (cases hl9; done) | (cases hf9; first | exact hv | exact trivial)
            · simp at hf9
          · refine ⟨?_, ?_, ?_, ?_, ?_, ?_, ?_, ?_, ?_, ?_, ?_, ?_, ?_, ?_, ?_, ?_, ?_, trivial⟩
            all_goals
              intro ρ x hk hat ρc ρg ρf ho hd
              have o0 : ρ (.tmp 0) = .slice (some ⟨g, 0, none⟩) n c := ho 0 rfl
              have o13 : ρ (.tmp 13) = .int .i64 ((u : Nat) : Int) := ho 13 rfl
              clear ho
              simp only [depsR, depR, slotR, Fx, List.getElem?_cons_succ, List.getElem?_cons_zero, Region.binds, forall_const] at hd
              simp only [guardR, List.contains_cons, List.contains_nil, List.elem_cons, List.elem_nil, Nat.reduceBEq, Bool.or_false, Bool.false_or, Bool.or_true, Bool.true_or, cond_true, cond_false]
              go_split_ands
            · go_simp
            · go_simp
            · go_simp
            · go_simp
            · have hw9 := wv
              go_simp
            · go_simp
            · go_simp
            · have hw9 := wv
              go_simp
            · go_simp
            · have hh := own_rg hat v hv
              go_simp
            · go_simp
            · go_simp
            · go_simp
            · have hh := own_rg hat u hu
              go_simp
            · go_simp
            · have hr := own_st hat u hu (gw L v)
              go_simp
              exact ⟨⟨trivial, own_put hat u hu _⟩, keep_st x g (u * 65) _⟩
            · go_simp
          · intro vs x1 hk hw hI
            simp only [owed, Fx] at hw
            obtain ⟨e0, e1, e2, e3, e4, e5, e6, e7, e8, e9, e10, e11, e12, e13, e14, e15, e16, -⟩ := hw
            simp only [List.length_cons, List.length_nil, List.take_succ_cons, List.take_zero, List.drop_succ_cons, List.drop_zero, asg, List.cons_append, List.nil_append, e0, e1, e2, e3, e4, e5, e6, e7, e8, e9, e10, e11, e12, e13, e14, e16]
            clear e0 e1 e2 e3 e4 e5 e6 e7 e8 e9 e10 e11 e12 e13 e14 e16 e15
            have hI' : OwnK wrE x1 B (.slice (some ⟨g, 0, none⟩) n c) (L.set u (gw L v)) := hI
            have hr := own_st hI' v hv (gw L u)
            have hfin : OwnK wrE _ B (.slice (some ⟨g, 0, none⟩) n c) (swW L u v) := own_put hI' v hv (gw L u)
            have hK2 : Keep [g] wr _ := hk.trans (keep_st x1 g (v * 65) (wrE.enc (gw L u)))
            rw [HS.out] at hfin
            have HO : Hid _ := hfin
            have HK : Hid (Keep [g] w _) := hK.trans hK2
            clear hfin hK2 hI' hI hk hO hK
            go_wp2
            go_roundw
            case rel =>
              obtain ⟨q1, q2, q3⟩ := HU.out
              exact ⟨t + 1, v, by go_num, by omega, by omega, HO.out, HK.out⟩
            case measure => have := HU.out; simp [intOf]; omega
        · have hc2 : ¬ (u : Int) < (r : Int) := by omega
          obtain rfl : u = r := by omega
          obtain rfl : t = u - a := by omega
          have HO : Hid _ := hO
          clear hO htu hur hlt
          go_wp2
          refine bodyPost_ret (results_none rfl _ _ _) rfl ?_
          exact ⟨⟨_, rfl⟩, _, HE.out.1, HE.out.2, by rw [← mvK_eq]; exact HO.out, hK⟩
end Go.Proofs.Ytmbkkdojjfdliaa
