
import Derived.Test.YthkjfgncbmpllaaDsM
import Derived.Test.YthkjfgncbmpllaaRelt
import Derived.Test.YthkjfgncbmpllaaDigK2
namespace Go.Proofs.Ythkjfgncbmpllaa
open Go.RowKit Go.Sort

/-! The law's helper apart -/
theorem own_below {w w' : World} {base : Nat} {v : Value} {ds : List Dg} (h : OwnDs w base v ds) (hg : w.grownBy w' v.ownBlock) (hb : base ≤ w.heap.size) : Below base w w' :=
  ⟨hg.os, hg.tape, hg.output, hg.size, fun k hk => hg.block k (by omega) (fun q => by have := World.ownsRow.lt h k q.symm; omega)⟩
theorem lenDs {w : World} {B : Nat} {v : Value} {ds : List Dg} (h : OwnDs w B v ds) : ∃ x c, v = .slice x ds.length c := h.isDs.len
theorem addrDs {w : World} {B n c : Nat} {x : Option Addr} {ds : List Dg} (h : OwnDs w B (.slice x n c) ds) (h0 : 0 < ds.length) : ∃ g, x = some ⟨g, 0, none⟩ ∧ g < w.heap.size := by
  obtain ⟨g, cap, he, hbg, hlt⟩ := World.ownsRow.form h h0
  simp only [Value.slice.injEq] at he
  exact ⟨g, he.1, hlt⟩
set_option linter.unusedSimpArgs false in
set_option maxRecDepth 100000 in
set_option maxHeartbeats 1600000 in
theorem apart_any (vs : List Value) (d : Nat → List Dg) (base gl N : Nat) (w : World) (h : Five w base gl vs d) (hN : vs.length = N) (hN0 : 0 < N) (hn : N ≤ 100) (hl : ∀ k, k < N → ((d k).length + 2) * 32 ≤ 140737488355328) (hb : base ≤ w.heap.size) :
    Calls Try.prog 19 #[.slice (some ⟨gl, 0, none⟩) N N] w fun e w' => e = .returned (.bool true) ∧ Below base w w' := by
  go_enter Try.func19, Try.ntmps19
  go_wp2_with fail
  go_loopw [14] (fun i wr => ∃ q : Nat, q ≤ N ∧ i = .int .i64 q ∧ Five wr base gl vs (stg d q 0) ∧ Below base w wr) (fun i _ => N - (intOf i).toNat)
  case atStart => exact ⟨0, by omega, rfl, by rw [stg_zero]; exact h, Below.refl _ _⟩
  case round =>
    obtain ⟨q, hq, rfl, hF, hB⟩ := hrel
    by_cases hlt : q < N
    · obtain ⟨v, hv⟩ : ∃ v, vs[q]? = some v := ⟨vs[q]'(by omega), List.getElem?_eq_getElem (by omega)⟩
      obtain ⟨x, c, rfl⟩ := lenDs (hF.own q v hv)
      rw [stg_len d q 0 (by omega)] at hv
      obtain ⟨n, hnq⟩ : ∃ n, (d q).length = n := ⟨_, rfl⟩
      rw [hnq] at hv
      have hln := hl q hlt
      rw [hnq] at hln
      have hc := hF.row q _ hv
      have hq0 : (0 : Int) ≤ (q : Int) := by omega
      have hqN : (q : Int) < (N : Int) := by omega
      go_wp2_with fail
      clear hc
      go_loopw [21] (fun j wr => ∃ p : Nat, p ≤ n ∧ j = .int .i64 p ∧ Five wr base gl vs (stg d q p) ∧ Below base w wr) (fun j _ => n - (intOf j).toNat)
      case atStart => exact ⟨0, by omega, rfl, hF, hB⟩
      case round =>
        clear hF hB
        obtain ⟨p, hp, rfl, hF, hB⟩ := hrel
        by_cases hlp : p < n
        · have hO := hF.own q _ hv
          have hL := stg_len d q p (by omega)
          obtain ⟨g, rfl, hgl⟩ := addrDs hO (by omega)
          have hp0 : (0 : Int) ≤ (p : Int) := by omega
          have hpn : (p : Int) < (n : Int) := by omega
          go_wp2_with fail
          refine (mark_any q p _).mono ?_
          rintro e w1 ⟨rfl, hw1⟩
          have hF1 := hF.later hw1
          have hO1 := hF1.own q _ hv
          have hst := hO1.store p (markD q p) (by omega)
          have hB1 := hB.trans (hw1.mono (Nat.le_trans hb hB.size))
          have hG1 := grown_setCells w1 g (p * 32) (dg_secA (markD q p)).toList
          have HB : Hid _ := hB1.trans (own_below hO1 hG1 (Nat.le_trans hb hB1.size))
          have hF2 := hF1.step hv hG1 (hO1.put p (markD q p) (by omega))
          rw [stg_put d q p (by omega)] at hF2
          have HF : Hid _ := hF2
          clear hF hB hF1 hO hO1 hB1 hG1 hF2 hw1 hL
          generalize markD q p = D at *
          go_wp2
          go_roundw
          case rel => exact ⟨p + 1, by omega, by go_num, HF.out, HB.out⟩
          case measure => simp [intOf]; omega
        · obtain rfl : p = n := by omega
          have hF2 : Five wr base gl vs (stg d (q + 1) 0) := by rw [← stg_next, hnq]; exact hF
          have HF : Hid _ := hF2
          have HB : Hid _ := hB
          clear hF hB hF2
          go_wp2
          go_roundw
          case rel => exact ⟨q + 1, by omega, by go_num, HF.out, HB.out⟩
          case measure => simp [intOf]; omega
    · obtain rfl : q = N := by omega
      obtain ⟨dn, hdn⟩ : ∃ f : Nat → Nat, ∀ k, (d k).length = f k := ⟨_, fun _ => rfl⟩
      have hF5 : Five wr base gl vs (fun k => mkL k (dn k)) := hF.eq (fun k hk => by rw [stg_end d q k (by omega), hdn])
      have hl2 : ∀ k, k < q → (dn k + 2) * 32 ≤ 140737488355328 := fun k hk => by rw [← hdn]; exact hl k hk
      clear hF h hq hdn hl
      go_wp2_with fail
      go_loopw [6, 34] (fun vm i wr => ∃ (p : Nat) (us : List Value), p ≤ q ∧ us.length = p ∧ i = .int .i64 p ∧ Six wr base gl vs dn us vm ∧ Below base w wr) (fun _ i _ => q - (intOf i).toNat)
      case atStart => exact ⟨0, [], by omega, rfl, rfl, Six.start hF5, hB⟩
      case round =>
        clear hF5 hB
        obtain ⟨p, us, hp, hus, rfl, hS, hB⟩ := hrel
        by_cases hlp : p < q
        · obtain ⟨v, hv⟩ : ∃ v, vs[p]? = some v := ⟨vs[p]'(by omega), List.getElem?_eq_getElem (by omega)⟩
          obtain ⟨x, c, rfl⟩ := lenDs (hS.five.own p v hv)
          have hln := hl2 p hlp
          rw [mkL_len] at hv
          have hc := hS.five.row p _ hv
          have hq0 : (0 : Int) ≤ (p : Int) := by omega
          have hqN : (p : Int) < (q : Int) := by omega
          obtain ⟨m1, hm1⟩ : ∃ m, dn p + 1 = m := ⟨_, rfl⟩
          have hn1 : (dn p : Int) + 1 = (m1 : Int) := by omega
          have hwn : IntKind.i64.wrap (m1 : Int) = (m1 : Int) := by rw [IntKind.wrap_i64]; omega
          go_wp2_with fail
          refine (mark_any p (dn p) _).mono ?_
          rintro e w1 ⟨rfl, hw1⟩
          go_wp2_with fail
          refine (mark_any p m1 _).mono ?_
          rintro e w2 ⟨rfl, hw2⟩
          have hS2 := (hS.later hw1).later hw2
          have hB2 := hB.trans (hw1.mono (Nat.le_trans hb hB.size))
          replace hB2 := hB2.trans (hw2.mono (Nat.le_trans hb hB2.size))
          have hS3 := hS2.later (below_alloc w2 (.cells (flatD [markD p (dn p), markD p m1]).toArray 23))
          have hB3 := hB2.alloc (Nat.le_trans hb hB2.size) (.cells (flatD [markD p (dn p), markD p m1]).toArray 23)
          have hy := (OwnDs.lit w2 [markD p (dn p), markD p m1] (by show 2 ≤ maxLen; decide)).isDs
          have hO3 := hS3.five.own p _ hv
          clear hS2 hS hB hB2 hw1 hw2 hc
          obtain ⟨g, c', w4, hr, hOu, hOv, hg4, hat⟩ := run_app2D _ base w2.heap.size (.slice x (dn p) c) (mkL p (dn p)) (markD p (dn p)) (markD p m1) 31 hO3 hy (by rw [mkL_len]; exact hln) (Nat.le_trans hb hB3.size)
          rw [mkL_len] at hr hOu
          rw [← hm1, mkL_two] at hOu
          obtain ⟨hS4, huv, hgl, hmg⟩ := hS3.grow hv hus hg4 hOv hOu hat
          have hB4 := hB3.trans (own_below hO3 hg4 (Nat.le_trans hb hB3.size))
          have hS5 := hS4.later (below_alloc w4 (.cells #[.slice (some ⟨g, 0, none⟩) (dn p + 2) c'] 31))
          have hOu5 := hOu.keep (below_alloc w4 (.cells #[.slice (some ⟨g, 0, none⟩) (dn p + 2) c'] 31))
          have hB5 := hB4.alloc (Nat.le_trans hb hB4.size) (.cells #[.slice (some ⟨g, 0, none⟩) (dn p + 2) c'] 31)
          obtain ⟨g2, c2, w6, hr2, hM6, hg6, hat6⟩ := run_app1M (w4.alloc (.cells #[.slice (some ⟨g, 0, none⟩) (dn p + 2) c'] 31)) base w4.heap.size 1 u6 us (.slice (some ⟨g, 0, none⟩) (dn p + 2) c') 40 hS5.more (World.cell?_alloc_at _ _ _ _ rfl) rfl (by omega) (Nat.le_trans hb hB5.size)
          have hS6 := hS5.push hus hOu5 huv hgl hmg hg6 hM6 hat6
          have HB : Hid _ := hB5.trans (OwnG.below hS5.more hg6 (Nat.le_trans hb hB5.size))
          rw [hus] at hS6
          have HS : Hid _ := hS6
          have hus2 : (us ++ [Value.slice (some ⟨g, 0, none⟩) (dn p + 2) c']).length = p + 1 := by rw [List.length_append, hus]; rfl
          clear hS3 hS4 hS5 hS6 hB3 hB4 hB5 hO3 hOu hOv hOu5 hg4 hg6 hM6 hat hat6 hy huv hgl hmg hm1
          go_wp2_with (first | (at_builtin; refine wpL_appD rfl _ _ rfl _ w4 (by exact hr) ?_) | (at_builtin; refine wpL_appG 40 rfl _ _ rfl _ w6 (by exact hr2) ?_))
          go_roundw
          case rel => exact ⟨p + 1, _, by omega, hus2, by go_num, HS.out, HB.out⟩
          case measure => simp [intOf]; omega
        · obtain rfl : p = q := by omega
          have hne : us ≠ [] := fun e => by rw [e] at hus; simp at hus; omega
          obtain ⟨gm, cm, rfl, -, hgm, -, -⟩ := hS.more.form hne
          rw [hus]
          obtain ⟨X, rfl⟩ : ∃ X, X = wr := ⟨_, rfl⟩
          go_wp2_with fail
          go_loopw [57] (fun i wr => ∃ k : Nat, k ≤ p ∧ i = .int .i64 k ∧ Below X.heap.size X wr) (fun i _ => p - (intOf i).toNat)
          case atStart => exact ⟨0, by omega, rfl, Below.refl _ _⟩
          case round =>
            obtain ⟨k, hk, rfl, hBk⟩ := hrel
            by_cases hlk : k < p
            · obtain ⟨u, hu⟩ : ∃ u, us[k]? = some u := ⟨us[k]'(by omega), List.getElem?_eq_getElem (by omega)⟩
              obtain ⟨v, hv⟩ : ∃ v, vs[k]? = some v := ⟨vs[k]'(by omega), List.getElem?_eq_getElem (by omega)⟩
              obtain ⟨xu, cu, rfl⟩ := lenDs (hS.own k u hu)
              obtain ⟨xv, cv, rfl⟩ := lenDs (hS.five.own k v hv)
              rw [mkL_len] at hu hv
              have hOu := hS.own k _ hu
              have hOv := hS.five.own k _ hv
              obtain ⟨gu, rfl, hgu⟩ := addrDs hOu (by rw [mkL_len]; omega)
              have hcm := hS.more.cell k _ hu
              have hcl := hS.five.row k _ hv
              have hgl := hS.five.lt
              have hcm1 := (hBk.cell hgm).trans hcm
              have hk0 : (0 : Int) ≤ (k : Int) := by omega
              have hkp : (k : Int) < (p : Int) := by omega
              obtain ⟨n2, hn2⟩ : ∃ m, dn k + 2 = m := ⟨_, rfl⟩
              rw [hn2] at hcm1 hOu
              have hl9 : n2 ≤ 140737488355328 := by have := hl2 k hlk; omega
              go_wp2_with fail
              clear hcm1
              go_loopw [64] (fun i wr => ∃ s : Nat, s ≤ n2 ∧ i = .int .i64 s ∧ Below X.heap.size X wr) (fun i _ => n2 - (intOf i).toNat)
              case atStart => exact ⟨0, by omega, rfl, hBk⟩
              case round =>
                clear hBk
                obtain ⟨s, hs, rfl, hBs⟩ := hrel
                by_cases hls : s < n2
                · obtain ⟨D, hD⟩ : ∃ D, markD k s = D := ⟨_, rfl⟩
                  have hmk := mark_any k s
                  rw [hD] at hmk
                  have f1 := (hOu.keep hBs).rng s D (by rw [mkL_get k n2 s hls, hD])
                  obtain ⟨ok1, rg1⟩ := f1
                  have hgu1 : gu < wr.heap.size := Nat.lt_of_lt_of_le hgu hBs.size
                  have hgl1 : gl < wr.heap.size := Nat.lt_of_lt_of_le hgl hBs.size
                  have hcl1 := (hBs.cell hgl).trans hcl
                  have hDD := secEq_self D
                  have hs0 : (0 : Int) ≤ (s : Int) := by omega
                  have hsn : (s : Int) < (n2 : Int) := by omega
                  by_cases hb9 : s < dn k
                  · obtain ⟨gv, rfl, hgv⟩ := addrDs hOv (by rw [mkL_len]; omega)
                    have f2 := (hOv.keep hBs).rng s D (by rw [mkL_get k (dn k) s hb9, hD])
                    obtain ⟨ok2, rg2⟩ := f2
                    have hgv1 : gv < wr.heap.size := Nat.lt_of_lt_of_le hgv hBs.size
                    have hsd : (s : Int) < (dn k : Int) := by omega
                    go_upto_region 22 with fail
                    refine wp_relies [Fx (.slice (some ⟨gu, 0, none⟩) n2 cu), Fx (.int .i64 (s : Nat)), Fx (.pointer (some ⟨gu, s * 32, none⟩)), Fx (.agg (dg_secA D)), Fx (.int .i64 (k : Nat)), Fx (.int .i64 (s : Nat)), Fx (.agg (dg_secA D)), Fx (.bool false), Fx (.bool false), Fx (.int .i64 (s : Nat)), Fx (.slice (some ⟨gl, 0, none⟩) p p), Fx (.int .i64 (k : Nat)), Fx (.pointer (some ⟨gl, k, none⟩)), Fx (.slice (some ⟨gv, 0, none⟩) (dn k) cv), Fx (.int .i64 (dn k : Nat)), Fx (.bool true), Fx (.bool true), Fx (.slice (some ⟨gl, 0, none⟩) p p), Fx (.int .i64 (k : Nat)), Fx (.pointer (some ⟨gl, k, none⟩)), Fx (.slice (some ⟨gv, 0, none⟩) (dn k) cv), Fx (.int .i64 (s : Nat)), Fx (.pointer (some ⟨gv, s * 32, none⟩)), Fx (.agg (dg_secA D)), Fx (.int .i64 (k : Nat)), Fx (.int .i64 (s : Nat)), Fx (.agg (dg_secA D)), Fx (.bool false), Fx (.bool false), Fx (.bool false)] (by kernel_rfl) (by kernel_rfl) ?_ ?_ ?_
                    · repeat' (first | exact all_nil | apply all_cons)
                      all_goals intro v y y' hv hb
                      all_goals first | exact Fx_mono _ _ _ _ hv hb
                    · refine ⟨?_, ?_, ?_, ?_, ?_, ?_, ?_, ?_, ?_, ?_, ?_, ?_, ?_, ?_, ?_, ?_, ?_, ?_, ?_, ?_, ?_, ?_, ?_, ?_, ?_, ?_, ?_, ?_, ?_, ?_, trivial⟩
                      all_goals
                        intro ρ x hp ρc ρg ρf ho hd
                        have o0 : ρ (.tmp 0) = .slice (some ⟨gl, 0, none⟩) p p := ho 0 rfl
                        have o9 : ρ (.tmp 9) = .int .i64 (k : Nat) := ho 9 rfl
                        have o10 : ρ (.tmp 10) = .slice (some ⟨gu, 0, none⟩) n2 cu := ho 10 rfl
                        have o11 : ρ (.tmp 11) = .int .i64 (s : Nat) := ho 11 rfl
                        clear ho
                        have g1 := rng_later hp hgu1 (s * 32)
                        have k1' := g1.1.trans ok1
                        have k2' := g1.2.trans rg1
                        have g2 := rng_later hp hgv1 (s * 32)
                        have k3' := g2.1.trans ok2
                        have k4' := g2.2.trans rg2
                        clear g2
                        have c1 := (hp.cell hgl1).trans hcl1
                        clear g1
                        simp only [depsR, depR, slotR, Fx, List.getElem?_cons_succ, List.getElem?_cons_zero, Region.binds, forall_const] at hd
                        simp only [guardR]
                        go_split_ands
                      · go_simp
                      · go_simp
                      · go_simp
                      · go_simp
                      · go_simp
                      · go_simp
                      · go_simp
                        refine (hmk x).mono ?_
                        rintro e x' ⟨rfl, hb⟩
                        exact ⟨_, rfl, rfl, hb⟩
                      · go_simp
                      · go_simp
                      · refine ⟨fun _ => ?_, fun hy => absurd (by simp [yieldR, slotR, *]) hy⟩
                        go_simp
                      · refine ⟨fun _ => ?_, fun hy => absurd (by simp [yieldR, slotR, *]) hy⟩
                        go_simp
                      · refine ⟨fun _ => ?_, fun hy => absurd (by simp [yieldR, slotR, *]) hy⟩
                        go_simp
                      · refine ⟨fun _ => ?_, fun hy => absurd (by simp [yieldR, slotR, *]) hy⟩
                        go_simp
                      · refine ⟨fun _ => ?_, fun hy => absurd (by simp [yieldR, slotR, *]) hy⟩
                        go_simp
                      · refine ⟨fun _ => ?_, fun hy => absurd (by simp [yieldR, slotR, *]) hy⟩
                        go_simp
                      · refine ⟨fun _ => ?_, fun hy => absurd (by simp [yieldR, slotR, *]) hy⟩
                        go_simp
                      · refine ⟨fun _ => ?_, fun hy => absurd (by simp [yieldR, slotR, *]) hy⟩
                        go_simp
                      · refine ⟨fun _ => ?_, fun hy => absurd (by simp [yieldR, slotR, *]) hy⟩
                        go_simp
                      · refine ⟨fun _ => ?_, fun hy => absurd (by simp [yieldR, slotR, *]) hy⟩
                        go_simp
                      · refine ⟨fun _ => ?_, fun hy => absurd (by simp [yieldR, slotR, *]) hy⟩
                        go_simp
                      · refine ⟨fun _ => ?_, fun hy => absurd (by simp [yieldR, slotR, *]) hy⟩
                        go_simp
                      · refine ⟨fun _ => ?_, fun hy => absurd (by simp [yieldR, slotR, *]) hy⟩
                        go_simp
                      · refine ⟨fun _ => ?_, fun hy => absurd (by simp [yieldR, slotR, *]) hy⟩
                        go_simp
                      · refine ⟨fun _ => ?_, fun hy => absurd (by simp [yieldR, slotR, *]) hy⟩
                        go_simp
                      · refine ⟨fun _ => ?_, fun hy => absurd (by simp [yieldR, slotR, *]) hy⟩
                        go_simp
                      · refine ⟨fun _ => ?_, fun hy => absurd (by simp [yieldR, slotR, *]) hy⟩
                        go_simp
                      · refine ⟨fun _ => ?_, fun hy => absurd (by simp [yieldR, slotR, *]) hy⟩
                        go_simp
                        refine (hmk x).mono ?_
                        rintro e x' ⟨rfl, hb⟩
                        exact ⟨_, rfl, rfl, hb⟩
                      · refine ⟨fun _ => ?_, fun hy => absurd (by simp [yieldR, slotR, *]) hy⟩
                        go_simp
                      · refine ⟨fun _ => ?_, fun hy => absurd (by simp [yieldR, slotR, *]) hy⟩
                        go_simp
                      · go_simp
                    · intro vs_1 x hp hw
                      simp only [owed, Fx] at hw
                      obtain ⟨e0, e1, e2, e3, e4, e5, e6, e7, e8, e9, e10, e11, e12, e13, e14, e15, e16, e17, e18, e19, e20, e21, e22, e23, e24, e25, e26, e27, e28, e29, -⟩ := hw
                      simp only [List.length_cons, List.length_nil, List.take_succ_cons, List.take_nil, List.drop_succ_cons, List.drop_nil, asg, List.cons_append, List.nil_append, e0, e1, e2, e3, e4, e5, e6, e7, e8, e9, e10, e11, e12, e13, e14, e15, e16, e17, e18, e19, e20, e21, e22, e23, e24, e25, e26, e27, e28, e29]
                      clear e0 e1 e2 e3 e4 e5 e6 e7 e8 e9 e10 e11 e12 e13 e14 e15 e16 e17 e18 e19 e20 e21 e22 e23 e24 e25 e26 e27 e28 e29
                      have HB : Hid _ := hBs.trans (hp.mono hBs.size)
                      clear hp hBs
                      go_wp2
                      go_roundw
                      case rel => exact ⟨s + 1, by omega, by go_num, HB.out⟩
                      case measure => simp [intOf]; omega
                  · have hsd : ¬ (s : Int) < (dn k : Int) := by omega
                    go_upto_region 22 with fail
                    refine wp_relies [Fx (.slice (some ⟨gu, 0, none⟩) n2 cu), Fx (.int .i64 (s : Nat)), Fx (.pointer (some ⟨gu, s * 32, none⟩)), Fx (.agg (dg_secA D)), Fx (.int .i64 (k : Nat)), Fx (.int .i64 (s : Nat)), Fx (.agg (dg_secA D)), Fx (.bool false), Fx (.bool false), Fx (.int .i64 (s : Nat)), Fx (.slice (some ⟨gl, 0, none⟩) p p), Fx (.int .i64 (k : Nat)), Fx (.pointer (some ⟨gl, k, none⟩)), Fx (.slice xv (dn k) cv), Fx (.int .i64 (dn k : Nat)), Fx (.bool false), Fx (.bool false), Fx (undef), Fx (undef), Fx (undef), Fx (undef), Fx (undef), Fx (undef), Fx (undef), Fx (undef), Fx (undef), Fx (undef), Fx (undef), Fx (.bool false), Fx (.bool false)] (by kernel_rfl) (by kernel_rfl) ?_ ?_ ?_
                    · repeat' (first | exact all_nil | apply all_cons)
                      all_goals intro v y y' hv hb
                      all_goals first | exact Fx_mono _ _ _ _ hv hb
                    · refine ⟨?_, ?_, ?_, ?_, ?_, ?_, ?_, ?_, ?_, ?_, ?_, ?_, ?_, ?_, ?_, ?_, ?_, ?_, ?_, ?_, ?_, ?_, ?_, ?_, ?_, ?_, ?_, ?_, ?_, ?_, trivial⟩
                      all_goals
                        intro ρ x hp ρc ρg ρf ho hd
                        have o0 : ρ (.tmp 0) = .slice (some ⟨gl, 0, none⟩) p p := ho 0 rfl
                        have o9 : ρ (.tmp 9) = .int .i64 (k : Nat) := ho 9 rfl
                        have o10 : ρ (.tmp 10) = .slice (some ⟨gu, 0, none⟩) n2 cu := ho 10 rfl
                        have o11 : ρ (.tmp 11) = .int .i64 (s : Nat) := ho 11 rfl
                        clear ho
                        have g1 := rng_later hp hgu1 (s * 32)
                        have k1' := g1.1.trans ok1
                        have k2' := g1.2.trans rg1
                        have c1 := (hp.cell hgl1).trans hcl1
                        clear g1
                        simp only [depsR, depR, slotR, Fx, List.getElem?_cons_succ, List.getElem?_cons_zero, Region.binds, forall_const] at hd
                        simp only [guardR]
                        go_split_ands
                      · go_simp
                      · go_simp
                      · go_simp
                      · go_simp
                      · go_simp
                      · go_simp
                      · go_simp
                        refine (hmk x).mono ?_
                        rintro e x' ⟨rfl, hb⟩
                        exact ⟨_, rfl, rfl, hb⟩
                      · go_simp
                      · go_simp
                      · refine ⟨fun _ => ?_, fun hy => absurd (by simp [yieldR, slotR, *]) hy⟩
                        go_simp
                      · refine ⟨fun _ => ?_, fun hy => absurd (by simp [yieldR, slotR, *]) hy⟩
                        go_simp
                      · refine ⟨fun _ => ?_, fun hy => absurd (by simp [yieldR, slotR, *]) hy⟩
                        go_simp
                      · refine ⟨fun _ => ?_, fun hy => absurd (by simp [yieldR, slotR, *]) hy⟩
                        go_simp
                      · refine ⟨fun _ => ?_, fun hy => absurd (by simp [yieldR, slotR, *]) hy⟩
                        go_simp
                      · refine ⟨fun _ => ?_, fun hy => absurd (by simp [yieldR, slotR, *]) hy⟩
                        go_simp
                      · refine ⟨fun _ => ?_, fun hy => absurd (by simp [yieldR, slotR, *]) hy⟩
                        go_simp
                      · refine ⟨fun _ => ?_, fun hy => absurd (by simp [yieldR, slotR, *]) hy⟩
                        go_simp
                      · refine ⟨fun hy => ?_, fun _ => rfl⟩
                        exfalso; simp [yieldR, slotR, undef, *] at hy
                      · refine ⟨fun hy => ?_, fun _ => rfl⟩
                        exfalso; simp [yieldR, slotR, undef, *] at hy
                      · refine ⟨fun hy => ?_, fun _ => rfl⟩
                        exfalso; simp [yieldR, slotR, undef, *] at hy
                      · refine ⟨fun hy => ?_, fun _ => rfl⟩
                        exfalso; simp [yieldR, slotR, undef, *] at hy
                      · refine ⟨fun hy => ?_, fun _ => rfl⟩
                        exfalso; simp [yieldR, slotR, undef, *] at hy
                      · refine ⟨fun hy => ?_, fun _ => rfl⟩
                        exfalso; simp [yieldR, slotR, undef, *] at hy
                      · refine ⟨fun hy => ?_, fun _ => rfl⟩
                        exfalso; simp [yieldR, slotR, undef, *] at hy
                      · refine ⟨fun hy => ?_, fun _ => rfl⟩
                        exfalso; simp [yieldR, slotR, undef, *] at hy
                      · refine ⟨fun hy => ?_, fun _ => rfl⟩
                        exfalso; simp [yieldR, slotR, undef, *] at hy
                      · refine ⟨fun hy => ?_, fun _ => rfl⟩
                        exfalso; simp [yieldR, slotR, undef, *] at hy
                      · refine ⟨fun hy => ?_, fun _ => rfl⟩
                        exfalso; simp [yieldR, slotR, undef, *] at hy
                      · refine ⟨fun _ => ?_, fun hy => absurd (by simp [yieldR, slotR, *]) hy⟩
                        go_simp
                      · go_simp
                    · intro vs_1 x hp hw
                      simp only [owed, Fx] at hw
                      obtain ⟨e0, e1, e2, e3, e4, e5, e6, e7, e8, e9, e10, e11, e12, e13, e14, e15, e16, e17, e18, e19, e20, e21, e22, e23, e24, e25, e26, e27, e28, e29, -⟩ := hw
                      simp only [List.length_cons, List.length_nil, List.take_succ_cons, List.take_nil, List.drop_succ_cons, List.drop_nil, asg, List.cons_append, List.nil_append, e0, e1, e2, e3, e4, e5, e6, e7, e8, e9, e10, e11, e12, e13, e14, e15, e16, e17, e18, e19, e20, e21, e22, e23, e24, e25, e26, e27, e28, e29]
                      clear e0 e1 e2 e3 e4 e5 e6 e7 e8 e9 e10 e11 e12 e13 e14 e15 e16 e17 e18 e19 e20 e21 e22 e23 e24 e25 e26 e27 e28 e29
                      have HB : Hid _ := hBs.trans (hp.mono hBs.size)
                      clear hp hBs
                      go_wp2
                      go_roundw
                      case rel => exact ⟨s + 1, by omega, by go_num, HB.out⟩
                      case measure => simp [intOf]; omega
                · go_wp2
                  go_roundw
                  case rel => exact ⟨k + 1, by omega, by go_num, hBs⟩
                  case measure => simp [intOf]; omega
            · have HB : Hid _ := hB.trans (hBk.mono (Nat.le_trans hb hB.size))
              go_wp2
              go_ret
              exact ⟨rfl, HB.out⟩
end Go.Proofs.Ythkjfgncbmpllaa
