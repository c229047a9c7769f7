
import Derived.Test.YtkpgeeagokbjeaaDevO
namespace Go.Proofs.Ytkpgeeagokbjeaa
open Go.RowKit

/-! DeviceLasts -/
section
variable {DevIs : World → Value → DSt → List Nat → List Nat → Prop}
set_option linter.unusedSimpArgs false in
set_option maxRecDepth 100000 in
set_option maxHeartbeats 1600000 in
theorem lawLasts_any (O : DevOk DevIs) (Z : DevNil) (xs : Option Addr) (cs n : Nat) (os : List OpD) (w : World) (hnn : os.length = n) (hs : IsDOps w (.slice xs n cs) os) (hn : n ≤ 1048576) :
    Calls Try.prog 4 #[.slice xs n cs] w fun e w' => e = .returned (.bool true) ∧ Below w.heap.size w w' := by
  have hF : Calls Try.prog 7 #[.int .i64 70, .slice none 0 0] w fun e w' => ∃ y c', e = .returned (.slice y 70 c') ∧ OwnK secE w' w.heap.size (.slice y 70 c') (fillL 70 []) ∧ Below w.heap.size w w' := fill_any 70 (by omega) none 0 0 [] w rfl (.inl ⟨rfl, rfl⟩)
  go_enter Try.func4, Try.ntmps4
  go_wp2_with fail
  refine hF.mono ?_
  rintro e w1 ⟨y, c, rfl, hO, hB1⟩
  clear hF
  have hN := O.made w1 y 70 c (fillL 70 []) (fillL_len _ _) (hO.isK secE_ok) (by omega) (by omega)
  go_wp2_with fail
  refine hN.mono ?_
  rintro e w2 ⟨a, rfl, hD⟩
  replace hD := hD.since hB1 hB1.size
  clear hN hO hB1
  go_wp2_with fail
  refine (knownDev O Z w2).mono ?_
  rintro e w3 ⟨rfl, hB⟩
  replace hD := hD.later O hB
  clear hB
  go_wp2_with fail
  go_loopw [5] (fun v wr => ∃ (i : Nat) (st : DSt), i ≤ n ∧ v = .int .i64 i ∧ Runs 70 i st ∧ DevAt DevIs w.heap.size w [] wr (.pointer (some a)) st) (fun v _ => n - (intOf v).toNat)
  case atStart => exact ⟨0, _, by omega, rfl, Runs.new 70 [], hD⟩
  case round =>
    clear hD
    obtain ⟨i, st, hi, rfl, hR, hD⟩ := hrel
    by_cases hlt : i < n
    · obtain ⟨⟨okd, oat, ov⟩, ho⟩ : ∃ o, os[i]? = some o := ⟨os[i]'(by omega), List.getElem?_eq_getElem (by omega)⟩
      obtain ⟨bo, po, rfl, hbo, kk, ka, kv, -, ra1, ra2⟩ := (hs.kept hD.below).at i _ ho
      simp only at kk ka kv ra1 ra2
      have i0 : (0 : Int) ≤ (i : Int) := by omega
      have i1 : (i : Int) < (n : Int) := by omega
      clear ho
      by_cases hk : okd = 1
      · subst hk
        have hC := hD.flush O (by have := hR.pend; omega) (by have := hR.fl; omega)
        rw [hR.fr] at hC
        go_wp2_with fail
        refine hC.mono ?_
        rintro e wv ⟨rfl, hD', -⟩
        replace hR := hR.flush
        clear hC hD kk ka kv hbo
        replace hD := hD'
        clear hD'
        generalize flSt st = st' at hR hD
        have hC := hD.durable O 70 hR.len
        have hpm : st'.pend.length ≤ 1099511627776 := by have := hR.pend; omega
        go_wp2_with fail
        refine hC.mono ?_
        rintro e u1 ⟨yw, cw, rfl, hW, hB⟩
        obtain ⟨gw, rfl, hgw⟩ := hW.form (by rw [hR.len]; omega)
        have hwl : w.heap.size ≤ gw := by have := hD.size; have := (World.ownsRow.lt hW gw rfl).1; omega
        replace hD := hD.own O hB hW
        clear hC hB
        obtain ⟨np, hnp⟩ : ∃ n, st'.pend.length = n := ⟨_, rfl⟩
        have hC := hD.pending O hpm np hnp
        go_wp2_with fail
        refine hC.mono ?_
        rintro e u2 ⟨yp, cp, rfl, hP, hB⟩
        replace hW := hW.keep hB
        have hpl := fun q hq => (World.ownsRow.lt hP q hq).1
        replace hD := (hD.later O hB).drop (A' := [gw]) (by simp [Value.ownBlock])
        have hok := hD.ok O
        clear hC hB
        go_wp2_with fail
        go_loopw [8] (fun v wr => ∃ j : Nat, j ≤ np ∧ v = .int .i64 j ∧ OwnK secE wr wv.heap.size (.slice (some ⟨gw, 0, none⟩) 70 cw) (over st'.last (st'.pend.take j)) ∧ Keep [gw] u2 wr) (fun v _ => np - (intOf v).toNat)
        case atStart => exact ⟨0, by omega, rfl, hW, Keep.refl _ _⟩
        case round =>
          clear hW
          obtain ⟨j, hj, rfl, hW, hK⟩ := hrel
          by_cases hlt2 : j < np
          · obtain ⟨x, hx⟩ : ∃ x, st'.pend[j]? = some x := ⟨st'.pend[j]'(by omega), List.getElem?_eq_getElem (by omega)⟩
            obtain ⟨m, hm, hml⟩ := pend_at hok hx
            rw [hR.len] at hml
            have hPw := hP.keeps hK (fun q hq => by have := hpl q hq; simp only [List.mem_singleton]; omega)
            obtain ⟨gp, rfl, hgp⟩ := hPw.form (by omega)
            obtain ⟨d0, dok, drg⟩ := wrCells hPw j x hx
            rw [hm] at d0
            obtain ⟨s, hsx⟩ : ∃ s, x.2 = s := ⟨_, rfl⟩
            rw [hsx] at drg
            have HX : Hid (over st'.last (st'.pend.take (j + 1)) = (over st'.last (st'.pend.take j)).set m s) := by show _ = _; rw [over_step hx hm, hsx]
            have j0 : (0 : Int) ≤ (j : Int) := by omega
            have j1 : (j : Int) < (np : Int) := by omega
            have m0 : (0 : Int) ≤ (m : Int) := by omega
            have m1 : (m : Int) < 70 := by omega
            clear hx hm hsx hPw hD
            go_upto_region 15 with fail
            refine wp_reliesT [Fx (.slice (some ⟨gw, 0, none⟩) 70 cw), Fx (.slice (some ⟨gp, 0, none⟩) np cp), Fx (.int .i64 (j : Nat)), Fx (.pointer (some ⟨gp, j * 65, none⟩)), Fx (.pointer (some ⟨gp, j * 65, none⟩)), Fx (.int .i64 (m : Nat)), Fx (.slice (some ⟨gp, 0, none⟩) np cp), Fx (.int .i64 (j : Nat)), Fx (.pointer (some ⟨gp, j * 65, none⟩)), Fx (.pointer (some ⟨gp, j * 65 + 1, none⟩)), Fx (.agg (secA s)), Fx (.pointer (some ⟨gw, m * 64, none⟩))] (by kernel_rfl) (by kernel_rfl) ?_ ?_ ?_
            · repeat' (first | exact all_nil | apply all_cons)
              all_goals intro v y y' hv hb
              all_goals first | exact Fx_mono _ _ _ _ hv hb
            · refine ⟨?_, ?_, ?_, ?_, ?_, ?_, ?_, ?_, ?_, ?_, ?_, ?_, trivial⟩
              all_goals
                intro ρ x hp ρc ρg ρf ho hd
                have o6 : ρ (.tmp 6) = .slice (some ⟨gw, 0, none⟩) 70 cw := ho 6 rfl
                have o7 : ρ (.tmp 7) = .slice (some ⟨gp, 0, none⟩) np cp := ho 7 rfl
                have o8 : ρ (.tmp 8) = .int .i64 (j : Nat) := ho 8 rfl
                clear ho
                have q2 := cell_later hp d0
                have g1 := rg_later hp hgp (j * 65 + 1) 64
                have q3 := g1.1.trans dok
                have q4 := g1.2.trans drg
                clear g1
                simp only [depsR, depR, slotR, Fx, List.getElem?_cons_succ, List.getElem?_cons_zero, Region.binds, forall_const] at hd
                simp only [guardR]
                go_split_ands
              · go_simp
              · go_simp
              · go_simp
              · go_simp
              · go_simp
              · go_simp
              · go_simp
              · go_simp
              · go_simp
              · go_simp
              · go_simp
              · go_simp
            · intro vs x15 hp hw
              simp only [owed, Fx] at hw
              obtain ⟨e0, e1, e2, e3, e4, e5, e6, e7, e8, e9, e10, e11, -⟩ := hw
              simp only [List.length_cons, List.length_nil, List.take_succ_cons, List.take_zero, List.drop_succ_cons, List.drop_zero, asg, List.cons_append, List.nil_append, e0, e1, e2, e3, e4, e5, e6, e7, e8, e9, e10, e11]
              clear e0 e1 e2 e3 e4 e5 e6 e7 e8 e9 e10 e11
              have hst := secStore_mid (hW.keep hp) m s (by omega)
              have hO2 := secPut (hW.keep hp) m s (by omega)
              rw [← HX.out] at hO2
              have HO : Hid _ := hO2
              have HK : Hid (Keep [gw] u2 (x15.setCells gw (m * 64) (secA s).toList)) := (hK.trans (Keep.of_below hp)).trans (Keep.of_grown (grown_setC x15 gw (m * 64) (secA s).toList) (fun q hq => by cases hq; simp))
              clear hW hK hO2 hp d0 dok drg hP
              go_wp2
              go_roundw
              case rel => exact ⟨j + 1, by omega, by go_num, HO.out, HK.out⟩
              case measure => simp [intOf]; omega
          · obtain rfl : j = np := by omega
            rw [List.take_of_length_le (by omega)] at hW
            replace hD := hD.aside O hK (by simpa using hwl)
            clear hP hK hpl
            by_cases h8 : (i : Int).tmod 8 = 0
            · have hC := hD.sectors O hpm 70 hR.len
              go_wp2_with fail
              refine hC.mono ?_
              rintro e u3 ⟨ys, c3, rfl, hS, hB⟩
              have hL : (over st'.last st'.pend).length = 70 := by rw [over_len, hR.len]
              have hE := sameS_any ys (some ⟨gw, 0, none⟩) c3 cw 70 70 _ _ u3 hL hL (hS.isK secE_ok) ((hW.keep hB).isK secE_ok) (by omega)
              rw [decide_eq_true rfl] at hE
              replace hD := hD.later O hB
              clear hC hB hS hW hL
              go_wp2_with fail
              refine hE.mono ?_
              rintro e u4 ⟨rfl, hB⟩
              have HD : Hid _ := (hD.later O hB).drop (A' := []) (by simp)
              clear hE hB hD
              go_wp2
              go_roundw
              case rel => exact ⟨i + 1, st', by omega, by go_num, hR, HD.out⟩
              case measure => simp [intOf]; omega
            · have h8' : ((i : Int).tmod 8 == 0) = false := by simp [h8]
              have HD : Hid _ := hD.drop (A' := []) (by simp)
              clear hD hW
              go_wp2
              go_roundw
              case rel => exact ⟨i + 1, st', by omega, by go_num, hR, HD.out⟩
              case measure => simp [intOf]; omega
      · have hk1 : (okd == 1) = false := by simp [hk]
        go_upto_region 9 with fail
        refine wp_reliesT [Fx (.pointer (some a)), Fx (.slice (some ⟨bo, po, none⟩) n cs), Fx (.int .i64 (i : Nat)), Fx (.pointer (some ⟨bo, po + i * 5, none⟩)), Fx (.pointer (some ⟨bo, po + i * 5 + 2, none⟩)), Fx (.int .i64 oat), Fx (.slice (some ⟨bo, po, none⟩) n cs), Fx (.int .i64 (i : Nat)), Fx (.pointer (some ⟨bo, po + i * 5, none⟩)), Fx (.pointer (some ⟨bo, po + i * 5 + 3, none⟩)), Fx (.int .u8 (ov.toNat : Int)), Fx (.agg (secA (sectorD ov)))] (by kernel_rfl) (by kernel_rfl) ?_ ?_ ?_
        · repeat' (first | exact all_nil | apply all_cons)
          all_goals intro v y y' hv hb
          all_goals first | exact Fx_mono _ _ _ _ hv hb
        · refine ⟨?_, ?_, ?_, ?_, ?_, ?_, ?_, ?_, ?_, ?_, ?_, ?_, trivial⟩
          all_goals
            intro ρ x hp ρc ρg ρf ho hd
            have o0 : ρ (.tmp 0) = .slice (some ⟨bo, po, none⟩) n cs := ho 0 rfl
            have o3 : ρ (.tmp 3) = .pointer (some a) := ho 3 rfl
            have o5 : ρ (.tmp 5) = .int .i64 (i : Nat) := ho 5 rfl
            clear ho
            have q1 := cell_later hp kk
            have q2 := cell_later hp ka
            have q3 := cell_later hp kv
            simp only [depsR, depR, slotR, Fx, List.getElem?_cons_succ, List.getElem?_cons_zero, Region.binds, forall_const] at hd
            simp only [guardR]
            go_split_ands
          · go_simp
          · go_simp
          · go_simp
          · go_simp
          · go_simp
          · go_simp
          · go_simp
          · go_simp
          · go_simp
          · go_simp
          · go_simp
          · go_simp
            refine (sector_any ov x).mono ?_
            rintro e x' ⟨rfl, hb⟩
            exact ⟨_, rfl, rfl, hb⟩
        · intro vs x9 hp hw
          simp only [owed, Fx] at hw
          obtain ⟨e0, e1, e2, e3, e4, e5, e6, e7, e8, e9, e10, e11, -⟩ := hw
          simp only [List.length_cons, List.length_nil, List.take_succ_cons, List.take_zero, List.drop_succ_cons, List.drop_zero, asg, List.cons_append, List.nil_append, e0, e1, e2, e3, e4, e5, e6, e7, e8, e9, e10, e11]
          clear e0 e1 e2 e3 e4 e5 e6 e7 e8 e9 e10 e11
          have hC := (hD.later O hp).write O oat (sectorD ov) (by have := hR.pend; omega) (by have := hR.wt; omega) ra1 ra2
          clear kk ka kv hp hD hbo
          go_wp2_with fail
          refine hC.mono ?_
          rintro e wv ⟨rfl, hD, -⟩
          replace hR := hR.write oat (sectorD ov)
          clear hC
          generalize wrSt st oat (sectorD ov) = st' at hR hD
          have hC := hD.durable O 70 hR.len
          have hpm : st'.pend.length ≤ 1099511627776 := by have := hR.pend; omega
          go_wp2_with fail
          refine hC.mono ?_
          rintro e u1 ⟨yw, cw, rfl, hW, hB⟩
          obtain ⟨gw, rfl, hgw⟩ := hW.form (by rw [hR.len]; omega)
          have hwl : w.heap.size ≤ gw := by have := hD.size; have := (World.ownsRow.lt hW gw rfl).1; omega
          replace hD := hD.own O hB hW
          clear hC hB
          obtain ⟨np, hnp⟩ : ∃ n, st'.pend.length = n := ⟨_, rfl⟩
          have hC := hD.pending O hpm np hnp
          go_wp2_with fail
          refine hC.mono ?_
          rintro e u2 ⟨yp, cp, rfl, hP, hB⟩
          replace hW := hW.keep hB
          have hpl := fun q hq => (World.ownsRow.lt hP q hq).1
          replace hD := (hD.later O hB).drop (A' := [gw]) (by simp [Value.ownBlock])
          have hok := hD.ok O
          clear hC hB
          go_wp2_with fail
          go_loopw [8] (fun v wr => ∃ j : Nat, j ≤ np ∧ v = .int .i64 j ∧ OwnK secE wr wv.heap.size (.slice (some ⟨gw, 0, none⟩) 70 cw) (over st'.last (st'.pend.take j)) ∧ Keep [gw] u2 wr) (fun v _ => np - (intOf v).toNat)
          case atStart => exact ⟨0, by omega, rfl, hW, Keep.refl _ _⟩
          case round =>
            clear hW
            obtain ⟨j, hj, rfl, hW, hK⟩ := hrel
            by_cases hlt2 : j < np
            · obtain ⟨x, hx⟩ : ∃ x, st'.pend[j]? = some x := ⟨st'.pend[j]'(by omega), List.getElem?_eq_getElem (by omega)⟩
              obtain ⟨m, hm, hml⟩ := pend_at hok hx
              rw [hR.len] at hml
              have hPw := hP.keeps hK (fun q hq => by have := hpl q hq; simp only [List.mem_singleton]; omega)
              obtain ⟨gp, rfl, hgp⟩ := hPw.form (by omega)
              obtain ⟨d0, dok, drg⟩ := wrCells hPw j x hx
              rw [hm] at d0
              obtain ⟨s, hsx⟩ : ∃ s, x.2 = s := ⟨_, rfl⟩
              rw [hsx] at drg
              have HX : Hid (over st'.last (st'.pend.take (j + 1)) = (over st'.last (st'.pend.take j)).set m s) := by show _ = _; rw [over_step hx hm, hsx]
              have j0 : (0 : Int) ≤ (j : Int) := by omega
              have j1 : (j : Int) < (np : Int) := by omega
              have m0 : (0 : Int) ≤ (m : Int) := by omega
              have m1 : (m : Int) < 70 := by omega
              clear hx hm hsx hPw hD
              go_upto_region 15 with fail
              refine wp_reliesT [Fx (.slice (some ⟨gw, 0, none⟩) 70 cw), Fx (.slice (some ⟨gp, 0, none⟩) np cp), Fx (.int .i64 (j : Nat)), Fx (.pointer (some ⟨gp, j * 65, none⟩)), Fx (.pointer (some ⟨gp, j * 65, none⟩)), Fx (.int .i64 (m : Nat)), Fx (.slice (some ⟨gp, 0, none⟩) np cp), Fx (.int .i64 (j : Nat)), Fx (.pointer (some ⟨gp, j * 65, none⟩)), Fx (.pointer (some ⟨gp, j * 65 + 1, none⟩)), Fx (.agg (secA s)), Fx (.pointer (some ⟨gw, m * 64, none⟩))] (by kernel_rfl) (by kernel_rfl) ?_ ?_ ?_
              · repeat' (first | exact all_nil | apply all_cons)
                all_goals intro v y y' hv hb
                all_goals first | exact Fx_mono _ _ _ _ hv hb
              · refine ⟨?_, ?_, ?_, ?_, ?_, ?_, ?_, ?_, ?_, ?_, ?_, ?_, trivial⟩
                all_goals
                  intro ρ x hp ρc ρg ρf ho hd
                  have o6 : ρ (.tmp 6) = .slice (some ⟨gw, 0, none⟩) 70 cw := ho 6 rfl
                  have o7 : ρ (.tmp 7) = .slice (some ⟨gp, 0, none⟩) np cp := ho 7 rfl
                  have o8 : ρ (.tmp 8) = .int .i64 (j : Nat) := ho 8 rfl
                  clear ho
                  have q2 := cell_later hp d0
                  have g1 := rg_later hp hgp (j * 65 + 1) 64
                  have q3 := g1.1.trans dok
                  have q4 := g1.2.trans drg
                  clear g1
                  simp only [depsR, depR, slotR, Fx, List.getElem?_cons_succ, List.getElem?_cons_zero, Region.binds, forall_const] at hd
                  simp only [guardR]
                  go_split_ands
                · go_simp
                · go_simp
                · go_simp
                · go_simp
                · go_simp
                · go_simp
                · go_simp
                · go_simp
                · go_simp
                · go_simp
                · go_simp
                · go_simp
              · intro vs x15 hp hw
                simp only [owed, Fx] at hw
                obtain ⟨e0, e1, e2, e3, e4, e5, e6, e7, e8, e9, e10, e11, -⟩ := hw
                simp only [List.length_cons, List.length_nil, List.take_succ_cons, List.take_zero, List.drop_succ_cons, List.drop_zero, asg, List.cons_append, List.nil_append, e0, e1, e2, e3, e4, e5, e6, e7, e8, e9, e10, e11]
                clear e0 e1 e2 e3 e4 e5 e6 e7 e8 e9 e10 e11
                have hst := secStore_mid (hW.keep hp) m s (by omega)
                have hO2 := secPut (hW.keep hp) m s (by omega)
                rw [← HX.out] at hO2
                have HO : Hid _ := hO2
                have HK : Hid (Keep [gw] u2 (x15.setCells gw (m * 64) (secA s).toList)) := (hK.trans (Keep.of_below hp)).trans (Keep.of_grown (grown_setC x15 gw (m * 64) (secA s).toList) (fun q hq => by cases hq; simp))
                clear hW hK hO2 hp d0 dok drg hP
                go_wp2
                go_roundw
                case rel => exact ⟨j + 1, by omega, by go_num, HO.out, HK.out⟩
                case measure => simp [intOf]; omega
            · obtain rfl : j = np := by omega
              rw [List.take_of_length_le (by omega)] at hW
              replace hD := hD.aside O hK (by simpa using hwl)
              clear hP hK hpl
              by_cases h8 : (i : Int).tmod 8 = 0
              · have hC := hD.sectors O hpm 70 hR.len
                go_wp2_with fail
                refine hC.mono ?_
                rintro e u3 ⟨ys, c3, rfl, hS, hB⟩
                have hL : (over st'.last st'.pend).length = 70 := by rw [over_len, hR.len]
                have hE := sameS_any ys (some ⟨gw, 0, none⟩) c3 cw 70 70 _ _ u3 hL hL (hS.isK secE_ok) ((hW.keep hB).isK secE_ok) (by omega)
                rw [decide_eq_true rfl] at hE
                replace hD := hD.later O hB
                clear hC hB hS hW hL
                go_wp2_with fail
                refine hE.mono ?_
                rintro e u4 ⟨rfl, hB⟩
                have HD : Hid _ := (hD.later O hB).drop (A' := []) (by simp)
                clear hE hB hD
                go_wp2
                go_roundw
                case rel => exact ⟨i + 1, st', by omega, by go_num, hR, HD.out⟩
                case measure => simp [intOf]; omega
              · have h8' : ((i : Int).tmod 8 == 0) = false := by simp [h8]
                have HD : Hid _ := hD.drop (A' := []) (by simp)
                clear hD hW
                go_wp2
                go_roundw
                case rel => exact ⟨i + 1, st', by omega, by go_num, hR, HD.out⟩
                case measure => simp [intOf]; omega
    · obtain rfl : i = n := by omega
      have hpm : st.pend.length ≤ 1099511627776 := by have := hR.pend; omega
      have hC := hD.sectors O hpm 70 hR.len
      go_wp2_with fail
      refine hC.mono ?_
      rintro e u1 ⟨ya, ca, rfl, hA, hB⟩
      have hLA : (over st.last st.pend).length = 70 := by rw [over_len, hR.len]
      obtain ⟨ga, rfl, hga⟩ := hA.form (by omega)
      replace hD := hD.own O hB hA
      clear hC hB
      have hC := hD.flush O hpm (by have := hR.fl; omega)
      rw [hR.fr] at hC
      go_wp2_with fail
      refine hC.mono ?_
      rintro e u2 ⟨rfl, hD', hH⟩
      clear hD
      replace hD := hD'
      replace hA := hA.held hH (by simp [Value.ownBlock])
      have hl2 : (flSt st).last = over st.last st.pend := by rw [hR.fs]
      have hp2 : (flSt st).pend = [] := by rw [hR.fs]
      generalize flSt st = st2 at hD hl2 hp2
      clear hC hD' hH
      have hC := hD.durable O 70 (by rw [hl2, hLA])
      rw [hl2] at hC
      go_wp2_with fail
      refine hC.mono ?_
      rintro e u3 ⟨yd, cd, rfl, hS, hB⟩
      replace hA := hA.keep hB
      replace hD := hD.later O hB
      have hE := sameS_any yd (some ⟨ga, 0, none⟩) cd ca 70 70 _ _ u3 hLA hLA (hS.isK secE_ok) (hA.isK secE_ok) (by omega)
      rw [decide_eq_true rfl] at hE
      clear hC hB hS
      go_wp2_with fail
      refine hE.mono ?_
      rintro e u4 ⟨rfl, hB⟩
      replace hA := hA.keep hB
      replace hD := hD.later O hB
      clear hE hB
      have hC := hD.sectors O (by rw [hp2]; simp) 70 (by rw [hl2, hLA])
      rw [hl2, hp2] at hC
      go_wp2_with fail
      refine hC.mono ?_
      rintro e u5 ⟨ye, ce, rfl, hS, hB⟩
      replace hA := hA.keep hB
      replace hD := hD.later O hB
      have hE := sameS_any ye (some ⟨ga, 0, none⟩) ce ca 70 70 _ _ u5 hLA hLA (hS.isK secE_ok) (hA.isK secE_ok) (by omega)
      rw [decide_eq_true rfl] at hE
      clear hC hB hS
      go_wp2_with fail
      refine hE.mono ?_
      rintro e u6 ⟨rfl, hB⟩
      replace hD := hD.later O hB
      clear hE hB hA
      have hC := hD.pending O (by rw [hp2]; simp) 0 (by rw [hp2]; rfl)
      go_wp2_with fail
      refine hC.mono ?_
      rintro e u7 ⟨yf, cf, rfl, -, hB⟩
      have HB : Hid _ := (hD.later O hB).below
      clear hC hB hD
      go_wp2
      go_ret
      exact ⟨rfl, HB.out⟩
end
end Go.Proofs.Ytkpgeeagokbjeaa
