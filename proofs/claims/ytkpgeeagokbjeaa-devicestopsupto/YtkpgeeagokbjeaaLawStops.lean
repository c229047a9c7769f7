
import Derived.Test.YtkpgeeagokbjeaaDevS
namespace Go.Proofs.Ytkpgeeagokbjeaa
open Go.RowKit

/-! DeviceStops -/
theorem run_appB0 (w : World) (a : Option Addr) (n c' : Nat) (hn : n ≤ c') (x : Option Addr) (c : Nat) (ty : TypeId) (hx : a = none → n = 0) :
    (Builtin.append_ #[23, 23] ty #[.slice a n c', .slice x 0 c]).run Try.prog w = .ok (.slice a n c') w := by
  obtain ⟨i, z, hi, hz, hs, hby, -⟩ := boolsElt.info
  cases a with
  | none =>
    have := hx rfl
    subst this
    cases x <;> simp [Builtin.append_, run_underlying boolsElt.ht, sizeOf, typeInfo, hi, Builtin.lenOf, Builtin.firstCells, loadCells, loadCellsFrom]
  | some a => cases x <;> simp [Builtin.append_, run_underlying boolsElt.ht, sizeOf, typeInfo, hi, Builtin.lenOf, Builtin.firstCells, loadCells, loadCellsFrom, storeCells, hn]
/-- append([]bool{}, l...) -/
theorem run_copyBools (w : World) (v : Value) (B : Nat) (x : Option Addr) (n c : Nat) (bs : List Bool) (ty : TypeId) (hv : OwnG 4 w B v []) (hB : B ≤ w.heap.size) (hl : bs.length = n) (h : IsG w (.slice x n c) (bs.map Value.bool)) (hn : n ≤ 1048576) :
    ∃ y c' w', (Builtin.append_ #[23, 23] ty #[v, .slice x n c]).run Try.prog w = .ok (.slice y n c') w' ∧ OwnG 4 w' B (.slice y n c') (bs.map Value.bool) ∧ n ≤ c' ∧ Below B w w' := by
  by_cases h0 : bs = []
  · subst h0
    subst hl
    rcases hv.2 with ⟨rfl, -⟩ | ⟨g, cap, cur, rfl, hb, hg, hle, hm, hs, ht⟩
    · exact ⟨none, 0, w, run_appB0 w none 0 0 (Nat.le_refl _) x c ty (fun _ => rfl), hv, Nat.le_refl _, Below.refl _ _⟩
    · exact ⟨some ⟨g, 0, none⟩, cap, w, run_appB0 w (some ⟨g, 0, none⟩) 0 cap (Nat.zero_le _) x c ty (fun _ => rfl), hv, Nat.zero_le _, Below.refl _ _⟩
  · have hpos : 0 < bs.length := List.length_pos_iff.2 h0
    obtain ⟨b, o, rfl, -, hc⟩ := h.spot 0 (by rw [List.length_map]; exact hpos)
    obtain ⟨v', w', hr, hO, -, hBw⟩ := run_appG boolsElt w B v [] (bs.map Value.bool) ⟨b, o, none⟩ c ty hv (fun j u hj => by rw [addr_add]; exact hc j u hj) (fun u hu => by obtain ⟨b, -, rfl⟩ := List.mem_map.1 hu; rfl) (by simpa using h0) (by simp only [List.length_nil, List.length_map]; omega) (by simp only [List.length_nil, List.length_map]; unfold maxLen; omega) hB
    rw [List.nil_append] at hO
    obtain ⟨g, c', rfl, -, -, hle, -⟩ := hO.form (by simpa using h0)
    rw [List.length_map, hl] at hr hO hle
    exact ⟨_, c', w', hr, hO, hle, hBw⟩
section
variable {DevIs : World → Value → DSt → List Nat → List Nat → Prop}
theorem DevAt.ownG {B : Nat} {w0 w : World} {A : List Nat} {d : Value} {st : DSt} {t : TypeId} (O : DevOk DevIs) (h : DevAt DevIs B w0 A w d st) {w' : World} (hb : Below w.heap.size w w') {v : Value} {xs : List Value} (hO : OwnG t w' w.heap.size v xs) : DevAt DevIs B w0 (v.ownBlock.toList ++ A) w' d st := by
  have hl := hO.lt
  cases hv : v.ownBlock with
  | none => exact h.later O hb
  | some q => exact h.add O hb q (hl q hv).1 (hl q hv).2
set_option linter.unusedSimpArgs false in
set_option maxRecDepth 100000 in
set_option maxHeartbeats 3200000 in
theorem lawStops_any (O : DevOk DevIs) (Z : DevNil) (xs : Option Addr) (cs n : Nat) (os : List OpD) (k : Int) (xb : Option Addr) (nb cb : Nat) (bs : List Bool) (w : World) (hnn : os.length = n) (hs : IsDOps w (.slice xs n cs) os) (hn : n ≤ 1048576)
    (hk1 : -9223372036854775808 ≤ k) (hk2 : k ≤ 9223372036854775807) (hbl : bs.length = nb) (hb : IsG w (.slice xb nb cb) (bs.map Value.bool)) (hnb : nb ≤ 1048576) :
    Calls Try.prog 3 #[.slice xs n cs, .int .i64 k, .slice xb nb cb] w fun e w' => e = .returned (.bool true) ∧ Below w.heap.size w w' := by
  have hF : Calls Try.prog 7 #[.int .i64 64, .slice none 0 0] w fun e w' => ∃ y c', e = .returned (.slice y 64 c') ∧ OwnK secE w' w.heap.size (.slice y 64 c') (fillL 64 []) ∧ Below w.heap.size w w' := fill_any 64 (by omega) none 0 0 [] w rfl (.inl ⟨rfl, rfl⟩)
  go_enter Try.func3, Try.ntmps3
  go_wp2_with fail
  refine hF.mono ?_
  rintro e w1 ⟨y, c, rfl, hO, hB1⟩
  clear hF
  have hN := O.made w1 y 64 c (fillL 64 []) (fillL_len _ _) (hO.isK secE_ok) (by omega) (by omega)
  go_wp2_with fail
  refine hN.mono ?_
  rintro e w2 ⟨a, rfl, hD⟩
  replace hD := hD.since hB1 hB1.size
  clear hN hO hB1
  go_wp2_with fail
  refine (knownDev O Z w2).mono ?_
  rintro e w3 ⟨rfl, hB⟩
  replace hD := hD.later O hB
  clear hB
  have hC := hD.stop O k hk1 hk2
  go_wp2_with fail
  refine hC.mono ?_
  rintro e w4 ⟨rfl, hD', -⟩
  clear hD hC
  replace hD := hD'
  clear hD'
  go_wp2_with fail
  go_loopw [9, 10] (fun vd v wr => ∃ (i dn : Nat) (st : DSt), i ≤ n ∧ dn = doneN k i ∧ vd = .int .i64 dn ∧ v = .int .i64 i ∧ Stp k i st ∧ DevAt DevIs w.heap.size w [] wr (.pointer (some a)) st) (fun _ v _ => n - (intOf v).toNat)
  case atStart => exact ⟨0, 0, _, by omega, by unfold doneN; split <;> simp, rfl, rfl, Stp.start k [], hD⟩
  case round =>
    clear hD
    obtain ⟨i, dn, st, hi, hdn, rfl, rfl, hR, hD⟩ := hrel
    have hpm : st.pend.length ≤ 1099511627776 := by have := hR.pend; omega
    have hbo1 := hR.bounds.1
    have hbo2 := hR.bounds.2
    by_cases hlt : i < n
    · obtain ⟨⟨okd, oat, ov⟩, ho⟩ : ∃ o, os[i]? = some o := ⟨os[i]'(by omega), List.getElem?_eq_getElem (by omega)⟩
      obtain ⟨bo, po, rfl, hbo, -, -, kv, -⟩ := (hs.kept hD.below).at i _ ho
      simp only at kv
      have i0 : (0 : Int) ≤ (i : Int) := by omega
      have i1 : (i : Int) < (n : Int) := by omega
      clear ho
      have hgo : ∀ {st' : DSt} {wv : World}, Stp k (i + 1) st' → DevAt DevIs w.heap.size w [] wv (.pointer (some a)) st' → True := fun _ _ => trivial
      clear hgo
      by_cases hv : (ov.toNat : Int) = 0
      · rw [hv] at kv
        have hC := hD.flush O hpm (by omega)
        obtain ⟨hr1, hR1⟩ := hR.flush
        rw [hr1] at hC
        generalize flSt st = st' at hC hR1
        by_cases hc : k < 0 ∨ (i : Int) < k
        · have hr : stopRes k i = 0 := if_pos hc
          rw [hr] at hC
          go_wp2_with fail
          refine hC.mono ?_
          rintro e wv ⟨rfl, hD', -⟩
          clear hC hD kv hbo
          have hdd := (doneN_go k i hc).2
          rw [(doneN_go k i hc).1] at hdn
          subst hdn
          have HD : Hid _ := hD'
          clear hD'
          rcases hc with hc | hc
          · go_wp2
            go_roundw
            case rel => exact ⟨dn + 1, dn + 1, st', by omega, hdd.symm, by go_num, by go_num, hR1, HD.out⟩
            case measure => simp [intOf]; omega
          · have hk0 : ¬ k < 0 := by omega
            go_wp2
            go_roundw
            case rel => exact ⟨dn + 1, dn + 1, st', by omega, hdd.symm, by go_num, by go_num, hR1, HD.out⟩
            case measure => simp [intOf]; omega
        · have hr : stopRes k i = 21 := if_neg hc
          rw [hr] at hC
          go_wp2_with fail
          refine hC.mono ?_
          rintro e wv ⟨rfl, hD', -⟩
          clear hC hD kv hbo
          have hdd := doneN_stop k i hc
          rw [← hdn] at hdd
          have hk0 : ¬ k < 0 := by omega
          have hdk : ¬ (dn : Int) < k := by omega
          have HD : Hid _ := hD'
          have HE : Hid (dn = doneN k (i + 1)) := hdd.2.symm
          clear hD' hdd hdn
          go_wp2
          go_roundw
          case rel => exact ⟨i + 1, dn, st', by omega, HE.out, rfl, by go_num, hR1, HD.out⟩
          case measure => simp [intOf]; omega
      · have hv1 : ((ov.toNat : Int) == 0) = false := by simpa using hv
        obtain ⟨m, hm⟩ : ∃ m, ov.toNat % 64 = m := ⟨_, rfl⟩
        have hm1 : (ov.toNat : Int).tmod 64 = (m : Int) := by rw [← hm]; exact (Int.ofNat_tmod _ _).symm
        have hm2 : m < 64 := by omega
        have hvr : IntKind.i64.wrap (ov.toNat : Int) = (ov.toNat : Int) := by have := UInt8.toNat_lt ov; rw [IntKind.wrap_i64]; omega
        obtain ⟨hr1, hR1⟩ := hR.write m (sectorD ov) hm2
        go_upto_region 12 with fail
        refine wp_reliesT [Fx (.pointer (some a)), Fx (.slice (some ⟨bo, po, none⟩) n cs), Fx (.int .i64 (i : Nat)), Fx (.pointer (some ⟨bo, po + i * 5, none⟩)), Fx (.pointer (some ⟨bo, po + i * 5 + 3, none⟩)), Fx (.int .u8 (ov.toNat : Int)), Fx (.int .i64 (ov.toNat : Int)), Fx (.int .i64 (m : Nat)), Fx (.slice (some ⟨bo, po, none⟩) n cs), Fx (.int .i64 (i : Nat)), Fx (.pointer (some ⟨bo, po + i * 5, none⟩)), Fx (.pointer (some ⟨bo, po + i * 5 + 3, none⟩)), Fx (.int .u8 (ov.toNat : Int)), Fx (.agg (secA (sectorD ov)))] (by kernel_rfl) (by kernel_rfl) ?_ ?_ ?_
        · repeat' (first | exact all_nil | apply all_cons)
          all_goals intro v y y' hv hb
          all_goals first | exact Fx_mono _ _ _ _ hv hb
        · refine ⟨?_, ?_, ?_, ?_, ?_, ?_, ?_, ?_, ?_, ?_, ?_, ?_, ?_, ?_, trivial⟩
          all_goals
            intro ρ x hp ρc ρg ρf ho hd
            have o0 : ρ (.tmp 0) = .slice (some ⟨bo, po, none⟩) n cs := ho 0 rfl
            have o7 : ρ (.tmp 7) = .pointer (some a) := ho 7 rfl
            have o10 : ρ (.tmp 10) = .int .i64 (i : Nat) := ho 10 rfl
            clear ho
            have q3 := cell_later hp kv
            simp only [depsR, depR, slotR, Fx, List.getElem?_cons_succ, List.getElem?_cons_zero, Region.binds, forall_const] at hd
            simp only [guardR]
            go_split_ands
          · go_simp
          · go_simp
          · go_simp
          · go_simp
          · go_simp
          · go_simp
          · go_simp
          · go_simp
          · go_simp
          · go_simp
          · go_simp
          · go_simp
          · go_simp
          · go_simp
            refine (sector_any ov x).mono ?_
            rintro e x' ⟨rfl, hb⟩
            exact ⟨_, rfl, rfl, hb⟩
        · intro vs x12 hp hw
          simp only [owed, Fx] at hw
          obtain ⟨e0, e1, e2, e3, e4, e5, e6, e7, e8, e9, e10, e11, e12, e13, -⟩ := hw
          simp only [List.length_cons, List.length_nil, List.take_succ_cons, List.take_zero, List.drop_succ_cons, List.drop_zero, asg, List.cons_append, List.nil_append, e0, e1, e2, e3, e4, e5, e6, e7, e8, e9, e10, e11, e12, e13]
          clear e0 e1 e2 e3 e4 e5 e6 e7 e8 e9 e10 e11 e12 e13
          have hC := (hD.later O hp).write O (m : Int) (sectorD ov) hpm (by omega) (by omega) (by omega)
          rw [hr1] at hC
          generalize wrSt st (m : Int) (sectorD ov) = st' at hC hR1
          clear hD hp kv hbo
          by_cases hc : k < 0 ∨ (i : Int) < k
          · have hr : stopRes k i = 0 := if_pos hc
            rw [hr] at hC
            go_wp2_with fail
            refine hC.mono ?_
            rintro e wv ⟨rfl, hD', -⟩
            clear hC
            have hdd := (doneN_go k i hc).2
            rw [(doneN_go k i hc).1] at hdn
            subst hdn
            have HD : Hid _ := hD'
            clear hD'
            rcases hc with hc | hc
            · go_wp2
              go_roundw
              case rel => exact ⟨dn + 1, dn + 1, st', by omega, hdd.symm, by go_num, by go_num, hR1, HD.out⟩
              case measure => simp [intOf]; omega
            · have hk0 : ¬ k < 0 := by omega
              go_wp2
              go_roundw
              case rel => exact ⟨dn + 1, dn + 1, st', by omega, hdd.symm, by go_num, by go_num, hR1, HD.out⟩
              case measure => simp [intOf]; omega
          · have hr : stopRes k i = 21 := if_neg hc
            rw [hr] at hC
            go_wp2_with fail
            refine hC.mono ?_
            rintro e wv ⟨rfl, hD', -⟩
            clear hC
            have hdd := doneN_stop k i hc
            rw [← hdn] at hdd
            have hk0 : ¬ k < 0 := by omega
            have hdk : ¬ (dn : Int) < k := by omega
            have HD : Hid _ := hD'
            have HE : Hid (dn = doneN k (i + 1)) := hdd.2.symm
            clear hD' hdd hdn
            go_wp2
            go_roundw
            case rel => exact ⟨i + 1, dn, st', by omega, HE.out, rfl, by go_num, hR1, HD.out⟩
            case measure => simp [intOf]; omega
    · obtain rfl : i = n := by omega
      have hC := hD.acts O
      have hsum : IntKind.i64.wrap ((st.wt : Int) + (st.fl : Int)) = (dn : Int) := by
        have := hR.cnt
        rw [← hdn] at this
        rw [IntKind.wrap_i64]; omega
      go_wp2_with fail
      refine hC.mono ?_
      rintro e u1 ⟨rfl, hB⟩
      replace hD := hD.later O hB
      clear hC hB
      have hC := hD.down O
      go_wp2_with fail
      refine hC.mono ?_
      rintro e u2 ⟨rfl, hB⟩
      replace hD := hD.later O hB
      clear hC hB
      have hdw := hR.down
      rw [hdw]
      by_cases h0 : k < 0
      · rw [decide_eq_false (by omega)]
        have h0' : ¬ (0 : Int) ≤ k := by omega
        have hC := hD.durable O 64 hR.len
        go_wp2_with fail
        refine hC.mono ?_
        rintro e u3 ⟨yw, cw, rfl, hW, hB⟩
        obtain ⟨gw, rfl, hgw⟩ := hW.form (by rw [hR.len]; omega)
        have hwl : w.heap.size ≤ gw := by have := hD.size; have := (World.ownsRow.lt hW gw rfl).1; omega
        replace hD := hD.own O hB hW
        clear hC hB
        obtain ⟨np, hnp⟩ : ∃ n, st.pend.length = n := ⟨_, rfl⟩
        have hC := hD.pending O hpm np hnp
        go_wp2_with fail
        refine hC.mono ?_
        rintro e u4 ⟨yp, cp, rfl, hP, hB⟩
        replace hW := hW.keep hB
        have hpl := fun q hq => (World.ownsRow.lt hP q hq).1
        replace hD := (hD.later O hB).drop (A' := [gw]) (by simp [Value.ownBlock])
        have hok := hD.ok O
        have hub := hD.below
        clear hC hB
        go_wp2_with fail
        go_loopw [17] (fun v wr => ∃ j : Nat, j ≤ np ∧ j ≤ nb ∧ v = .int .i64 j ∧ OwnK secE wr u2.heap.size (.slice (some ⟨gw, 0, none⟩) 64 cw) (over st.last (pickL (st.pend.take j) bs)) ∧ Keep [gw] u4 wr) (fun v _ => np - (intOf v).toNat)
        case atStart => exact ⟨0, by omega, by omega, rfl, by simpa [pickL, over] using hW, Keep.refl _ _⟩
        case round =>
          clear hW
          obtain ⟨j, hj, hjb, rfl, hW, hK⟩ := hrel
          have j0 : (0 : Int) ≤ (j : Int) := by omega
          by_cases hcc : j < np ∧ j < nb
          · obtain ⟨hlt2, hlb⟩ := hcc
            have j1 : (j : Int) < (np : Int) := by omega
            have j2 : (j : Int) < (nb : Int) := by omega
            obtain ⟨x, hx⟩ : ∃ x, st.pend[j]? = some x := ⟨st.pend[j]'(by omega), List.getElem?_eq_getElem (by omega)⟩
            obtain ⟨b, hbj⟩ : ∃ b, bs[j]? = some b := ⟨bs[j]'(by omega), List.getElem?_eq_getElem (by omega)⟩
            obtain ⟨bb, bo, hxb, hbb, hbc⟩ := (hb.kept hub).spot j (by rw [List.length_map]; omega)
            have hbk := hbc j (.bool b) (by rw [List.getElem?_map, hbj]; rfl)
            have hbb0 : bb < w.heap.size := by
              obtain ⟨b2, o2, h2, h3, -⟩ := hb.spot j (by rw [List.length_map]; omega)
              rw [hxb] at h2
              cases h2
              exact h3
            have hbk2 : wr.cell? ⟨bb, bo + j, none⟩ = some (.bool b) := by
              rw [← hbk]
              unfold World.cell?
              rw [hK.block bb hbb (by simp only [List.mem_singleton]; omega)]
            subst hxb
            have hps := pick_step st.pend bs j x b hx hbj
            cases b with
            | false =>
              simp only [Bool.false_eq_true, if_false, List.append_nil] at hps
              rw [← hps] at hW
              have HO : Hid _ := hW
              have HK : Hid _ := hK
              clear hW hK hx hbj hbk hbc hps hP hpl hD hok
              go_wp2
              go_roundw
              case rel => exact ⟨j + 1, by omega, by omega, by go_num, HO.out, HK.out⟩
              case measure => simp [intOf]; omega
            | true =>
              simp only [if_true] at hps
              obtain ⟨m, hm, hml⟩ := pend_at hok hx
              rw [hR.len] at hml
              have hPw := hP.keeps hK (fun q hq => by have := hpl q hq; simp only [List.mem_singleton]; omega)
              obtain ⟨gp, rfl, hgp⟩ := hPw.form (by omega)
              obtain ⟨d0, dok, drg⟩ := wrCells hPw j x hx
              rw [hm] at d0
              obtain ⟨s, hsx⟩ : ∃ s, x.2 = s := ⟨_, rfl⟩
              rw [hsx] at drg
              have HX : Hid (over st.last (pickL (st.pend.take (j + 1)) bs) = (over st.last (pickL (st.pend.take j) bs)).set m s) := by
                show _ = _
                rw [hps, over_snoc, hm, hsx]; rfl
              have m0 : (0 : Int) ≤ (m : Int) := by omega
              have m1 : (m : Int) < 64 := by omega
              clear hx hm hsx hPw hD hbj hbk hbc hps hok
              go_upto_region 26 with fail
              refine wp_reliesT [Fx (.slice (some ⟨gw, 0, none⟩) 64 cw), Fx (.slice (some ⟨gp, 0, none⟩) np cp), Fx (.int .i64 (j : Nat)), Fx (.pointer (some ⟨gp, j * 65, none⟩)), Fx (.pointer (some ⟨gp, j * 65, none⟩)), Fx (.int .i64 (m : Nat)), Fx (.slice (some ⟨gp, 0, none⟩) np cp), Fx (.int .i64 (j : Nat)), Fx (.pointer (some ⟨gp, j * 65, none⟩)), Fx (.pointer (some ⟨gp, j * 65 + 1, none⟩)), Fx (.agg (secA s)), Fx (.pointer (some ⟨gw, m * 64, none⟩))] (by kernel_rfl) (by kernel_rfl) ?_ ?_ ?_
              · repeat' (first | exact all_nil | apply all_cons)
                all_goals intro v y y' hv hb
                all_goals first | exact Fx_mono _ _ _ _ hv hb
              · refine ⟨?_, ?_, ?_, ?_, ?_, ?_, ?_, ?_, ?_, ?_, ?_, ?_, trivial⟩
                all_goals
                  intro ρ x hp ρc ρg ρf ho hd
                  have o15 : ρ (.tmp 15) = .slice (some ⟨gw, 0, none⟩) 64 cw := ho 15 rfl
                  have o16 : ρ (.tmp 16) = .slice (some ⟨gp, 0, none⟩) np cp := ho 16 rfl
                  have o17 : ρ (.tmp 17) = .int .i64 (j : Nat) := ho 17 rfl
                  clear ho
                  have q2 := cell_later hp d0
                  have g1 := rg_later hp hgp (j * 65 + 1) 64
                  have q3 := g1.1.trans dok
                  have q4 := g1.2.trans drg
                  clear g1
                  simp only [depsR, depR, slotR, Fx, List.getElem?_cons_succ, List.getElem?_cons_zero, Region.binds, forall_const] at hd
                  simp only [guardR]
                  go_split_ands
                · go_simp
                · go_simp
                · go_simp
                · go_simp
                · go_simp
                · go_simp
                · go_simp
                · go_simp
                · go_simp
                · go_simp
                · go_simp
                · go_simp
              · intro vs x26 hp hw
                simp only [owed, Fx] at hw
                obtain ⟨e0, e1, e2, e3, e4, e5, e6, e7, e8, e9, e10, e11, -⟩ := hw
                simp only [List.length_cons, List.length_nil, List.take_succ_cons, List.take_zero, List.drop_succ_cons, List.drop_zero, asg, List.cons_append, List.nil_append, e0, e1, e2, e3, e4, e5, e6, e7, e8, e9, e10, e11]
                clear e0 e1 e2 e3 e4 e5 e6 e7 e8 e9 e10 e11
                have hst := secStore_mid (hW.keep hp) m s (by omega)
                have hO2 := secPut (hW.keep hp) m s (by omega)
                rw [← HX.out] at hO2
                have HO : Hid _ := hO2
                have HK : Hid (Keep [gw] u4 (x26.setCells gw (m * 64) (secA s).toList)) := (hK.trans (Keep.of_below hp)).trans (Keep.of_grown (grown_setC x26 gw (m * 64) (secA s).toList) (fun q hq => by cases hq; simp))
                clear hW hK hO2 hp d0 dok drg hP hbk2
                go_wp2
                go_roundw
                case rel => exact ⟨j + 1, by omega, by omega, by go_num, HO.out, HK.out⟩
                case measure => simp [intOf]; omega
          · rw [pick_end st.pend bs j (by omega)] at hW
            replace hD := hD.aside O hK (by simpa using hwl)
            clear hP hK hpl hub hok
            have hbw := hb.kept hD.below
            have hv0 : OwnG 4 (wr.alloc (.cells #[] 4)) wr.heap.size (.slice (some ⟨wr.heap.size, 0, none⟩) 0 0) [] := OwnG.lit 4 wr [] (by simp)
            obtain ⟨yb, c9, w9, hr9, hG9, hle9, hBw⟩ := run_copyBools (wr.alloc (.cells #[] 4)) _ wr.heap.size xb nb cb bs 23 hv0 (by simp) hbl (hbw.kept (below_alloc _ _)) hnb
            have hB9 : Below wr.heap.size wr w9 := (below_alloc wr _).trans hBw
            replace hD := hD.ownG O hB9 hG9
            replace hW := hW.keep hB9
            have hC := hD.restart O yb nb c9 bs hpm hbl hle9 hG9.isG (fun x hx => by subst hx; simp [Value.ownBlock])
            have hRn : Runs 64 i (reSt st bs) := reRuns st bs i 64 hR.len hbo1 hbo2
            have hl5 : (reSt st bs).last = over st.last (pickL st.pend bs) := rfl
            have hp5 : (reSt st bs).pend = [] := rfl
            clear hD hv0 hbw hB9 hBw hG9
            generalize reSt st bs = st5 at hC hRn hl5 hp5
            generalize over st.last (pickL st.pend bs) = LL at hW hl5
            have hLL : LL.length = 64 := by rw [← hl5]; exact hRn.len
            by_cases hlt2 : j < np
            · have j1 : (j : Int) < (np : Int) := by omega
              have j2 : ¬ (j : Int) < (nb : Int) := by omega
              go_wp2_with (at_builtin; refine wpL_appG 23 rfl _ _ rfl _ w9 (by exact hr9) ?_)
              refine hC.mono ?_
              rintro e v1 ⟨rfl, hD, hH⟩
              replace hW := hW.held hH (by simp [Value.ownBlock])
              clear hC hH hr9
              have hC := hD.durable O 64 hRn.len
              rw [hl5] at hC
              go_wp2_with fail
              refine hC.mono ?_
              rintro e v2 ⟨y2, c2, rfl, hS, hB⟩
              replace hW := hW.keep hB
              replace hD := hD.later O hB
              have hE := sameS_any y2 (some ⟨gw, 0, none⟩) c2 cw 64 64 LL LL v2 hLL hLL (hS.isK secE_ok) (hW.isK secE_ok) (by omega)
              rw [decide_eq_true rfl] at hE
              clear hC hB hS
              go_wp2_with fail
              refine hE.mono ?_
              rintro e v3 ⟨rfl, hB⟩
              replace hW := hW.keep hB
              replace hD := hD.later O hB
              clear hE hB
              have hC := hD.sectors O (by rw [hp5]; simp) 64 hRn.len
              rw [hl5, hp5] at hC
              go_wp2_with fail
              refine hC.mono ?_
              rintro e v4 ⟨y4, c4, rfl, hS, hB⟩
              replace hW := hW.keep hB
              replace hD := hD.later O hB
              have hE := sameS_any y4 (some ⟨gw, 0, none⟩) c4 cw 64 64 LL LL v4 hLL hLL (hS.isK secE_ok) (hW.isK secE_ok) (by omega)
              rw [decide_eq_true rfl] at hE
              clear hC hB hS
              go_wp2_with fail
              refine hE.mono ?_
              rintro e v5 ⟨rfl, hB⟩
              replace hD := hD.later O hB
              clear hE hB hW
              have hC := hD.pending O (by rw [hp5]; simp) 0 (by rw [hp5]; rfl)
              go_wp2_with fail
              refine hC.mono ?_
              rintro e v6 ⟨y6, c6, rfl, -, hB⟩
              replace hD := hD.later O hB
              clear hC hB
              have hC := hD.down O
              rw [hRn.down] at hC
              go_wp2_with fail
              refine hC.mono ?_
              rintro e v7 ⟨rfl, hB⟩
              replace hD := hD.later O hB
              clear hC hB
              have hS1 : Calls Try.prog 12 #[.int .u8 1] v7 fun e w' => e = .returned (.agg (secA (sectorD 1))) ∧ Below v7.heap.size v7 w' := sector_any 1 v7
              go_wp2_with fail
              refine hS1.mono ?_
              rintro e v8 ⟨rfl, hB⟩
              replace hD := hD.later O hB
              clear hS1 hB
              have hw5 := hRn.wt
              have hf5 := hRn.fl
              have hC := hD.write O 0 (sectorD 1) (by rw [hp5]; simp) (by omega) (by omega) (by omega)
              rw [hRn.wr 0 (by omega)] at hC
              go_wp2_with fail
              refine hC.mono ?_
              rintro e v9 ⟨rfl, hD9, -⟩
              have hR9 := hRn.write 0 (sectorD 1)
              generalize wrSt st5 0 (sectorD 1) = st9 at hD9 hR9
              have hp9 := hR9.pend
              have hf9 := hR9.fl
              clear hC hD
              have hC := hD9.flush O (by omega) (by omega)
              rw [hR9.fr] at hC
              go_wp2_with fail
              refine hC.mono ?_
              rintro e vz ⟨rfl, hDz, -⟩
              have HB : Hid _ := hDz.below
              clear hC hDz hD9
              go_wp2
              go_ret
              exact ⟨rfl, HB.out⟩
            · have j1 : ¬ (j : Int) < (np : Int) := by omega
              go_wp2_with (at_builtin; refine wpL_appG 23 rfl _ _ rfl _ w9 (by exact hr9) ?_)
              refine hC.mono ?_
              rintro e v1 ⟨rfl, hD, hH⟩
              replace hW := hW.held hH (by simp [Value.ownBlock])
              clear hC hH hr9
              have hC := hD.durable O 64 hRn.len
              rw [hl5] at hC
              go_wp2_with fail
              refine hC.mono ?_
              rintro e v2 ⟨y2, c2, rfl, hS, hB⟩
              replace hW := hW.keep hB
              replace hD := hD.later O hB
              have hE := sameS_any y2 (some ⟨gw, 0, none⟩) c2 cw 64 64 LL LL v2 hLL hLL (hS.isK secE_ok) (hW.isK secE_ok) (by omega)
              rw [decide_eq_true rfl] at hE
              clear hC hB hS
              go_wp2_with fail
              refine hE.mono ?_
              rintro e v3 ⟨rfl, hB⟩
              replace hW := hW.keep hB
              replace hD := hD.later O hB
              clear hE hB
              have hC := hD.sectors O (by rw [hp5]; simp) 64 hRn.len
              rw [hl5, hp5] at hC
              go_wp2_with fail
              refine hC.mono ?_
              rintro e v4 ⟨y4, c4, rfl, hS, hB⟩
              replace hW := hW.keep hB
              replace hD := hD.later O hB
              have hE := sameS_any y4 (some ⟨gw, 0, none⟩) c4 cw 64 64 LL LL v4 hLL hLL (hS.isK secE_ok) (hW.isK secE_ok) (by omega)
              rw [decide_eq_true rfl] at hE
              clear hC hB hS
              go_wp2_with fail
              refine hE.mono ?_
              rintro e v5 ⟨rfl, hB⟩
              replace hD := hD.later O hB
              clear hE hB hW
              have hC := hD.pending O (by rw [hp5]; simp) 0 (by rw [hp5]; rfl)
              go_wp2_with fail
              refine hC.mono ?_
              rintro e v6 ⟨y6, c6, rfl, -, hB⟩
              replace hD := hD.later O hB
              clear hC hB
              have hC := hD.down O
              rw [hRn.down] at hC
              go_wp2_with fail
              refine hC.mono ?_
              rintro e v7 ⟨rfl, hB⟩
              replace hD := hD.later O hB
              clear hC hB
              have hS1 : Calls Try.prog 12 #[.int .u8 1] v7 fun e w' => e = .returned (.agg (secA (sectorD 1))) ∧ Below v7.heap.size v7 w' := sector_any 1 v7
              go_wp2_with fail
              refine hS1.mono ?_
              rintro e v8 ⟨rfl, hB⟩
              replace hD := hD.later O hB
              clear hS1 hB
              have hw5 := hRn.wt
              have hf5 := hRn.fl
              have hC := hD.write O 0 (sectorD 1) (by rw [hp5]; simp) (by omega) (by omega) (by omega)
              rw [hRn.wr 0 (by omega)] at hC
              go_wp2_with fail
              refine hC.mono ?_
              rintro e v9 ⟨rfl, hD9, -⟩
              have hR9 := hRn.write 0 (sectorD 1)
              generalize wrSt st5 0 (sectorD 1) = st9 at hD9 hR9
              have hp9 := hR9.pend
              have hf9 := hR9.fl
              clear hC hD
              have hC := hD9.flush O (by omega) (by omega)
              rw [hR9.fr] at hC
              go_wp2_with fail
              refine hC.mono ?_
              rintro e vz ⟨rfl, hDz, -⟩
              have HB : Hid _ := hDz.below
              clear hC hDz hD9
              go_wp2
              go_ret
              exact ⟨rfl, HB.out⟩
      · have h0' : (0 : Int) ≤ k := by omega
        by_cases h1 : k < (i : Int)
        · rw [decide_eq_true (by omega)]
          have hC := hD.durable O 64 hR.len
          go_wp2_with fail
          refine hC.mono ?_
          rintro e u3 ⟨yw, cw, rfl, hW, hB⟩
          obtain ⟨gw, rfl, hgw⟩ := hW.form (by rw [hR.len]; omega)
          have hwl : w.heap.size ≤ gw := by have := hD.size; have := (World.ownsRow.lt hW gw rfl).1; omega
          replace hD := hD.own O hB hW
          clear hC hB
          obtain ⟨np, hnp⟩ : ∃ n, st.pend.length = n := ⟨_, rfl⟩
          have hC := hD.pending O hpm np hnp
          go_wp2_with fail
          refine hC.mono ?_
          rintro e u4 ⟨yp, cp, rfl, hP, hB⟩
          replace hW := hW.keep hB
          have hpl := fun q hq => (World.ownsRow.lt hP q hq).1
          replace hD := (hD.later O hB).drop (A' := [gw]) (by simp [Value.ownBlock])
          have hok := hD.ok O
          have hub := hD.below
          clear hC hB
          go_wp2_with fail
          go_loopw [17] (fun v wr => ∃ j : Nat, j ≤ np ∧ j ≤ nb ∧ v = .int .i64 j ∧ OwnK secE wr u2.heap.size (.slice (some ⟨gw, 0, none⟩) 64 cw) (over st.last (pickL (st.pend.take j) bs)) ∧ Keep [gw] u4 wr) (fun v _ => np - (intOf v).toNat)
          case atStart => exact ⟨0, by omega, by omega, rfl, by simpa [pickL, over] using hW, Keep.refl _ _⟩
          case round =>
            clear hW
            obtain ⟨j, hj, hjb, rfl, hW, hK⟩ := hrel
            have j0 : (0 : Int) ≤ (j : Int) := by omega
            by_cases hcc : j < np ∧ j < nb
            · obtain ⟨hlt2, hlb⟩ := hcc
              have j1 : (j : Int) < (np : Int) := by omega
              have j2 : (j : Int) < (nb : Int) := by omega
              obtain ⟨x, hx⟩ : ∃ x, st.pend[j]? = some x := ⟨st.pend[j]'(by omega), List.getElem?_eq_getElem (by omega)⟩
              obtain ⟨b, hbj⟩ : ∃ b, bs[j]? = some b := ⟨bs[j]'(by omega), List.getElem?_eq_getElem (by omega)⟩
              obtain ⟨bb, bo, hxb, hbb, hbc⟩ := (hb.kept hub).spot j (by rw [List.length_map]; omega)
              have hbk := hbc j (.bool b) (by rw [List.getElem?_map, hbj]; rfl)
              have hbb0 : bb < w.heap.size := by
                obtain ⟨b2, o2, h2, h3, -⟩ := hb.spot j (by rw [List.length_map]; omega)
                rw [hxb] at h2
                cases h2
                exact h3
              have hbk2 : wr.cell? ⟨bb, bo + j, none⟩ = some (.bool b) := by
                rw [← hbk]
                unfold World.cell?
                rw [hK.block bb hbb (by simp only [List.mem_singleton]; omega)]
              subst hxb
              have hps := pick_step st.pend bs j x b hx hbj
              cases b with
              | false =>
                simp only [Bool.false_eq_true, if_false, List.append_nil] at hps
                rw [← hps] at hW
                have HO : Hid _ := hW
                have HK : Hid _ := hK
                clear hW hK hx hbj hbk hbc hps hP hpl hD hok
                go_wp2
                go_roundw
                case rel => exact ⟨j + 1, by omega, by omega, by go_num, HO.out, HK.out⟩
                case measure => simp [intOf]; omega
              | true =>
                simp only [if_true] at hps
                obtain ⟨m, hm, hml⟩ := pend_at hok hx
                rw [hR.len] at hml
                have hPw := hP.keeps hK (fun q hq => by have := hpl q hq; simp only [List.mem_singleton]; omega)
                obtain ⟨gp, rfl, hgp⟩ := hPw.form (by omega)
                obtain ⟨d0, dok, drg⟩ := wrCells hPw j x hx
                rw [hm] at d0
                obtain ⟨s, hsx⟩ : ∃ s, x.2 = s := ⟨_, rfl⟩
                rw [hsx] at drg
                have HX : Hid (over st.last (pickL (st.pend.take (j + 1)) bs) = (over st.last (pickL (st.pend.take j) bs)).set m s) := by
                  show _ = _
                  rw [hps, over_snoc, hm, hsx]; rfl
                have m0 : (0 : Int) ≤ (m : Int) := by omega
                have m1 : (m : Int) < 64 := by omega
                clear hx hm hsx hPw hD hbj hbk hbc hps hok
                go_upto_region 26 with fail
                refine wp_reliesT [Fx (.slice (some ⟨gw, 0, none⟩) 64 cw), Fx (.slice (some ⟨gp, 0, none⟩) np cp), Fx (.int .i64 (j : Nat)), Fx (.pointer (some ⟨gp, j * 65, none⟩)), Fx (.pointer (some ⟨gp, j * 65, none⟩)), Fx (.int .i64 (m : Nat)), Fx (.slice (some ⟨gp, 0, none⟩) np cp), Fx (.int .i64 (j : Nat)), Fx (.pointer (some ⟨gp, j * 65, none⟩)), Fx (.pointer (some ⟨gp, j * 65 + 1, none⟩)), Fx (.agg (secA s)), Fx (.pointer (some ⟨gw, m * 64, none⟩))] (by kernel_rfl) (by kernel_rfl) ?_ ?_ ?_
                · repeat' (first | exact all_nil | apply all_cons)
                  all_goals intro v y y' hv hb
                  all_goals first | exact Fx_mono _ _ _ _ hv hb
                · refine ⟨?_, ?_, ?_, ?_, ?_, ?_, ?_, ?_, ?_, ?_, ?_, ?_, trivial⟩
                  all_goals
                    intro ρ x hp ρc ρg ρf ho hd
                    have o15 : ρ (.tmp 15) = .slice (some ⟨gw, 0, none⟩) 64 cw := ho 15 rfl
                    have o16 : ρ (.tmp 16) = .slice (some ⟨gp, 0, none⟩) np cp := ho 16 rfl
                    have o17 : ρ (.tmp 17) = .int .i64 (j : Nat) := ho 17 rfl
                    clear ho
                    have q2 := cell_later hp d0
                    have g1 := rg_later hp hgp (j * 65 + 1) 64
                    have q3 := g1.1.trans dok
                    have q4 := g1.2.trans drg
                    clear g1
                    simp only [depsR, depR, slotR, Fx, List.getElem?_cons_succ, List.getElem?_cons_zero, Region.binds, forall_const] at hd
                    simp only [guardR]
                    go_split_ands
                  · go_simp
                  · go_simp
                  · go_simp
                  · go_simp
                  · go_simp
                  · go_simp
                  · go_simp
                  · go_simp
                  · go_simp
                  · go_simp
                  · go_simp
                  · go_simp
                · intro vs x26 hp hw
                  simp only [owed, Fx] at hw
                  obtain ⟨e0, e1, e2, e3, e4, e5, e6, e7, e8, e9, e10, e11, -⟩ := hw
                  simp only [List.length_cons, List.length_nil, List.take_succ_cons, List.take_zero, List.drop_succ_cons, List.drop_zero, asg, List.cons_append, List.nil_append, e0, e1, e2, e3, e4, e5, e6, e7, e8, e9, e10, e11]
                  clear e0 e1 e2 e3 e4 e5 e6 e7 e8 e9 e10 e11
                  have hst := secStore_mid (hW.keep hp) m s (by omega)
                  have hO2 := secPut (hW.keep hp) m s (by omega)
                  rw [← HX.out] at hO2
                  have HO : Hid _ := hO2
                  have HK : Hid (Keep [gw] u4 (x26.setCells gw (m * 64) (secA s).toList)) := (hK.trans (Keep.of_below hp)).trans (Keep.of_grown (grown_setC x26 gw (m * 64) (secA s).toList) (fun q hq => by cases hq; simp))
                  clear hW hK hO2 hp d0 dok drg hP hbk2
                  go_wp2
                  go_roundw
                  case rel => exact ⟨j + 1, by omega, by omega, by go_num, HO.out, HK.out⟩
                  case measure => simp [intOf]; omega
            · rw [pick_end st.pend bs j (by omega)] at hW
              replace hD := hD.aside O hK (by simpa using hwl)
              clear hP hK hpl hub hok
              have hbw := hb.kept hD.below
              have hv0 : OwnG 4 (wr.alloc (.cells #[] 4)) wr.heap.size (.slice (some ⟨wr.heap.size, 0, none⟩) 0 0) [] := OwnG.lit 4 wr [] (by simp)
              obtain ⟨yb, c9, w9, hr9, hG9, hle9, hBw⟩ := run_copyBools (wr.alloc (.cells #[] 4)) _ wr.heap.size xb nb cb bs 23 hv0 (by simp) hbl (hbw.kept (below_alloc _ _)) hnb
              have hB9 : Below wr.heap.size wr w9 := (below_alloc wr _).trans hBw
              replace hD := hD.ownG O hB9 hG9
              replace hW := hW.keep hB9
              have hC := hD.restart O yb nb c9 bs hpm hbl hle9 hG9.isG (fun x hx => by subst hx; simp [Value.ownBlock])
              have hRn : Runs 64 i (reSt st bs) := reRuns st bs i 64 hR.len hbo1 hbo2
              have hl5 : (reSt st bs).last = over st.last (pickL st.pend bs) := rfl
              have hp5 : (reSt st bs).pend = [] := rfl
              clear hD hv0 hbw hB9 hBw hG9
              generalize reSt st bs = st5 at hC hRn hl5 hp5
              generalize over st.last (pickL st.pend bs) = LL at hW hl5
              have hLL : LL.length = 64 := by rw [← hl5]; exact hRn.len
              by_cases hlt2 : j < np
              · have j1 : (j : Int) < (np : Int) := by omega
                have j2 : ¬ (j : Int) < (nb : Int) := by omega
                go_wp2_with (at_builtin; refine wpL_appG 23 rfl _ _ rfl _ w9 (by exact hr9) ?_)
                refine hC.mono ?_
                rintro e v1 ⟨rfl, hD, hH⟩
                replace hW := hW.held hH (by simp [Value.ownBlock])
                clear hC hH hr9
                have hC := hD.durable O 64 hRn.len
                rw [hl5] at hC
                go_wp2_with fail
                refine hC.mono ?_
                rintro e v2 ⟨y2, c2, rfl, hS, hB⟩
                replace hW := hW.keep hB
                replace hD := hD.later O hB
                have hE := sameS_any y2 (some ⟨gw, 0, none⟩) c2 cw 64 64 LL LL v2 hLL hLL (hS.isK secE_ok) (hW.isK secE_ok) (by omega)
                rw [decide_eq_true rfl] at hE
                clear hC hB hS
                go_wp2_with fail
                refine hE.mono ?_
                rintro e v3 ⟨rfl, hB⟩
                replace hW := hW.keep hB
                replace hD := hD.later O hB
                clear hE hB
                have hC := hD.sectors O (by rw [hp5]; simp) 64 hRn.len
                rw [hl5, hp5] at hC
                go_wp2_with fail
                refine hC.mono ?_
                rintro e v4 ⟨y4, c4, rfl, hS, hB⟩
                replace hW := hW.keep hB
                replace hD := hD.later O hB
                have hE := sameS_any y4 (some ⟨gw, 0, none⟩) c4 cw 64 64 LL LL v4 hLL hLL (hS.isK secE_ok) (hW.isK secE_ok) (by omega)
                rw [decide_eq_true rfl] at hE
                clear hC hB hS
                go_wp2_with fail
                refine hE.mono ?_
                rintro e v5 ⟨rfl, hB⟩
                replace hD := hD.later O hB
                clear hE hB hW
                have hC := hD.pending O (by rw [hp5]; simp) 0 (by rw [hp5]; rfl)
                go_wp2_with fail
                refine hC.mono ?_
                rintro e v6 ⟨y6, c6, rfl, -, hB⟩
                replace hD := hD.later O hB
                clear hC hB
                have hC := hD.down O
                rw [hRn.down] at hC
                go_wp2_with fail
                refine hC.mono ?_
                rintro e v7 ⟨rfl, hB⟩
                replace hD := hD.later O hB
                clear hC hB
                have hS1 : Calls Try.prog 12 #[.int .u8 1] v7 fun e w' => e = .returned (.agg (secA (sectorD 1))) ∧ Below v7.heap.size v7 w' := sector_any 1 v7
                go_wp2_with fail
                refine hS1.mono ?_
                rintro e v8 ⟨rfl, hB⟩
                replace hD := hD.later O hB
                clear hS1 hB
                have hw5 := hRn.wt
                have hf5 := hRn.fl
                have hC := hD.write O 0 (sectorD 1) (by rw [hp5]; simp) (by omega) (by omega) (by omega)
                rw [hRn.wr 0 (by omega)] at hC
                go_wp2_with fail
                refine hC.mono ?_
                rintro e v9 ⟨rfl, hD9, -⟩
                have hR9 := hRn.write 0 (sectorD 1)
                generalize wrSt st5 0 (sectorD 1) = st9 at hD9 hR9
                have hp9 := hR9.pend
                have hf9 := hR9.fl
                clear hC hD
                have hC := hD9.flush O (by omega) (by omega)
                rw [hR9.fr] at hC
                go_wp2_with fail
                refine hC.mono ?_
                rintro e vz ⟨rfl, hDz, -⟩
                have HB : Hid _ := hDz.below
                clear hC hDz hD9
                go_wp2
                go_ret
                exact ⟨rfl, HB.out⟩
              · have j1 : ¬ (j : Int) < (np : Int) := by omega
                go_wp2_with (at_builtin; refine wpL_appG 23 rfl _ _ rfl _ w9 (by exact hr9) ?_)
                refine hC.mono ?_
                rintro e v1 ⟨rfl, hD, hH⟩
                replace hW := hW.held hH (by simp [Value.ownBlock])
                clear hC hH hr9
                have hC := hD.durable O 64 hRn.len
                rw [hl5] at hC
                go_wp2_with fail
                refine hC.mono ?_
                rintro e v2 ⟨y2, c2, rfl, hS, hB⟩
                replace hW := hW.keep hB
                replace hD := hD.later O hB
                have hE := sameS_any y2 (some ⟨gw, 0, none⟩) c2 cw 64 64 LL LL v2 hLL hLL (hS.isK secE_ok) (hW.isK secE_ok) (by omega)
                rw [decide_eq_true rfl] at hE
                clear hC hB hS
                go_wp2_with fail
                refine hE.mono ?_
                rintro e v3 ⟨rfl, hB⟩
                replace hW := hW.keep hB
                replace hD := hD.later O hB
                clear hE hB
                have hC := hD.sectors O (by rw [hp5]; simp) 64 hRn.len
                rw [hl5, hp5] at hC
                go_wp2_with fail
                refine hC.mono ?_
                rintro e v4 ⟨y4, c4, rfl, hS, hB⟩
                replace hW := hW.keep hB
                replace hD := hD.later O hB
                have hE := sameS_any y4 (some ⟨gw, 0, none⟩) c4 cw 64 64 LL LL v4 hLL hLL (hS.isK secE_ok) (hW.isK secE_ok) (by omega)
                rw [decide_eq_true rfl] at hE
                clear hC hB hS
                go_wp2_with fail
                refine hE.mono ?_
                rintro e v5 ⟨rfl, hB⟩
                replace hD := hD.later O hB
                clear hE hB hW
                have hC := hD.pending O (by rw [hp5]; simp) 0 (by rw [hp5]; rfl)
                go_wp2_with fail
                refine hC.mono ?_
                rintro e v6 ⟨y6, c6, rfl, -, hB⟩
                replace hD := hD.later O hB
                clear hC hB
                have hC := hD.down O
                rw [hRn.down] at hC
                go_wp2_with fail
                refine hC.mono ?_
                rintro e v7 ⟨rfl, hB⟩
                replace hD := hD.later O hB
                clear hC hB
                have hS1 : Calls Try.prog 12 #[.int .u8 1] v7 fun e w' => e = .returned (.agg (secA (sectorD 1))) ∧ Below v7.heap.size v7 w' := sector_any 1 v7
                go_wp2_with fail
                refine hS1.mono ?_
                rintro e v8 ⟨rfl, hB⟩
                replace hD := hD.later O hB
                clear hS1 hB
                have hw5 := hRn.wt
                have hf5 := hRn.fl
                have hC := hD.write O 0 (sectorD 1) (by rw [hp5]; simp) (by omega) (by omega) (by omega)
                rw [hRn.wr 0 (by omega)] at hC
                go_wp2_with fail
                refine hC.mono ?_
                rintro e v9 ⟨rfl, hD9, -⟩
                have hR9 := hRn.write 0 (sectorD 1)
                generalize wrSt st5 0 (sectorD 1) = st9 at hD9 hR9
                have hp9 := hR9.pend
                have hf9 := hR9.fl
                clear hC hD
                have hC := hD9.flush O (by omega) (by omega)
                rw [hR9.fr] at hC
                go_wp2_with fail
                refine hC.mono ?_
                rintro e vz ⟨rfl, hDz, -⟩
                have HB : Hid _ := hDz.below
                clear hC hDz hD9
                go_wp2
                go_ret
                exact ⟨rfl, HB.out⟩
        · rw [decide_eq_false (by omega)]
          have hC := hD.durable O 64 hR.len
          go_wp2_with fail
          refine hC.mono ?_
          rintro e u3 ⟨yw, cw, rfl, hW, hB⟩
          obtain ⟨gw, rfl, hgw⟩ := hW.form (by rw [hR.len]; omega)
          have hwl : w.heap.size ≤ gw := by have := hD.size; have := (World.ownsRow.lt hW gw rfl).1; omega
          replace hD := hD.own O hB hW
          clear hC hB
          obtain ⟨np, hnp⟩ : ∃ n, st.pend.length = n := ⟨_, rfl⟩
          have hC := hD.pending O hpm np hnp
          go_wp2_with fail
          refine hC.mono ?_
          rintro e u4 ⟨yp, cp, rfl, hP, hB⟩
          replace hW := hW.keep hB
          have hpl := fun q hq => (World.ownsRow.lt hP q hq).1
          replace hD := (hD.later O hB).drop (A' := [gw]) (by simp [Value.ownBlock])
          have hok := hD.ok O
          have hub := hD.below
          clear hC hB
          go_wp2_with fail
          go_loopw [17] (fun v wr => ∃ j : Nat, j ≤ np ∧ j ≤ nb ∧ v = .int .i64 j ∧ OwnK secE wr u2.heap.size (.slice (some ⟨gw, 0, none⟩) 64 cw) (over st.last (pickL (st.pend.take j) bs)) ∧ Keep [gw] u4 wr) (fun v _ => np - (intOf v).toNat)
          case atStart => exact ⟨0, by omega, by omega, rfl, by simpa [pickL, over] using hW, Keep.refl _ _⟩
          case round =>
            clear hW
            obtain ⟨j, hj, hjb, rfl, hW, hK⟩ := hrel
            have j0 : (0 : Int) ≤ (j : Int) := by omega
            by_cases hcc : j < np ∧ j < nb
            · obtain ⟨hlt2, hlb⟩ := hcc
              have j1 : (j : Int) < (np : Int) := by omega
              have j2 : (j : Int) < (nb : Int) := by omega
              obtain ⟨x, hx⟩ : ∃ x, st.pend[j]? = some x := ⟨st.pend[j]'(by omega), List.getElem?_eq_getElem (by omega)⟩
              obtain ⟨b, hbj⟩ : ∃ b, bs[j]? = some b := ⟨bs[j]'(by omega), List.getElem?_eq_getElem (by omega)⟩
              obtain ⟨bb, bo, hxb, hbb, hbc⟩ := (hb.kept hub).spot j (by rw [List.length_map]; omega)
              have hbk := hbc j (.bool b) (by rw [List.getElem?_map, hbj]; rfl)
              have hbb0 : bb < w.heap.size := by
                obtain ⟨b2, o2, h2, h3, -⟩ := hb.spot j (by rw [List.length_map]; omega)
                rw [hxb] at h2
                cases h2
                exact h3
              have hbk2 : wr.cell? ⟨bb, bo + j, none⟩ = some (.bool b) := by
                rw [← hbk]
                unfold World.cell?
                rw [hK.block bb hbb (by simp only [List.mem_singleton]; omega)]
              subst hxb
              have hps := pick_step st.pend bs j x b hx hbj
              cases b with
              | false =>
                simp only [Bool.false_eq_true, if_false, List.append_nil] at hps
                rw [← hps] at hW
                have HO : Hid _ := hW
                have HK : Hid _ := hK
                clear hW hK hx hbj hbk hbc hps hP hpl hD hok
                go_wp2
                go_roundw
                case rel => exact ⟨j + 1, by omega, by omega, by go_num, HO.out, HK.out⟩
                case measure => simp [intOf]; omega
              | true =>
                simp only [if_true] at hps
                obtain ⟨m, hm, hml⟩ := pend_at hok hx
                rw [hR.len] at hml
                have hPw := hP.keeps hK (fun q hq => by have := hpl q hq; simp only [List.mem_singleton]; omega)
                obtain ⟨gp, rfl, hgp⟩ := hPw.form (by omega)
                obtain ⟨d0, dok, drg⟩ := wrCells hPw j x hx
                rw [hm] at d0
                obtain ⟨s, hsx⟩ : ∃ s, x.2 = s := ⟨_, rfl⟩
                rw [hsx] at drg
                have HX : Hid (over st.last (pickL (st.pend.take (j + 1)) bs) = (over st.last (pickL (st.pend.take j) bs)).set m s) := by
                  show _ = _
                  rw [hps, over_snoc, hm, hsx]; rfl
                have m0 : (0 : Int) ≤ (m : Int) := by omega
                have m1 : (m : Int) < 64 := by omega
                clear hx hm hsx hPw hD hbj hbk hbc hps hok
                go_upto_region 26 with fail
                refine wp_reliesT [Fx (.slice (some ⟨gw, 0, none⟩) 64 cw), Fx (.slice (some ⟨gp, 0, none⟩) np cp), Fx (.int .i64 (j : Nat)), Fx (.pointer (some ⟨gp, j * 65, none⟩)), Fx (.pointer (some ⟨gp, j * 65, none⟩)), Fx (.int .i64 (m : Nat)), Fx (.slice (some ⟨gp, 0, none⟩) np cp), Fx (.int .i64 (j : Nat)), Fx (.pointer (some ⟨gp, j * 65, none⟩)), Fx (.pointer (some ⟨gp, j * 65 + 1, none⟩)), Fx (.agg (secA s)), Fx (.pointer (some ⟨gw, m * 64, none⟩))] (by kernel_rfl) (by kernel_rfl) ?_ ?_ ?_
                · repeat' (first | exact all_nil | apply all_cons)
                  all_goals intro v y y' hv hb
                  all_goals first | exact Fx_mono _ _ _ _ hv hb
                · refine ⟨?_, ?_, ?_, ?_, ?_, ?_, ?_, ?_, ?_, ?_, ?_, ?_, trivial⟩
                  all_goals
                    intro ρ x hp ρc ρg ρf ho hd
                    have o15 : ρ (.tmp 15) = .slice (some ⟨gw, 0, none⟩) 64 cw := ho 15 rfl
                    have o16 : ρ (.tmp 16) = .slice (some ⟨gp, 0, none⟩) np cp := ho 16 rfl
                    have o17 : ρ (.tmp 17) = .int .i64 (j : Nat) := ho 17 rfl
                    clear ho
                    have q2 := cell_later hp d0
                    have g1 := rg_later hp hgp (j * 65 + 1) 64
                    have q3 := g1.1.trans dok
                    have q4 := g1.2.trans drg
                    clear g1
                    simp only [depsR, depR, slotR, Fx, List.getElem?_cons_succ, List.getElem?_cons_zero, Region.binds, forall_const] at hd
                    simp only [guardR]
                    go_split_ands
                  · go_simp
                  · go_simp
                  · go_simp
                  · go_simp
                  · go_simp
                  · go_simp
                  · go_simp
                  · go_simp
                  · go_simp
                  · go_simp
                  · go_simp
                  · go_simp
                · intro vs x26 hp hw
                  simp only [owed, Fx] at hw
                  obtain ⟨e0, e1, e2, e3, e4, e5, e6, e7, e8, e9, e10, e11, -⟩ := hw
                  simp only [List.length_cons, List.length_nil, List.take_succ_cons, List.take_zero, List.drop_succ_cons, List.drop_zero, asg, List.cons_append, List.nil_append, e0, e1, e2, e3, e4, e5, e6, e7, e8, e9, e10, e11]
                  clear e0 e1 e2 e3 e4 e5 e6 e7 e8 e9 e10 e11
                  have hst := secStore_mid (hW.keep hp) m s (by omega)
                  have hO2 := secPut (hW.keep hp) m s (by omega)
                  rw [← HX.out] at hO2
                  have HO : Hid _ := hO2
                  have HK : Hid (Keep [gw] u4 (x26.setCells gw (m * 64) (secA s).toList)) := (hK.trans (Keep.of_below hp)).trans (Keep.of_grown (grown_setC x26 gw (m * 64) (secA s).toList) (fun q hq => by cases hq; simp))
                  clear hW hK hO2 hp d0 dok drg hP hbk2
                  go_wp2
                  go_roundw
                  case rel => exact ⟨j + 1, by omega, by omega, by go_num, HO.out, HK.out⟩
                  case measure => simp [intOf]; omega
            · rw [pick_end st.pend bs j (by omega)] at hW
              replace hD := hD.aside O hK (by simpa using hwl)
              clear hP hK hpl hub hok
              have hbw := hb.kept hD.below
              have hv0 : OwnG 4 (wr.alloc (.cells #[] 4)) wr.heap.size (.slice (some ⟨wr.heap.size, 0, none⟩) 0 0) [] := OwnG.lit 4 wr [] (by simp)
              obtain ⟨yb, c9, w9, hr9, hG9, hle9, hBw⟩ := run_copyBools (wr.alloc (.cells #[] 4)) _ wr.heap.size xb nb cb bs 23 hv0 (by simp) hbl (hbw.kept (below_alloc _ _)) hnb
              have hB9 : Below wr.heap.size wr w9 := (below_alloc wr _).trans hBw
              replace hD := hD.ownG O hB9 hG9
              replace hW := hW.keep hB9
              have hC := hD.restart O yb nb c9 bs hpm hbl hle9 hG9.isG (fun x hx => by subst hx; simp [Value.ownBlock])
              have hRn : Runs 64 i (reSt st bs) := reRuns st bs i 64 hR.len hbo1 hbo2
              have hl5 : (reSt st bs).last = over st.last (pickL st.pend bs) := rfl
              have hp5 : (reSt st bs).pend = [] := rfl
              clear hD hv0 hbw hB9 hBw hG9
              generalize reSt st bs = st5 at hC hRn hl5 hp5
              generalize over st.last (pickL st.pend bs) = LL at hW hl5
              have hLL : LL.length = 64 := by rw [← hl5]; exact hRn.len
              by_cases hlt2 : j < np
              · have j1 : (j : Int) < (np : Int) := by omega
                have j2 : ¬ (j : Int) < (nb : Int) := by omega
                go_wp2_with (at_builtin; refine wpL_appG 23 rfl _ _ rfl _ w9 (by exact hr9) ?_)
                refine hC.mono ?_
                rintro e v1 ⟨rfl, hD, hH⟩
                replace hW := hW.held hH (by simp [Value.ownBlock])
                clear hC hH hr9
                have hC := hD.durable O 64 hRn.len
                rw [hl5] at hC
                go_wp2_with fail
                refine hC.mono ?_
                rintro e v2 ⟨y2, c2, rfl, hS, hB⟩
                replace hW := hW.keep hB
                replace hD := hD.later O hB
                have hE := sameS_any y2 (some ⟨gw, 0, none⟩) c2 cw 64 64 LL LL v2 hLL hLL (hS.isK secE_ok) (hW.isK secE_ok) (by omega)
                rw [decide_eq_true rfl] at hE
                clear hC hB hS
                go_wp2_with fail
                refine hE.mono ?_
                rintro e v3 ⟨rfl, hB⟩
                replace hW := hW.keep hB
                replace hD := hD.later O hB
                clear hE hB
                have hC := hD.sectors O (by rw [hp5]; simp) 64 hRn.len
                rw [hl5, hp5] at hC
                go_wp2_with fail
                refine hC.mono ?_
                rintro e v4 ⟨y4, c4, rfl, hS, hB⟩
                replace hW := hW.keep hB
                replace hD := hD.later O hB
                have hE := sameS_any y4 (some ⟨gw, 0, none⟩) c4 cw 64 64 LL LL v4 hLL hLL (hS.isK secE_ok) (hW.isK secE_ok) (by omega)
                rw [decide_eq_true rfl] at hE
                clear hC hB hS
                go_wp2_with fail
                refine hE.mono ?_
                rintro e v5 ⟨rfl, hB⟩
                replace hD := hD.later O hB
                clear hE hB hW
                have hC := hD.pending O (by rw [hp5]; simp) 0 (by rw [hp5]; rfl)
                go_wp2_with fail
                refine hC.mono ?_
                rintro e v6 ⟨y6, c6, rfl, -, hB⟩
                replace hD := hD.later O hB
                clear hC hB
                have hC := hD.down O
                rw [hRn.down] at hC
                go_wp2_with fail
                refine hC.mono ?_
                rintro e v7 ⟨rfl, hB⟩
                replace hD := hD.later O hB
                clear hC hB
                have hS1 : Calls Try.prog 12 #[.int .u8 1] v7 fun e w' => e = .returned (.agg (secA (sectorD 1))) ∧ Below v7.heap.size v7 w' := sector_any 1 v7
                go_wp2_with fail
                refine hS1.mono ?_
                rintro e v8 ⟨rfl, hB⟩
                replace hD := hD.later O hB
                clear hS1 hB
                have hw5 := hRn.wt
                have hf5 := hRn.fl
                have hC := hD.write O 0 (sectorD 1) (by rw [hp5]; simp) (by omega) (by omega) (by omega)
                rw [hRn.wr 0 (by omega)] at hC
                go_wp2_with fail
                refine hC.mono ?_
                rintro e v9 ⟨rfl, hD9, -⟩
                have hR9 := hRn.write 0 (sectorD 1)
                generalize wrSt st5 0 (sectorD 1) = st9 at hD9 hR9
                have hp9 := hR9.pend
                have hf9 := hR9.fl
                clear hC hD
                have hC := hD9.flush O (by omega) (by omega)
                rw [hR9.fr] at hC
                go_wp2_with fail
                refine hC.mono ?_
                rintro e vz ⟨rfl, hDz, -⟩
                have HB : Hid _ := hDz.below
                clear hC hDz hD9
                go_wp2
                go_ret
                exact ⟨rfl, HB.out⟩
              · have j1 : ¬ (j : Int) < (np : Int) := by omega
                go_wp2_with (at_builtin; refine wpL_appG 23 rfl _ _ rfl _ w9 (by exact hr9) ?_)
                refine hC.mono ?_
                rintro e v1 ⟨rfl, hD, hH⟩
                replace hW := hW.held hH (by simp [Value.ownBlock])
                clear hC hH hr9
                have hC := hD.durable O 64 hRn.len
                rw [hl5] at hC
                go_wp2_with fail
                refine hC.mono ?_
                rintro e v2 ⟨y2, c2, rfl, hS, hB⟩
                replace hW := hW.keep hB
                replace hD := hD.later O hB
                have hE := sameS_any y2 (some ⟨gw, 0, none⟩) c2 cw 64 64 LL LL v2 hLL hLL (hS.isK secE_ok) (hW.isK secE_ok) (by omega)
                rw [decide_eq_true rfl] at hE
                clear hC hB hS
                go_wp2_with fail
                refine hE.mono ?_
                rintro e v3 ⟨rfl, hB⟩
                replace hW := hW.keep hB
                replace hD := hD.later O hB
                clear hE hB
                have hC := hD.sectors O (by rw [hp5]; simp) 64 hRn.len
                rw [hl5, hp5] at hC
                go_wp2_with fail
                refine hC.mono ?_
                rintro e v4 ⟨y4, c4, rfl, hS, hB⟩
                replace hW := hW.keep hB
                replace hD := hD.later O hB
                have hE := sameS_any y4 (some ⟨gw, 0, none⟩) c4 cw 64 64 LL LL v4 hLL hLL (hS.isK secE_ok) (hW.isK secE_ok) (by omega)
                rw [decide_eq_true rfl] at hE
                clear hC hB hS
                go_wp2_with fail
                refine hE.mono ?_
                rintro e v5 ⟨rfl, hB⟩
                replace hD := hD.later O hB
                clear hE hB hW
                have hC := hD.pending O (by rw [hp5]; simp) 0 (by rw [hp5]; rfl)
                go_wp2_with fail
                refine hC.mono ?_
                rintro e v6 ⟨y6, c6, rfl, -, hB⟩
                replace hD := hD.later O hB
                clear hC hB
                have hC := hD.down O
                rw [hRn.down] at hC
                go_wp2_with fail
                refine hC.mono ?_
                rintro e v7 ⟨rfl, hB⟩
                replace hD := hD.later O hB
                clear hC hB
                have hS1 : Calls Try.prog 12 #[.int .u8 1] v7 fun e w' => e = .returned (.agg (secA (sectorD 1))) ∧ Below v7.heap.size v7 w' := sector_any 1 v7
                go_wp2_with fail
                refine hS1.mono ?_
                rintro e v8 ⟨rfl, hB⟩
                replace hD := hD.later O hB
                clear hS1 hB
                have hw5 := hRn.wt
                have hf5 := hRn.fl
                have hC := hD.write O 0 (sectorD 1) (by rw [hp5]; simp) (by omega) (by omega) (by omega)
                rw [hRn.wr 0 (by omega)] at hC
                go_wp2_with fail
                refine hC.mono ?_
                rintro e v9 ⟨rfl, hD9, -⟩
                have hR9 := hRn.write 0 (sectorD 1)
                generalize wrSt st5 0 (sectorD 1) = st9 at hD9 hR9
                have hp9 := hR9.pend
                have hf9 := hR9.fl
                clear hC hD
                have hC := hD9.flush O (by omega) (by omega)
                rw [hR9.fr] at hC
                go_wp2_with fail
                refine hC.mono ?_
                rintro e vz ⟨rfl, hDz, -⟩
                have HB : Hid _ := hDz.below
                clear hC hDz hD9
                go_wp2
                go_ret
                exact ⟨rfl, HB.out⟩
end
end Go.Proofs.Ytkpgeeagokbjeaa
