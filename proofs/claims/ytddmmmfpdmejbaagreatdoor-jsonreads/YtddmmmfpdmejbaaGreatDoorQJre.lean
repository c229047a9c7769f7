import Derived.Test.YtddmmmfpdmejbaaGreatDoorQJok
import Derived.Test.YtddmmmfpdmejbaaGreatDoorQBow
namespace Go.Proofs.YtddmmmfpdmejbaaGreatDoor
open Go.RowKit

/-! JsonReads -/
set_option linter.unusedSimpArgs false in
set_option maxRecDepth 100000 in
set_option maxHeartbeats 16000000 in
theorem lawJsonReads_any {V : World → Prop} (O : JsOk V) (l l2 : List UInt8) (x x2 : Option Addr) (L c L2 c2 : Nat) (w : World) (hVw : V w) (hL : l.length = L) (hLc : L ≤ c) (hL47 : L ≤ 140737488351232) (hl : IsB w (.slice x L c) l) (hL2 : l2.length = L2) (hL2c : L2 ≤ c2) (hl2 : IsB w (.slice x2 L2 c2) l2) :
    Calls Tryz.prog 7 #[.slice x L c, .slice x2 L2 c2] w fun e w' => e = .returned (.bool true) ∧ Below w.heap.size w w' := by
  have kK := known15_any O w hVw
  go_enter Tryz.func7, Tryz.ntmps7
  go_wp2_with fail
  refine kK.mono ?_
  rintro e w8 ⟨rfl, hB8⟩
  clear kK
  have hl8 := hl.kept hB8
  have bA := below_alloc w8 (.cells #[] 5)
  have hO0 : OwnB (w8.alloc (.cells #[] 5)) w8.heap.size (.slice (some ⟨w8.heap.size, 0, none⟩) 0 0) [] := OwnB.newB w8 [] 0 rfl (by unfold maxLen; omega)
  have hlA := hl8.kept bA
  subst hL
  obtain ⟨v1, w9, hr1, hO1, hg1, -⟩ := run_app_more _ _ _ [] x c l 26 hO0 hlA (by simp; omega) bA.size
  rw [List.nil_append] at hO1
  have hB9w : Below w8.heap.size w8 w9 := bA.trans (below_grown hO0 hg1 bA.size)
  have bC := below_alloc w9 (.cells #[Value.int .u8 ((120 : UInt8).toNat : Int)] 5)
  have hlit : IsB (w9.alloc (.cells #[Value.int .u8 ((120 : UInt8).toNat : Int)] 5)) (.slice (some ⟨w9.heap.size, 0, none⟩) [(120 : UInt8)].length 1) [120] := .inr ⟨⟨w9.heap.size, 0, none⟩, 1, rfl, fun i hi => by
    have : i = 0 := by simp at hi; omega
    subst this
    rw [addr_add, cell_of_row _ _ _ _ _ _ (heap_alloc_last _ _)]; rfl⟩
  have hsz9 : w8.heap.size ≤ (w9.alloc (.cells #[Value.int .u8 ((120 : UInt8).toNat : Int)] 5)).heap.size := Nat.le_trans hB9w.size bC.size
  obtain ⟨v2, wa, hr2, hO2, hg2, -⟩ := run_app_more _ _ _ l _ 1 [120] 26 (hO1.keep bC) hlit (by simp; omega) hsz9
  have hBaw : Below w8.heap.size w8 wa := (hB9w.trans (bC.mono hB9w.size)).trans (below_grown (hO1.keep bC) hg2 hsz9)
  have hBa := hB8.trans (hBaw.mono hB8.size)
  have hla := hl8.kept hBaw
  obtain ⟨gf, cf, rfl, hgf, hcf, -⟩ := hO2.form (by simp)
  have hgfa : gf < wa.heap.size := (World.ownsRow.lt hO2 gf rfl).2
  have hgfw : w.heap.size ≤ gf := Nat.le_trans hB8.size hgf
  clear hO0 hlA hg1 hB9w bC hlit hsz9 hg2 hO1 bA hl8
  obtain ⟨L, hLv⟩ : ∃ q, l.length = q := ⟨_, rfl⟩
  have hM : (l ++ [(120 : UInt8)]).length = L + 1 := by rw [List.length_append, hLv]; rfl
  rw [hM] at hr2 hO2 hcf
  rw [hLv] at hr1 hla hL47 hLc hl
  obtain ⟨M, hMv⟩ : ∃ q, L + 1 = q := ⟨_, rfl⟩
  rw [hMv] at hr2 hO2 hcf hM
  go_upto_region 4 with (at_builtin; first | refine wpL_app rfl _ _ rfl v1 w9 (by exact hr1) ?_ | refine wpL_app rfl _ _ rfl _ wa (by exact hr2) ?_)
  have hfr : IsB wa (.slice (some ⟨gf, 0, none⟩) L cf) l := by
    have h9 := hO2.isB.frontB (m := L) (by omega)
    rw [← hLv, List.take_left, hLv] at h9; exact h9
  have hrd := fun y (hb : Below wa.heap.size wa y) => read15_any O l (some ⟨gf, 0, none⟩) L cf y hLv (by omega) (by omega) (hfr.kept hb) (O.keep _ _ hVw (hBa.trans (hb.mono hBa.size)))
  have hcv1 := fun y (hb : Below wa.heap.size wa y) => (hfr.kept hb).str
  have hcv2 := fun y (hb : Below wa.heap.size wa y) => (hla.kept hb).str
  obtain ⟨LB, hLB⟩ : ∃ q, ByteArray.mk l.toArray = q := ⟨_, rfl⟩
  simp only [hLB] at hcv1 hcv2
  have c120 := hO2.cellB L (by omega)
  have e120 : lB (l ++ [(120 : UInt8)]) L = 120 := by
    unfold lB; rw [List.getElem?_append_right (by omega), hLv, Nat.sub_self]; rfl
  rw [e120] at c120
  replace c120 : wa.cell? ⟨gf, L, none⟩ = some (.int .u8 120) := c120
  have FL : Hid ((0 : Int) ≤ (L : Int) ∧ (L : Int) ≤ (cf : Int) ∧ (L : Int) < (M : Int)) := by show _ ∧ _ ∧ _; omega
  have HO2 : Hid (OwnB wa w8.heap.size (.slice (some ⟨gf, 0, none⟩) M cf) (l ++ [(120 : UInt8)])) := hO2
  have HFR : Hid (IsB wa (.slice (some ⟨gf, 0, none⟩) L cf) l) := hfr
  have HQ : Hid (gf < wa.heap.size ∧ w.heap.size ≤ gf ∧ L + 1 = M) := ⟨hgfa, hgfw, hMv⟩
  have HLC : Hid (L ≤ cf) := by show L ≤ cf; omega
  have HLW : Hid (IsB w (.slice x L c) l) := hl
  have HL2 : Hid (IsB w (.slice x2 L2 c2) l2) := hl2
  have HBA : Hid (Below w.heap.size w wa) := hBa
  clear hLB e120 hfr hla hO2 hgfa hgfw hMv hr1 hr2 hl hl2 hBa hBaw
  refine wp_relies [Fx (.slice (some ⟨gf, 0, none⟩) M cf), Fx (.slice x L c), Fx (.int .i64 (L : Int)), Fx (.slice (some ⟨gf, 0, none⟩) L cf), Fx (.bool true), Fx (.bool false), Fx (.bool false), Fx (.slice (some ⟨gf, 0, none⟩) M cf), Fx (.slice x L c), Fx (.int .i64 (L : Int)), Fx (.slice (some ⟨gf, 0, none⟩) L cf), Fx (.string LB), Fx (.slice x L c), Fx (.string LB), Fx (.bool false), Fx (.bool false), Fx (.bool false), Fx (.slice (some ⟨gf, 0, none⟩) M cf), Fx (.slice x L c), Fx (.int .i64 (L : Int)), Fx (.pointer (some ⟨gf, L, none⟩)), Fx (.int .u8 120), Fx (.bool false), Fx (.bool false)] (by kernel_rfl) (by kernel_rfl) ?_ ?_ ?_
  · repeat' (first | exact all_nil | apply all_cons)
    all_goals intro v y y' hv hb
    all_goals first | exact Fx_mono _ _ _ _ hv hb
  · refine ⟨?_, ?_, ?_, ?_, ?_, ?_, ?_, ?_, ?_, ?_, ?_, ?_, ?_, ?_, ?_, ?_, ?_, ?_, ?_, ?_, ?_, ?_, ?_, ?_, trivial⟩
    all_goals
      intro ρ y9 hp ρc ρg ρf ho hd
      have o0 : ρ (.tmp 0) = .slice x L c := ho 0 rfl
      have o5 : ρ (.tmp 5) = .slice (some ⟨gf, 0, none⟩) M cf := ho 5 rfl
      clear ho
      simp only [depsR, depR, slotR, Fx, List.getElem?_cons_succ, List.getElem?_cons_zero, Region.binds, forall_const] at hd
      simp only [guardR]
      go_split_ands
    · go_simp
    · go_simp
    · go_simp
    · obtain ⟨z1, z2, z3⟩ := FL.out
      go_simp
    · go_simp
      refine (hrd y9 hp).mono ?_
      rintro e9 x' ⟨rfl, hb⟩
      exact ⟨_, rfl, rfl, hb⟩
    · go_simp
    · go_simp
    · refine ⟨fun _ => ?_, fun hy => absurd (by simp [yieldR, slotR, *]) hy⟩
      go_simp
    · refine ⟨fun _ => ?_, fun hy => absurd (by simp [yieldR, slotR, *]) hy⟩
      go_simp
    · refine ⟨fun _ => ?_, fun hy => absurd (by simp [yieldR, slotR, *]) hy⟩
      go_simp
    · refine ⟨fun _ => ?_, fun hy => absurd (by simp [yieldR, slotR, *]) hy⟩
      obtain ⟨z1, z2, z3⟩ := FL.out
      go_simp
    · refine ⟨fun _ => ?_, fun hy => absurd (by simp [yieldR, slotR, *]) hy⟩
      have hq := hcv1 y9 hp
      go_simp
    · refine ⟨fun _ => ?_, fun hy => absurd (by simp [yieldR, slotR, *]) hy⟩
      go_simp
    · refine ⟨fun _ => ?_, fun hy => absurd (by simp [yieldR, slotR, *]) hy⟩
      have hq := hcv2 y9 hp
      go_simp
    · refine ⟨fun _ => ?_, fun hy => absurd (by simp [yieldR, slotR, *]) hy⟩
      go_simp
    · go_simp
    · go_simp
    · refine ⟨fun _ => ?_, fun hy => absurd (by simp [yieldR, slotR, *]) hy⟩
      go_simp
    · refine ⟨fun _ => ?_, fun hy => absurd (by simp [yieldR, slotR, *]) hy⟩
      go_simp
    · refine ⟨fun _ => ?_, fun hy => absurd (by simp [yieldR, slotR, *]) hy⟩
      go_simp
    · refine ⟨fun _ => ?_, fun hy => absurd (by simp [yieldR, slotR, *]) hy⟩
      obtain ⟨z1, z2, z3⟩ := FL.out
      go_simp
    · refine ⟨fun _ => ?_, fun hy => absurd (by simp [yieldR, slotR, *]) hy⟩
      have kc := cell_later hp c120
      go_simp
    · refine ⟨fun _ => ?_, fun hy => absurd (by simp [yieldR, slotR, *]) hy⟩
      go_simp
    · go_simp
  · intro us x1 hp1 hw
    simp only [owed, Fx] at hw
    obtain ⟨e0, e1, e2, e3, e4, e5, e6, e7, e8, e9, e10, e11, e12, e13, e14, e15, e16, e17, e18, e19, e20, e21, e22, e23, -⟩ := hw
    simp only [List.length_cons, List.length_nil, List.take_succ_cons, List.take_nil, List.drop_succ_cons, List.drop_nil, asg, List.cons_append, List.nil_append, e0, e1, e2, e3, e4, e5, e6, e7, e8, e9, e10, e11, e12, e13, e14, e15, e16, e17, e18, e19, e20, e21, e22, e23]
    clear e0 e1 e2 e3 e4 e5 e6 e7 e8 e9 e10 e11 e12 e13 e14 e15 e16 e17 e18 e19 e20 e21 e22 e23
    have h1 : IsB x1 (.slice (some ⟨gf, 0, none⟩) L cf) l := IsB.kept HFR.out hp1
    have hO3 := OwnB.keep HO2.out hp1
    have hB1 : Below w.heap.size w x1 := Below.trans HBA.out (hp1.mono (Below.size HBA.out))
    have hs1 := hp1.size
    have kp := O.prs l (some ⟨gf, 0, none⟩) L cf x1 hLv HLC.out (by omega) h1 (O.keep _ _ hVw hB1)
    obtain ⟨⟨d, E, A⟩, hq⟩ : ∃ q, prsA l = q := ⟨_, rfl⟩
    rw [hq] at kp
    have z1 : (0 : Int) ≤ (L : Int) := by omega
    have z2 : (L : Int) ≤ (cf : Int) := by have := HLC.out; omega
    clear h1 hrd hcv1 hcv2 c120 hp1 HFR HO2 HBA
    go_wp2_with fail
    refine kp.mono ?_
    rintro e w2 ⟨v, rfl, hv, -, hb2⟩
    clear kp
    simp only at hv
    have hO4 := hO3.keep hb2
    have hB2 := hB1.trans (hb2.mono hB1.size)
    have hs2 := hb2.size
    obtain ⟨H, hH⟩ : ∃ q, x1.heap.size = q := ⟨_, rfl⟩
    rw [hH] at hv hs2 hs1
    clear hO3 hB1 hb2
    go_wp2_with fail
    go_loopw [9] (fun iv wr => ∃ (k : Nat) (m : List UInt8), k ≤ L ∧ iv = .int .i64 k ∧ m.length = M ∧ OwnB wr w8.heap.size (.slice (some ⟨gf, 0, none⟩) M cf) m ∧ (E = 0 → VlF wr (H ≤ ·) v d) ∧ H ≤ wr.heap.size ∧ Below w.heap.size w wr) (fun iv _ => L - (intOf iv).toNat)
    case atStart => exact ⟨0, _, by omega, rfl, hM, hO4, hv, hs2, hB2⟩
    case round =>
      clear hO4 hv hs2 hB2
      obtain ⟨k, m, hk, rfl, hm, hO1, hv, hs2, hB⟩ := hrel
      obtain ⟨q1, q2, q3⟩ := HQ.out
      by_cases hlt : k < L ∧ k < L2
      · have i0 : (0 : Int) ≤ (k : Int) := by omega
        have i1 : (k : Int) < (L : Int) := by omega
        have i2 : (k : Int) < (L2 : Int) := by omega
        have i3 : (k : Int) < (M : Int) := by omega
        have cc := hO1.cellB k (by omega)
        have cz := hO1.softB k
        have hl2r := IsB.kept HL2.out hB
        subst hL2
        obtain ⟨b2, o2, rfl, hlt2, hcel⟩ := hl2r.spot k (by omega)
        generalize l2[k]?.getD 0 = b9 at hcel
        have HO1 : Hid _ := hO1.setB hm k b9
        have HM : Hid ((m.set k b9).length = M) := by show _ = _; rw [List.length_set]; exact hm
        have HB2 : Hid _ := hB.setCell (p := ⟨gf, k, none⟩) q2 (.int .u8 (b9.toNat : Int))
        have hgr := grown_set1 wr gf k (.int .u8 (b9.toNat : Int))
        have HV2 : Hid (E = 0 → VlF (wr.setCell ⟨gf, k, none⟩ (.int .u8 (b9.toNat : Int))) (H ≤ ·) v d) := fun hE => (hv hE).ag (fun b hb hl => hgr.block b hl (fun e => by cases e; omega))
        have HS2 : Hid (H ≤ (wr.setCell ⟨gf, k, none⟩ (.int .u8 (b9.toNat : Int))).heap.size) := Nat.le_trans hs2 hgr.size
        generalize lB m k = b8 at cc
        clear hO1 hB hv hl2r hs2 q1 q2 q3 hgr
        go_wp2
        go_roundw
        case rel => exact ⟨k + 1, _, by omega, by go_num, HM.out, HO1.out, HV2.out, HS2.out, HB2.out⟩
        case measure => simp [intOf]; omega
      · by_cases hkL : k < L
        · have i1 : (k : Int) < (L : Int) := by omega
          have i2 : ¬ (k : Int) < (L2 : Int) := by omega
          obtain ⟨Q, hQ⟩ : ∃ q, m.take L = q := ⟨_, rfl⟩
          have hQl : Q.length = L := by rw [← hQ, List.length_take]; omega
          have hfq : IsB wr (.slice (some ⟨gf, 0, none⟩) L cf) Q := by
            have h9 := hO1.isB.frontB (m := L) (by omega)
            rw [hQ] at h9; exact h9
          have kr := read15_any O Q (some ⟨gf, 0, none⟩) L cf wr hQl HLC.out (by omega) hfq (O.keep _ _ hVw hB)
          clear hO1 hfq hQ hm q1 q2 q3
          go_wp2_with fail
          refine kr.mono ?_
          rintro e w3 ⟨rfl, hb3⟩
          clear kr
          have hB3 := hB.trans (hb3.mono hB.size)
          by_cases hE : E = 0
          · have hv3 := (hv hE).kept hb3
            subst hE
            clear hv hB hs2 hb3
            have kp := plain15_any d w3 _ v hv3
            go_wp2_with fail
            refine kp.mono ?_
            rintro e w4 ⟨r4, rfl, hN4, hb4⟩
            clear kp hv3
            have b5 := below_alloc w4 (.cells (rnA r4) 41)
            have rA := RowC.new w4 (rnA r4) 41
            have hNA := hN4.kept b5
            have hB4 := hB3.trans (hb4.mono hB3.size)
            have hB5 := hB4.trans (b5.mono hB4.size)
            go_upto_region 16 with fail
            obtain ⟨ga, hga⟩ : ∃ q, w4.heap.size = q := ⟨_, rfl⟩
            rw [hga] at rA ⊢
            generalize w4.alloc (.cells (rnA r4) 41) = X at rA hNA hB5 ⊢
            have kf := refParse_any l x L c X hLv (IsB.kept HLW.out hB5) (by omega)
            rw [hq] at kf
            clear hN4 b5 hB4 hb4 hB3
            go_wp2_with fail
            refine kf.mono ?_
            rintro e w6 ⟨r6, rfl, hN6, hb6⟩
            clear kf
            simp only at hN6
            have b7 := below_alloc w6 (.cells (rnA r6) 41)
            have rB := RowC.new w6 (rnA r6) 41
            have rA2 := (rA.kept hb6).kept b7
            have hNA2 := (hNA.kept hb6).kept b7
            have hNB := hN6.kept b7
            have hB6 := hB5.trans (hb6.mono hB5.size)
            have hB7 := hB6.trans (b7.mono hB6.size)
            go_upto_region 17 with fail
            obtain ⟨gb, hgb⟩ : ∃ q, w6.heap.size = q := ⟨_, rfl⟩
            rw [hgb] at rB ⊢
            generalize w6.alloc (.cells (rnA r6) 41) = Z at rA2 rB hNA2 hNB hB7 ⊢
            have ks := same15_any d Z _ _ r4 r6 hNA2 hNB
            obtain ⟨a1, a2⟩ := id rA2
            have a3 : (rowAt Z ga).size = 5 := by rw [a2]; rfl
            obtain ⟨d1, d2⟩ := id rB
            have d3 : (rowAt Z gb).size = 5 := by rw [d2]; rfl
            clear hNA2 hNB hN6 hNA b7 hb6 hB6 rA hB5
            go_wp2_with fail
            refine ks.mono ?_
            rintro e w9 ⟨rfl, hb9⟩
            clear ks
            have hB9 := hB7.trans (hb9.mono hB7.size)
            go_wp2
            go_ret
            exact ⟨rfl, hB9⟩
          · have f0 : (E != 0) = true := bne_iff_ne.2 hE
            clear hv hB hs2 hb3 hE
            go_wp2
            go_ret
            exact ⟨rfl, hB3⟩
        · have i1 : ¬ (k : Int) < (L : Int) := by omega
          obtain ⟨Q, hQ⟩ : ∃ q, m.take L = q := ⟨_, rfl⟩
          have hQl : Q.length = L := by rw [← hQ, List.length_take]; omega
          have hfq : IsB wr (.slice (some ⟨gf, 0, none⟩) L cf) Q := by
            have h9 := hO1.isB.frontB (m := L) (by omega)
            rw [hQ] at h9; exact h9
          have kr := read15_any O Q (some ⟨gf, 0, none⟩) L cf wr hQl HLC.out (by omega) hfq (O.keep _ _ hVw hB)
          clear hO1 hfq hQ hm q1 q2 q3
          go_wp2_with fail
          refine kr.mono ?_
          rintro e w3 ⟨rfl, hb3⟩
          clear kr
          have hB3 := hB.trans (hb3.mono hB.size)
          by_cases hE : E = 0
          · have hv3 := (hv hE).kept hb3
            subst hE
            clear hv hB hs2 hb3
            have kp := plain15_any d w3 _ v hv3
            go_wp2_with fail
            refine kp.mono ?_
            rintro e w4 ⟨r4, rfl, hN4, hb4⟩
            clear kp hv3
            have b5 := below_alloc w4 (.cells (rnA r4) 41)
            have rA := RowC.new w4 (rnA r4) 41
            have hNA := hN4.kept b5
            have hB4 := hB3.trans (hb4.mono hB3.size)
            have hB5 := hB4.trans (b5.mono hB4.size)
            go_upto_region 16 with fail
            obtain ⟨ga, hga⟩ : ∃ q, w4.heap.size = q := ⟨_, rfl⟩
            rw [hga] at rA ⊢
            generalize w4.alloc (.cells (rnA r4) 41) = X at rA hNA hB5 ⊢
            have kf := refParse_any l x L c X hLv (IsB.kept HLW.out hB5) (by omega)
            rw [hq] at kf
            clear hN4 b5 hB4 hb4 hB3
            go_wp2_with fail
            refine kf.mono ?_
            rintro e w6 ⟨r6, rfl, hN6, hb6⟩
            clear kf
            simp only at hN6
            have b7 := below_alloc w6 (.cells (rnA r6) 41)
            have rB := RowC.new w6 (rnA r6) 41
            have rA2 := (rA.kept hb6).kept b7
            have hNA2 := (hNA.kept hb6).kept b7
            have hNB := hN6.kept b7
            have hB6 := hB5.trans (hb6.mono hB5.size)
            have hB7 := hB6.trans (b7.mono hB6.size)
            go_upto_region 17 with fail
            obtain ⟨gb, hgb⟩ : ∃ q, w6.heap.size = q := ⟨_, rfl⟩
            rw [hgb] at rB ⊢
            generalize w6.alloc (.cells (rnA r6) 41) = Z at rA2 rB hNA2 hNB hB7 ⊢
            have ks := same15_any d Z _ _ r4 r6 hNA2 hNB
            obtain ⟨a1, a2⟩ := id rA2
            have a3 : (rowAt Z ga).size = 5 := by rw [a2]; rfl
            obtain ⟨d1, d2⟩ := id rB
            have d3 : (rowAt Z gb).size = 5 := by rw [d2]; rfl
            clear hNA2 hNB hN6 hNA b7 hb6 hB6 rA hB5
            go_wp2_with fail
            refine ks.mono ?_
            rintro e w9 ⟨rfl, hb9⟩
            clear ks
            have hB9 := hB7.trans (hb9.mono hB7.size)
            go_wp2
            go_ret
            exact ⟨rfl, hB9⟩
          · have f0 : (E != 0) = true := bne_iff_ne.2 hE
            clear hv hB hs2 hb3 hE
            go_wp2
            go_ret
            exact ⟨rfl, hB3⟩
end Go.Proofs.YtddmmmfpdmejbaaGreatDoor
