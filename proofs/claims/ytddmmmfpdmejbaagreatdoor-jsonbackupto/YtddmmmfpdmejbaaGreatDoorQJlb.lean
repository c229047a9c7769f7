import Derived.Test.YtddmmmfpdmejbaaGreatDoorQJmh
import Derived.Test.YtddmmmfpdmejbaaGreatDoorQJmi
import Derived.Test.YtddmmmfpdmejbaaGreatDoorQLex9
namespace Go.Proofs.YtddmmmfpdmejbaaGreatDoor
open Go.RowKit

/-! JsonBack -/
set_option linter.unusedSimpArgs false in
set_option maxRecDepth 100000 in
set_option maxHeartbeats 16000000 in
theorem lawJsonBack_any {V : World → Prop} (O : JsOk V) (d : Nd) (a : Rn) (l : List UInt8) (x : Option Addr) (L c : Nat) (w : World) (hVw : V w) (ha : LnF w a d) (hz : szN d ≤ 1099511627776) (hL : l.length = L) (hLc : L ≤ c) (hL47 : L ≤ 140737488355328) (hl : IsB w (.slice x L c) l) :
    Calls Tryz.prog 3 #[.agg (rnA a), .slice x L c] w fun e w' => e = .returned (.bool true) ∧ Below w.heap.size w w' := by
  obtain ⟨n0, hn0⟩ : ∃ q, w.heap.size = q := ⟨_, rfl⟩
  have HN0W : Hid (w.heap.size = n0) := hn0
  have HKV : Hid (∀ x, Below n0 w x → V x) := fun x hb => O.keep w x hVw (by rw [hn0]; exact hb)
  have bY := below_alloc w (.cells (rnA a) 25)
  have rY := RowC.new w (rnA a) 25
  have hLY := ha.kept bY
  obtain ⟨D, hD⟩ : ∃ q, mdN d 0 = q := ⟨_, rfl⟩
  have HSZ : Hid (szN D ≤ 1099511627776) := by show _ ≤ _; have := mdN_sz d 0; rw [hD] at this; omega
  have HDP : Hid (depN D ≤ 13) := by show _ ≤ _; have := mdN_dep d 0 (by omega); rw [hD] at this; omega
  have HMD : Hid (∀ x, LnF x a d → Calls Tryz.prog 8 #[.agg (rnA a), .int .i64 0] x fun e w' => ∃ v, e = .returned v ∧ VlS w' (x.heap.size ≤ ·) v D ∧ Below x.heap.size x w') := fun x hx => by
    have h9 := made15_any d 0 x a (by omega) hx
    rw [hD] at h9; exact h9
  rw [hn0] at rY bY
  clear ha hz hD
  go_enter Tryz.func3, Tryz.ntmps3
  go_upto_region 1 with fail
  generalize w.alloc (.cells (rnA a) 25) = Y at bY rY hLY ⊢
  obtain ⟨p1, p2⟩ := id rY
  have p3 : (rowAt Y n0).size = 5 := by rw [p2]; rfl
  have hC1 := HMD.out Y hLY
  go_wp2_with fail
  refine hC1.mono ?_
  rintro e w1 ⟨v, rfl, hS1, hb1⟩
  clear hC1 p1 p2 p3
  have hB1 : Below n0 w w1 := bY.trans (hb1.mono (by have := bY.size; omega))
  have hN0 : n0 ≤ Y.heap.size := by have := bY.size; omega
  have hP1 := O.prt D _ v w1 hS1.g HSZ.out (Nat.le_trans HDP.out (by omega)) (HKV.out w1 hB1)
  unfold PtP at hP1
  clear bY rY hLY hb1
  obtain ⟨TS, hTS⟩ : ∃ q : ByteArray, ⟨(prtS D).toArray⟩ = q := ⟨_, rfl⟩
  have hSl : lS TS = prtS D := by rw [← hTS]; rfl
  obtain ⟨E, hE⟩ : ∃ q, prtE D = q := ⟨_, rfl⟩
  rw [hTS, hE] at hP1
  go_wp2_with fail
  refine hP1.mono ?_
  rintro e w2 ⟨rfl, hb2⟩
  clear hP1
  have hB2 : Below n0 w w2 := hB1.trans (hb2.mono (by have := hB1.size; omega))
  have hS2 := hS1.kept hb2
  clear hS1 hb2 hB1
  have hK := known15_any O w2 (HKV.out w2 hB2)
  go_wp2_with fail
  refine hK.mono ?_
  rintro e w3 ⟨rfl, hb3⟩
  clear hK
  have hB3 : Below n0 w w3 := hB2.trans (hb3.mono (by have := hB2.size; omega))
  have hS3 := hS2.kept hb3
  clear hS2 hb3 hB2 hN0
  by_cases h0 : E = 0
  · have he0 : (E == 0) = true := beq_iff_eq.2 h0
    obtain ⟨f1, f2, f3, f4⟩ := prtE0 (hE.trans h0)
    obtain ⟨gd, wh⟩ := hS3.g.gd f1 f2 f3
    have hS9 : prtS D = txtN D := by unfold prtS; rw [if_pos (hE.trans h0)]
    by_cases hT : TS.size ≤ 4096
    · have i4 : (TS.size : Int) ≤ 4096 := by omega
      have hpt := prs_txt D gd f4 (by rw [← hS9, ← hSl, lS_len]; exact hT)
      have hv3 := hS3.g.f wh
      obtain ⟨C4, W4, hcv4, hC4, hbW4, iW4⟩ := conv14 w3 TS
      have hBW4 : Below n0 w W4 := hB3.trans (hbW4.mono (by have := hB3.size; have := HN0W.out; omega))
      have hvW := hv3.kept hbW4
      rw [hSl, hS9] at iW4
      have hPt := O.prs (txtN D) _ TS.size C4 W4 (by rw [← hS9, ← hSl, lS_len]) hC4 (by omega) iW4 (HKV.out W4 hBW4)
      rw [hpt] at hPt
      clear hpt f1 f2 f3 f4 gd wh hS9 hv3 hbW4 iW4 hS3 hB3 hSl hTS hE
      go_wp2_with fail
      refine hPt.mono ?_
      rintro e w4 ⟨x4, rfl, hy4, -, hb4⟩
      clear hPt hcv4
      have hB4 : Below n0 w w4 := hBW4.trans (hb4.mono (by have := hBW4.size; have := HN0W.out; omega))
      have hv4 := hvW.kept hb4
      have hQ4 := equal15_any D _ _ v x4 w4 hv4 (hy4 rfl)
      clear hy4 hb4 hvW hBW4
      go_wp2_with fail
      refine hQ4.mono ?_
      rintro e w5 ⟨rfl, hb5⟩
      clear hQ4 hv4
      have hB5 : Below n0 w w5 := hB4.trans (hb5.mono (by have := hB4.size; have := HN0W.out; omega))
      clear hb5 hB4
      have hPb := O.prs l x L c w5 hL hLc hL47 (hl.kept (by rw [HN0W.out]; exact hB5)) (HKV.out w5 hB5)
      obtain ⟨R, hR⟩ : ∃ q, prsA l = q := ⟨_, rfl⟩
      have HRG := fun h => read_good l h
      have HRS := fun h => read_size l h
      rw [hR] at hPb HRG HRS
      obtain ⟨d5, e5, p5⟩ := R
      clear hR
      go_wp2_with fail
      refine hPb.mono ?_
      rintro e w6 ⟨x6, rfl, hy6, hn6, hb6⟩
      clear hPb
      simp only at hy6 hn6 HRG HRS
      have hB6 : Below n0 w w6 := hB5.trans (hb6.mono (by have := hB5.size; have := HN0W.out; omega))
      clear hB5 hb6
      by_cases h5 : e5 = 0
      · have he5 : (e5 == 0) = true := beq_iff_eq.2 h5
        have hx6 := hy6 h5
        obtain ⟨g5, g6⟩ := HRG h5
        obtain ⟨e9, s9⟩ := gd_prt d5 g5 g6
        have hz5 := HRS h5
        have hPx := O.prt d5 _ x6 w6 hx6.g hz5 (Nat.le_trans g6 (by omega)) (HKV.out w6 hB6)
        unfold PtP at hPx
        rw [e9, s9] at hPx
        have HT : Hid ((txtN d5).length ≤ 4096 → prsA (txtN d5) = (d5, 0, 0)) := fun h => prs_txt d5 g5 g6 h
        have HTL := txtN_len d5
        obtain ⟨TT, hTT⟩ : ∃ q : ByteArray, ⟨(txtN d5).toArray⟩ = q := ⟨_, rfl⟩
        have hTl : lS TT = txtN d5 := by rw [← hTT]; rfl
        have hTs : TT.size = (txtN d5).length := by rw [← lS_len, hTl]
        rw [hTT] at hPx
        clear hy6 hn6 HRG HRS e9 s9 g5 g6 hTT
        go_wp2_with fail
        refine hPx.mono ?_
        rintro e w7 ⟨rfl, hb7⟩
        clear hPx
        have hB7 : Below n0 w w7 := hB6.trans (hb7.mono (by have := hB6.size; have := HN0W.out; omega))
        have hx7 := hx6.kept hb7
        obtain ⟨C7, W7, hcv7, hC7, hbW7, iW7⟩ := conv14 w7 TT
        have hBW7 : Below n0 w W7 := hB7.trans (hbW7.mono (by have := hB7.size; have := HN0W.out; omega))
        have hxW := hx7.kept hbW7
        rw [hTl] at iW7
        have hPt := O.prs (txtN d5) _ TT.size C7 W7 hTs.symm hC7 (by omega) iW7 (HKV.out W7 hBW7)
        clear hb7 hx7 hx6 hbW7 iW7 hB6 hB7
        obtain ⟨R, hR⟩ : ∃ q, prsA (txtN d5) = q := ⟨_, rfl⟩
        have HR : Hid (TT.size ≤ 4096 → R = (d5, 0, 0)) := fun h => by rw [← hR]; exact HT.out (by rw [← hTs]; exact h)
        rw [hR] at hPt
        clear hR HT hTs hTl HTL
        go_wp2_with fail
        refine hPt.mono ?_
        rintro e w8 ⟨x8, rfl, hy8, -, hb8⟩
        clear hPt hcv7
        have hB8 : Below n0 w w8 := hBW7.trans (hb8.mono (by have := hBW7.size; have := HN0W.out; omega))
        have hx8 := hxW.kept hb8
        by_cases hT : TT.size ≤ 4096
        · have i9 : ¬ (4096 : Int) < (TT.size : Int) := by omega
          obtain rfl := HR.out hT
          have hv8 := hy8 rfl
          have hQ := equal15_any d5 _ _ x6 x8 w8 hx8 hv8
          clear hy8 HR hT
          go_wp2_with fail
          refine hQ.mono ?_
          rintro e w9 ⟨rfl, hb9⟩
          clear hQ
          have hB9 : Below n0 w w9 := hB8.trans (hb9.mono (by have := hB8.size; have := HN0W.out; omega))
          go_wp2
          go_ret
          exact ⟨rfl, by first | exact hB9 | (rw [HN0W.out]; exact hB9)⟩
        · have i9 : (4096 : Int) < (TT.size : Int) := by omega
          clear hy8 HR hT
          go_wp2
          go_ret
          exact ⟨rfl, by first | exact hB8 | (rw [HN0W.out]; exact hB8)⟩
      · have he5 : (e5 == 0) = false := beq_eq_false_iff_ne.2 h5
        obtain rfl := hn6 h5
        clear hy6 hn6 HRG HRS
        go_wp2
        go_ret
        exact ⟨rfl, by first | exact hB6 | (rw [HN0W.out]; exact hB6)⟩
    · have i4 : ¬ (TS.size : Int) ≤ 4096 := by omega
      clear f1 f2 f3 f4 gd wh hS9 hS3 hSl hTS hE
      have hB5 := hB3
      generalize w3 = w5 at hB5 ⊢
      clear hB3
      have hPb := O.prs l x L c w5 hL hLc hL47 (hl.kept (by rw [HN0W.out]; exact hB5)) (HKV.out w5 hB5)
      obtain ⟨R, hR⟩ : ∃ q, prsA l = q := ⟨_, rfl⟩
      have HRG := fun h => read_good l h
      have HRS := fun h => read_size l h
      rw [hR] at hPb HRG HRS
      obtain ⟨d5, e5, p5⟩ := R
      clear hR
      go_wp2_with fail
      refine hPb.mono ?_
      rintro e w6 ⟨x6, rfl, hy6, hn6, hb6⟩
      clear hPb
      simp only at hy6 hn6 HRG HRS
      have hB6 : Below n0 w w6 := hB5.trans (hb6.mono (by have := hB5.size; have := HN0W.out; omega))
      clear hB5 hb6
      by_cases h5 : e5 = 0
      · have he5 : (e5 == 0) = true := beq_iff_eq.2 h5
        have hx6 := hy6 h5
        obtain ⟨g5, g6⟩ := HRG h5
        obtain ⟨e9, s9⟩ := gd_prt d5 g5 g6
        have hz5 := HRS h5
        have hPx := O.prt d5 _ x6 w6 hx6.g hz5 (Nat.le_trans g6 (by omega)) (HKV.out w6 hB6)
        unfold PtP at hPx
        rw [e9, s9] at hPx
        have HT : Hid ((txtN d5).length ≤ 4096 → prsA (txtN d5) = (d5, 0, 0)) := fun h => prs_txt d5 g5 g6 h
        have HTL := txtN_len d5
        obtain ⟨TT, hTT⟩ : ∃ q : ByteArray, ⟨(txtN d5).toArray⟩ = q := ⟨_, rfl⟩
        have hTl : lS TT = txtN d5 := by rw [← hTT]; rfl
        have hTs : TT.size = (txtN d5).length := by rw [← lS_len, hTl]
        rw [hTT] at hPx
        clear hy6 hn6 HRG HRS e9 s9 g5 g6 hTT
        go_wp2_with fail
        refine hPx.mono ?_
        rintro e w7 ⟨rfl, hb7⟩
        clear hPx
        have hB7 : Below n0 w w7 := hB6.trans (hb7.mono (by have := hB6.size; have := HN0W.out; omega))
        have hx7 := hx6.kept hb7
        obtain ⟨C7, W7, hcv7, hC7, hbW7, iW7⟩ := conv14 w7 TT
        have hBW7 : Below n0 w W7 := hB7.trans (hbW7.mono (by have := hB7.size; have := HN0W.out; omega))
        have hxW := hx7.kept hbW7
        rw [hTl] at iW7
        have hPt := O.prs (txtN d5) _ TT.size C7 W7 hTs.symm hC7 (by omega) iW7 (HKV.out W7 hBW7)
        clear hb7 hx7 hx6 hbW7 iW7 hB6 hB7
        obtain ⟨R, hR⟩ : ∃ q, prsA (txtN d5) = q := ⟨_, rfl⟩
        have HR : Hid (TT.size ≤ 4096 → R = (d5, 0, 0)) := fun h => by rw [← hR]; exact HT.out (by rw [← hTs]; exact h)
        rw [hR] at hPt
        clear hR HT hTs hTl HTL
        go_wp2_with fail
        refine hPt.mono ?_
        rintro e w8 ⟨x8, rfl, hy8, -, hb8⟩
        clear hPt hcv7
        have hB8 : Below n0 w w8 := hBW7.trans (hb8.mono (by have := hBW7.size; have := HN0W.out; omega))
        have hx8 := hxW.kept hb8
        by_cases hT : TT.size ≤ 4096
        · have i9 : ¬ (4096 : Int) < (TT.size : Int) := by omega
          obtain rfl := HR.out hT
          have hv8 := hy8 rfl
          have hQ := equal15_any d5 _ _ x6 x8 w8 hx8 hv8
          clear hy8 HR hT
          go_wp2_with fail
          refine hQ.mono ?_
          rintro e w9 ⟨rfl, hb9⟩
          clear hQ
          have hB9 : Below n0 w w9 := hB8.trans (hb9.mono (by have := hB8.size; have := HN0W.out; omega))
          go_wp2
          go_ret
          exact ⟨rfl, by first | exact hB9 | (rw [HN0W.out]; exact hB9)⟩
        · have i9 : (4096 : Int) < (TT.size : Int) := by omega
          clear hy8 HR hT
          go_wp2
          go_ret
          exact ⟨rfl, by first | exact hB8 | (rw [HN0W.out]; exact hB8)⟩
      · have he5 : (e5 == 0) = false := beq_eq_false_iff_ne.2 h5
        obtain rfl := hn6 h5
        clear hy6 hn6 HRG HRS
        go_wp2
        go_ret
        exact ⟨rfl, by first | exact hB6 | (rw [HN0W.out]; exact hB6)⟩
  · have he0 : (E == 0) = false := beq_eq_false_iff_ne.2 h0
    obtain rfl : TS = ⟨#[]⟩ := by
      rw [← hTS]
      unfold prtS
      rw [if_neg (by rw [hE]; exact h0)]
    clear hS3 hSl hTS hE
    have hB5 := hB3
    generalize w3 = w5 at hB5 ⊢
    clear hB3
    have hPb := O.prs l x L c w5 hL hLc hL47 (hl.kept (by rw [HN0W.out]; exact hB5)) (HKV.out w5 hB5)
    obtain ⟨R, hR⟩ : ∃ q, prsA l = q := ⟨_, rfl⟩
    have HRG := fun h => read_good l h
    have HRS := fun h => read_size l h
    rw [hR] at hPb HRG HRS
    obtain ⟨d5, e5, p5⟩ := R
    clear hR
    go_wp2_with fail
    refine hPb.mono ?_
    rintro e w6 ⟨x6, rfl, hy6, hn6, hb6⟩
    clear hPb
    simp only at hy6 hn6 HRG HRS
    have hB6 : Below n0 w w6 := hB5.trans (hb6.mono (by have := hB5.size; have := HN0W.out; omega))
    clear hB5 hb6
    by_cases h5 : e5 = 0
    · have he5 : (e5 == 0) = true := beq_iff_eq.2 h5
      have hx6 := hy6 h5
      obtain ⟨g5, g6⟩ := HRG h5
      obtain ⟨e9, s9⟩ := gd_prt d5 g5 g6
      have hz5 := HRS h5
      have hPx := O.prt d5 _ x6 w6 hx6.g hz5 (Nat.le_trans g6 (by omega)) (HKV.out w6 hB6)
      unfold PtP at hPx
      rw [e9, s9] at hPx
      have HT : Hid ((txtN d5).length ≤ 4096 → prsA (txtN d5) = (d5, 0, 0)) := fun h => prs_txt d5 g5 g6 h
      have HTL := txtN_len d5
      obtain ⟨TT, hTT⟩ : ∃ q : ByteArray, ⟨(txtN d5).toArray⟩ = q := ⟨_, rfl⟩
      have hTl : lS TT = txtN d5 := by rw [← hTT]; rfl
      have hTs : TT.size = (txtN d5).length := by rw [← lS_len, hTl]
      rw [hTT] at hPx
      clear hy6 hn6 HRG HRS e9 s9 g5 g6 hTT
      go_wp2_with fail
      refine hPx.mono ?_
      rintro e w7 ⟨rfl, hb7⟩
      clear hPx
      have hB7 : Below n0 w w7 := hB6.trans (hb7.mono (by have := hB6.size; have := HN0W.out; omega))
      have hx7 := hx6.kept hb7
      obtain ⟨C7, W7, hcv7, hC7, hbW7, iW7⟩ := conv14 w7 TT
      have hBW7 : Below n0 w W7 := hB7.trans (hbW7.mono (by have := hB7.size; have := HN0W.out; omega))
      have hxW := hx7.kept hbW7
      rw [hTl] at iW7
      have hPt := O.prs (txtN d5) _ TT.size C7 W7 hTs.symm hC7 (by omega) iW7 (HKV.out W7 hBW7)
      clear hb7 hx7 hx6 hbW7 iW7 hB6 hB7
      obtain ⟨R, hR⟩ : ∃ q, prsA (txtN d5) = q := ⟨_, rfl⟩
      have HR : Hid (TT.size ≤ 4096 → R = (d5, 0, 0)) := fun h => by rw [← hR]; exact HT.out (by rw [← hTs]; exact h)
      rw [hR] at hPt
      clear hR HT hTs hTl HTL
      go_wp2_with fail
      refine hPt.mono ?_
      rintro e w8 ⟨x8, rfl, hy8, -, hb8⟩
      clear hPt hcv7
      have hB8 : Below n0 w w8 := hBW7.trans (hb8.mono (by have := hBW7.size; have := HN0W.out; omega))
      have hx8 := hxW.kept hb8
      by_cases hT : TT.size ≤ 4096
      · have i9 : ¬ (4096 : Int) < (TT.size : Int) := by omega
        obtain rfl := HR.out hT
        have hv8 := hy8 rfl
        have hQ := equal15_any d5 _ _ x6 x8 w8 hx8 hv8
        clear hy8 HR hT
        go_wp2_with fail
        refine hQ.mono ?_
        rintro e w9 ⟨rfl, hb9⟩
        clear hQ
        have hB9 : Below n0 w w9 := hB8.trans (hb9.mono (by have := hB8.size; have := HN0W.out; omega))
        go_wp2
        go_ret
        exact ⟨rfl, by first | exact hB9 | (rw [HN0W.out]; exact hB9)⟩
      · have i9 : (4096 : Int) < (TT.size : Int) := by omega
        clear hy8 HR hT
        go_wp2
        go_ret
        exact ⟨rfl, by first | exact hB8 | (rw [HN0W.out]; exact hB8)⟩
    · have he5 : (e5 == 0) = false := beq_eq_false_iff_ne.2 h5
      obtain rfl := hn6 h5
      clear hy6 hn6 HRG HRS
      go_wp2
      go_ret
      exact ⟨rfl, by first | exact hB6 | (rw [HN0W.out]; exact hB6)⟩
end Go.Proofs.YtddmmmfpdmejbaaGreatDoor
