
import Derived.Test.YtfnffkommcepoaaBit8
namespace Go.Proofs.Ytfnffkommcepoaa
open Go.RowKit

/-! BitsPuts -/
theorem bV_cut (b : List Bool) (n : Nat) (h : b.length = n) : (bV (b ++ [true])).take n = bV b := by
  rw [bV_take]; simp [h]
theorem rep_set (s : Sc) (l : List Sc) (i : Nat) (h : i < l.length) : (List.replicate i s ++ l.drop i).set i s = List.replicate (i + 1) s ++ l.drop (i + 1) := by
  rw [List.set_append_right _ _ (by simp), List.length_replicate, Nat.sub_self, List.drop_eq_getElem_cons h, List.set_cons_zero, List.replicate_succ', List.append_assoc]
  rfl
theorem kS_same (l : List Sc) : decide (l.map kS = l.map kS) = true := by simp
set_option linter.unusedSimpArgs false in
set_option maxRecDepth 100000 in
set_option maxHeartbeats 800000 in
theorem lawBitsPuts_any (hP : PutOk) (hG : GetOk) (b : List Bool) (x : Option Addr) (n c : Nat) (w : World) (hn : b.length = n) (hl : n + 1 ≤ 140737488355328) (hb : IsG w (.slice x n c) (bV b)) :
    Calls Try.prog 4 #[.slice x n c] w fun e w' => e = .returned (.bool true) ∧ Below w.heap.size w w' := by
  obtain ⟨M, hM⟩ : ∃ M, manyN n = M := ⟨_, rfl⟩
  have hm3 := manyN_le n
  rw [hM] at hm3
  have hpl : (putL b).length = M := by rw [putL_len, hn, hM]
  obtain ⟨v1, w1, hr1, g, c2, w2, hr2, hI, hc2, hcm, hB⟩ := run_in w b x n c 22 hn hl hb
  go_enter Try.func4, Try.ntmps4
  go_wp2_with (at_builtin; first | refine wpL_appT 22 rfl _ _ rfl _ w1 (by exact hr1) ?_ | refine wpL_appT 22 rfl _ _ rfl _ w2 (by exact hr2) ?_)
  clear hr1 hr2
  have hIc := hI.isG.cut (m := n) (by omega)
  rw [bV_cut b n hn] at hIc
  have hs2 := hB.size
  have hput := hP b (some ⟨g, 0, none⟩) n c2 w2 hn (by omega) hcm (by omega) hIc
  rw [hM] at hput
  go_at_call 7
  refine hput.mono ?_
  rintro e w3 ⟨xx, cx, rfl, hX, hB3⟩
  clear hput
  have hput := hP b (some ⟨g, 0, none⟩) n c2 w3 hn (by omega) hcm (by omega) (hIc.kept hB3)
  rw [hM] at hput
  go_wp2_with fail
  go_at_call 7
  refine hput.mono ?_
  rintro e w4 ⟨xy, cy, rfl, hY, hB4⟩
  clear hput hIc
  have hXlt := hX.lt
  have hYlt := hY.lt
  have hs34 := hB4.size
  have hs23 := hB3.size
  have hXY := apart_of w3.heap.size (fun k hk => (hXlt k hk).2) (fun k hk => (hYlt k hk).1)
  have hIX := apart_of (u := .slice (some ⟨g, 0, none⟩) (n + 1) c2) w2.heap.size (fun k hk => (hI.lt k hk).2) (fun k hk => (hXlt k hk).1)
  replace hI := (hI.keep hB3).keep hB4
  replace hX := hX.keep hB4
  replace hB := (hB.trans (hB3.mono hB.size)).trans (hB4.mono (by have := hB.size; omega))
  have hput := refPut_any b x n c w4 hn (by omega) (hb.kept hB)
  rw [hM] at hput
  go_wp2_with fail
  go_at_call 11
  refine hput.mono ?_
  rintro e w5 ⟨xw, cw, rfl, hW, hB5⟩
  clear hput hB3 hB4
  have hWlt := hW.lt
  have hXW := apart_of w4.heap.size (fun k hk => by have := (hXlt k hk).2; omega) (fun k hk => (hWlt k hk).1)
  have hYW := apart_of w4.heap.size (fun k hk => (hYlt k hk).2) (fun k hk => (hWlt k hk).1)
  replace hI := hI.keep hB5
  replace hX := hX.keep hB5
  replace hY := hY.keep hB5
  replace hB := hB.trans (hB5.mono hB.size)
  replace hX := hX.le hs2
  replace hY := hY.le (show w.heap.size ≤ w3.heap.size by omega)
  replace hW := hW.le (show w.heap.size ≤ w4.heap.size by omega)
  clear hB5 hXlt hYlt hWlt hs2 hs23 hs34
  have hss := sameS7_any xx xw cx cw M M (putL b) (putL b) w5 hpl hpl (hX.isK secE_ok) (hW.isK secE_ok) (by omega)
  rw [kS_same] at hss
  go_wp2_with fail
  go_at_call 12
  refine hss.mono ?_
  rintro e w6 ⟨rfl, hB6⟩
  clear hss
  replace hI := hI.keep hB6
  replace hX := hX.keep hB6
  replace hY := hY.keep hB6
  replace hW := hW.keep hB6
  replace hB := hB.trans (hB6.mono hB.size)
  clear hB6
  have hss := sameS7_any xy xw cy cw M M (putL b) (putL b) w6 hpl hpl (hY.isK secE_ok) (hW.isK secE_ok) (by omega)
  rw [kS_same] at hss
  go_wp2_with fail
  go_at_call 12
  refine hss.mono ?_
  rintro e w7 ⟨rfl, hB6⟩
  clear hss
  replace hI := hI.keep hB6
  replace hX := hX.keep hB6
  replace hY := hY.keep hB6
  replace hW := hW.keep hB6
  replace hB := hB.trans (hB6.mono hB.size)
  clear hB6
  have hIc := hI.isG.cut (m := n) (by omega)
  rw [bV_cut b n hn] at hIc
  have hsb := sameB_any (some ⟨g, 0, none⟩) x c2 c n n b b w7 hn hn hIc (hb.kept hB) (by omega)
  simp only [decide_true] at hsb
  go_wp2_with fail
  go_at_call 13
  refine hsb.mono ?_
  rintro e w8 ⟨rfl, hB6⟩
  clear hsb hIc
  replace hI := hI.keep hB6
  replace hX := hX.keep hB6
  replace hY := hY.keep hB6
  replace hW := hW.keep hB6
  replace hB := hB.trans (hB6.mono hB.size)
  clear hB6
  have hin := hI.cell n (.bool true) (by rw [bV_at]; simp [hn])
  have hnn : (n : Int) < (n : Int) + 1 := by omega
  go_upto_region 7 with fail
  clear hin hnn hI hIX
  have HX : Hid (OwnK secE w8 w.heap.size (.slice xx M cx) (putL b)) := hX
  have HY : Hid (OwnK secE w8 w.heap.size (.slice xy M cy) (putL b)) := hY
  have HW : Hid (OwnK secE w8 w.heap.size (.slice xw M cw) (putL b)) := hW
  have HB : Hid (Below w.heap.size w w8) := hB
  clear hX hY hW hB
  go_wp2_with fail
  go_loopw [55] (fun v wr => ∃ i : Nat, i ≤ M ∧ v = .int .i64 i ∧ OwnK secE wr w.heap.size (.slice xx M cx) (List.replicate i (oneS 200) ++ (putL b).drop i) ∧ OwnK secE wr w.heap.size (.slice xy M cy) (putL b) ∧ OwnK secE wr w.heap.size (.slice xw M cw) (putL b) ∧ Below w.heap.size w wr) (fun v _ => M - (intOf v).toNat)
  case atStart => exact ⟨0, by omega, rfl, HX.out, HY.out, HW.out, HB.out⟩
  case round =>
    clear HX HY HW HB
    obtain ⟨i, hi, rfl, hX, hY, hW, hB⟩ := hrel
    by_cases hlt : i < M
    · have hlt' : (i : Int) < (M : Int) := by omega
      have hll : (List.replicate i (oneS 200) ++ (putL b).drop i).length = M := by simp [hpl]; omega
      obtain ⟨gx, rfl, -⟩ := hX.form (by rw [hll]; omega)
      have hst := hX.store secE_ok i (oneS 200) (by omega)
      have hX2 := hX.put secE_ok i (oneS 200) (by omega)
      have hgr := grown_setC wr gx (i * 64) (secE.enc (oneS 200))
      rw [secE_k] at hst hX2
      rw [secE_arr] at hst
      rw [rep_set _ _ _ (by omega)] at hX2
      have hY2 := hY.grown hgr hXY.2
      have hW2 := hW.grown hgr hXW.2
      have hB2 := hB.trans (hX.below hgr hB.size)
      have hst2 : (secStore (.pointer (some ⟨gx, i * 64, none⟩)) (.agg (secA (oneS 200)))).run Try.prog wr = .ok .skip (wr.setCells gx (i * 64) (secE.enc (oneS 200))) := by
        have h9 : (Instr.storeAt 29 (.pointer (some ⟨gx, i * 64, none⟩)) (.agg (secA (oneS 200)))).run Try.prog wr = .ok () (wr.setCells gx (i * 64) (secE.enc (oneS 200))) := hst
        simp only [secStore, Sem.run_bind, h9, Result.andThen_ok]
        rfl
      have HX : Hid _ := hX2
      have HY : Hid _ := hY2
      have HW : Hid _ := hW2
      have HB : Hid _ := hB2
      clear hst hX hY hW hB hX2 hY2 hW2 hB2 hgr hll
      generalize wr.setCells gx (i * 64) (secE.enc (oneS 200)) = X at hst2 HX HY HW HB
      go_wp2
      go_roundw
      case rel => exact ⟨i + 1, by omega, by go_num, HX.out, HY.out, HW.out, HB.out⟩
      case measure => simp [intOf]; omega
    · obtain rfl : i = M := by omega
      rw [List.drop_of_length_le (by omega), List.append_nil] at hX
      obtain ⟨g1, c1, wA, hrA, hX1, hBA, hstay⟩ := app_apartK wr w.heap.size xx i cx (List.replicate i (oneS 200)) (oneS 201) 24 hX hB.size (by omega)
      obtain ⟨hY1, hYX⟩ := hstay _ _ _ _ _ hY hXY.2
      obtain ⟨hW1, hWX⟩ := hstay _ _ _ _ _ hW hXW.2
      have hB1 := hB.trans hBA
      clear hstay hX hY hW hB hBA
      obtain ⟨g2, c3, wC, hrC, hY2, hBC, hstay⟩ := app_apartK wA w.heap.size xy i cy (putL b) (oneS 202) 24 hY1 hB1.size (by omega)
      obtain ⟨hX2, -⟩ := hstay _ _ _ _ _ hX1 hYX.symm
      obtain ⟨hW2, -⟩ := hstay _ _ _ _ _ hW1 hYW.2
      have hB2 := hB1.trans hBC
      clear hstay hX1 hY1 hW1 hB1 hBC hYX hWX hXY hXW hYW
      have HX : Hid (OwnK secE wC w.heap.size (.slice (some ⟨g1, 0, none⟩) (i + 1) c1) (List.replicate i (oneS 200) ++ [oneS 201])) := hX2
      have HY : Hid (OwnK secE wC w.heap.size (.slice (some ⟨g2, 0, none⟩) (i + 1) c3) (putL b ++ [oneS 202])) := hY2
      have HW : Hid (OwnK secE wC w.heap.size (.slice xw i cw) (putL b)) := hW2
      have HB : Hid (Below w.heap.size w wC) := hB2
      clear hX2 hY2 hW2 hB2
      go_upto_region 13 with (at_builtin; refine wpL_appT 24 rfl _ _ rfl _ wA (by exact hrA) ?_)
      clear hrA
      go_wp2_with (at_builtin; refine wpL_appT 24 rfl _ _ rfl _ wC (by exact hrC) ?_)
      clear hrC
      go_loopw [73] (fun v wq => wq = wC ∧ ∃ j : Nat, j ≤ i ∧ v = .int .i64 j) (fun v _ => i - (intOf v).toNat)
      case atStart => exact ⟨rfl, 0, by omega, rfl⟩
      case round =>
        obtain ⟨rfl, j, hj, rfl⟩ := hrel
        by_cases hjn : j < i
        · have hjn' : (j : Int) < (i : Int) := by omega
          have hji1 : (j : Int) < (i : Int) + 1 := by omega
          have hr := OwnK.range secE_ok HX.out j (oneS 200) (by rw [List.getElem?_append_left (by simp; exact hjn), List.getElem?_replicate, if_pos hjn])
          obtain ⟨ok2, rg2⟩ := rg_of hr (secE_ok.len _)
          rw [secE_arr] at rg2
          rw [secE_k] at ok2 rg2
          have heq := secEq_self7 (oneS 200)
          clear hr
          go_wp2
          go_roundw
          case rel => exact ⟨trivial, j + 1, by omega, by go_num⟩
          case measure => simp [intOf]; omega
        · obtain rfl : j = i := by omega
          have hYc := OwnK.cut secE_ok HY.out j (by omega)
          have e9 : (putL b ++ [oneS 202]).take j = putL b := by simp [hpl]
          rw [e9] at hYc
          have hss := sameS7_any (some ⟨g2, 0, none⟩) xw c3 cw j j (putL b) (putL b) wr hpl hpl (hYc.isK secE_ok) (OwnK.isK secE_ok HW.out) (by omega)
          rw [kS_same] at hss
          have hcx := OwnK.cellAt HX.out j (oneS 201) (by rw [List.getElem?_append_right (by simp)]; simp) 0 (by omega)
          have hcy : ((oneS 201) 0).toNat = 201 := by decide
          rw [hcy, Nat.add_zero] at hcx
          have hjj : (j : Int) < (j : Int) + 1 := by omega
          have hc3 : j ≤ c3 := by
            obtain ⟨_, _, _, _, h4, _⟩ := OwnK.heap HY.out
            omega
          clear hYc e9 hcy
          go_wp2_with fail
          go_at_call 12
          refine hss.mono ?_
          rintro e w9 ⟨rfl, hB9⟩
          clear hss
          have hcx2 := cell_later hB9 hcx
          have HB2 := HB.out.trans (hB9.mono (Below.size HB.out))
          clear hcx HX HY HW HB hB9
          go_wp2_with fail
          go_at_call 8
          refine (known7_any hP hG _).mono ?_
          rintro e w10 ⟨rfl, hB10⟩
          have HB3 := HB2.trans (hB10.mono HB2.size)
          clear HB2 hB10 hcx2
          go_wp2
          go_ret
          exact ⟨rfl, HB3⟩
end Go.Proofs.Ytfnffkommcepoaa
