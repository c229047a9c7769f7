
import Derived.Test.YtfnffkommcepoaaLot
import Derived.Test.YtfnffkommcepoaaBit7
import Derived.Test.YtfnffkommcepoaaLawBitsPuts
namespace Go.Proofs.Ytfnffkommcepoaa
open Go.RowKit

/-! BitsGets -/
theorem take_one {α : Type} (l : List α) (a : α) (n : Nat) (h : l.length = n) : (l ++ [a]).take n = l := by subst h; simp
/-- in := append(append([]api.Sector{}, s...), api.Sector{7}) -/
theorem run_inS (w : World) (ds : List Sc) (x : Option Addr) (M c : Nat) (ty : TypeId) (hl : ds.length = M) (hM : M ≤ 3) (h : IsK secE w (.slice x M c) ds) :
    ∃ v1 w1, (Builtin.append_ #[24, 24] ty #[.slice (some ⟨w.heap.size, 0, none⟩) 0 0, .slice x M c]).run Try.prog (w.alloc (.cells #[] 29)) = .ok v1 w1 ∧
      ∃ g c2 w2, (Builtin.append_ #[24, 24] ty #[v1, .slice (some ⟨w1.heap.size, 0, none⟩) 1 1]).run Try.prog (w1.alloc (.cells (secA (oneS 7)) 29)) = .ok (.slice (some ⟨g, 0, none⟩) (M + 1) c2) w2 ∧
        OwnK secE w2 w.heap.size (.slice (some ⟨g, 0, none⟩) (M + 1) c2) (ds ++ [oneS 7]) ∧ M + 1 ≤ c2 ∧ Below w.heap.size w w2 := by
  subst hl
  have h0 : OwnK secE (w.alloc (.cells #[] 29)) w.heap.size (.slice (some ⟨w.heap.size, 0, none⟩) 0 0) [] := OwnK.lit0 secE w
  obtain ⟨y, c', w1, hr1, hO1, hB1⟩ := run_copyK secE_ok (w.alloc (.cells #[] 29)) (.slice (some ⟨w.heap.size, 0, none⟩) 0 0) x c ds w.heap.size ty h0 (by simp) (h.kept (below_alloc _ _)) (by show ds.length * 64 ≤ _; omega) (by unfold maxLen; omega)
  have hBw : Below w.heap.size w w1 := (below_alloc w _).trans hB1
  obtain ⟨g, c2, w2, hr2, hO2, hB2, -⟩ := app_apartK w1 w.heap.size y ds.length c' ds (oneS 7) ty hO1 hBw.size (by omega)
  have hc2 : ds.length + 1 ≤ c2 := by
    obtain ⟨_, _, _, _, h4, _⟩ := hO2.heap
    exact h4
  exact ⟨_, w1, hr1, g, c2, w2, hr2, hO2, hc2, hBw.trans hB2⟩
set_option linter.unusedSimpArgs false in
set_option maxRecDepth 100000 in
set_option maxHeartbeats 2000000 in
theorem gets_small (hP : PutOk) (hG : GetOk) (b : List Bool) (x : Option Addr) (n c : Nat) (ps : List Pt) (xp : Option Addr) (np cp : Nat) (q0 : Int) (w : World) (hn : b.length = n) (hbig : ¬ 1100 < n) (hb : IsG w (.slice x n c) (bV b))
    (hnp : ps.length = np) (hlp : np ≤ 140737488355328) (hp : IsK patE w (.slice xp np cp) ps) (hq0 : -9223372036854775808 ≤ q0 ∧ q0 ≤ 9223372036854775807) :
    Calls Try.prog 6 #[.slice x n c, .slice xp np cp, .int .i64 q0] w fun e w' => e = .returned (.bool true) ∧ Below w.heap.size w w' := by
  have hbig' : ¬ (1100 : Int) < (n : Int) := by omega
  have hm3 := manyN_le n
  obtain ⟨M, hM⟩ : ∃ M, manyN n = M := ⟨_, rfl⟩
  have hpat := patched_any b x n c ps xp np cp w hn (by omega) hb hnp hlp hp
  rw [hM] at hpat hm3
  have hqn : -9223372036854775808 ≤ (n : Int) ∧ (n : Int) ≤ 9223372036854775807 := by omega
  go_enter Try.func6, Try.ntmps6
  go_wp2_with fail
  go_at_call 14
  refine hpat.mono ?_
  rintro e w1 ⟨ys, cs, ds, rfl, hdl, hS, hB1⟩
  clear hpat
  obtain ⟨v1, wa, hra, g, c2, w2, hrb, hI, hc2, hB2⟩ := run_inS w1 ds ys M cs 24 hdl hm3 (hS.isK secE_ok)
  replace hS := hS.keep hB2
  have hBw := hB1.trans (hB2.mono hB1.size)
  clear hB1 hB2
  go_upto_region 5 with (at_builtin; first | refine wpL_appT 24 rfl _ _ rfl _ wa (by exact hra) ?_ | refine wpL_appT 24 rfl _ _ rfl _ w2 (by exact hrb) ?_)
  clear hra hrb
  have hT := OwnG.lit 3 w2 (iV [q0, (n : Int)]) (show 2 ≤ maxLen by decide)
  have eT : (iV [q0, (n : Int)]).toArray = #[Value.int .i64 q0, Value.int .i64 (n : Int)] := rfl
  have eT2 : (iV [q0, (n : Int)]).length = 2 := rfl
  rw [eT, eT2] at hT
  clear eT eT2
  have hAl : Below w2.heap.size w2 (w2.alloc (.cells #[Value.int .i64 q0, Value.int .i64 (n : Int)] 3)) := below_alloc _ _
  replace hS := hS.keep hAl
  replace hI := hI.keep hAl
  replace hBw := hBw.trans (hAl.mono hBw.size)
  clear hAl
  have hSK := hS.isK secE_ok
  have hIc := hI.cut secE_ok M (by omega)
  rw [take_one ds _ M hdl] at hIc
  have hIK := hIc.isK secE_ok
  have hI7 := hI.range secE_ok M (oneS 7) (by rw [List.getElem?_append_right (by omega)]; simp [hdl])
  have hgI := (hI.lt g rfl).2
  have HBw : Hid (Below w.heap.size w (w2.alloc (.cells #[Value.int .i64 q0, Value.int .i64 (n : Int)] 3))) := hBw
  clear hS hI hIc hBw
  go_wp2_with fail
  obtain ⟨gt, hgt⟩ : ∃ g, w2.heap.size = g := ⟨_, rfl⟩
  have hTi : IsG (w2.alloc (.cells #[Value.int .i64 q0, Value.int .i64 (n : Int)] 3)) (.slice (some ⟨gt, 0, none⟩) 2 2) (iV [q0, (n : Int)]) := by rw [← hgt]; exact hT.isG
  simp only [hgt]
  clear hT hgt
  generalize w2.alloc (.cells #[Value.int .i64 q0, Value.int .i64 (n : Int)] 3) = W0 at hSK hIK hI7 hgI HBw hTi ⊢
  go_loopw [38] (fun v wr => ∃ j : Nat, j ≤ 2 ∧ v = .int .i64 j ∧ Below W0.heap.size W0 wr) (fun v _ => 2 - (intOf v).toNat)
  case atStart => exact ⟨0, by omega, rfl, Below.refl _ _⟩
  case round =>
    obtain ⟨j, hj, rfl, hBj⟩ := hrel
    obtain ⟨W, rfl⟩ : ∃ W, W = wr := ⟨_, rfl⟩
    by_cases hj2 : j < 2
    · have hj2' : (j : Int) < 2 := by omega
      obtain ⟨q, hq, hqb⟩ : ∃ q : Int, [q0, (n : Int)][j]? = some q ∧ (-9223372036854775808 ≤ q ∧ q ≤ 9223372036854775807) := by
        rcases (by omega : j = 0 ∨ j = 1) with rfl | rfl
        · exact ⟨q0, rfl, hq0⟩
        · exact ⟨(n : Int), rfl, hqn⟩
      obtain ⟨gt', ot', het, hgt', hct⟩ := (hTi.kept hBj).spot j (by simp [iV]; omega)
      cases het
      have hcq := hct j _ (iV_at hq)
      rw [Nat.zero_add] at hcq
      have hget := hG ds (some ⟨g, 0, none⟩) M c2 q W hdl hm3 hqb.1 hqb.2 (hIK.kept hBj)
      obtain ⟨bits, hbits⟩ : ∃ x, getBits ds q.toNat = x := ⟨_, rfl⟩
      obtain ⟨bads, hbads⟩ : ∃ x, getBad ds q.toNat = x := ⟨_, rfl⟩
      have hbl3 := bad_len ds q.toNat
      have hbtl : (getBits ds q.toNat).length ≤ 1024 := by
        by_cases hok : manyN q.toNat ≠ 0 ∧ ds.length = manyN q.toNat
        · rw [getBits_len hok]; exact (manyN_pos.1 hok.1).2
        · unfold getBits; rw [if_neg hok]; simp
      rw [hbits, hbads] at hget
      rw [hbads] at hbl3
      rw [hbits] at hbtl
      clear hct hq
      go_wp2_with fail
      go_at_call 9
      refine hget.mono ?_
      rintro e wA ⟨u1, v1', rfl, hu1, hv1, ha1, hBA⟩
      clear hget hcq
      have hL := (Lot.nil W W.heap.size).add2 hBA (Nat.le_refl _) (ogE 4 u1 (bV bits)) (ogE 3 v1' (iV (nI bads))) hu1 hv1 ha1
      rw [List.nil_append] at hL
      have hget := hG ds (some ⟨g, 0, none⟩) M c2 q wA hdl hm3 hqb.1 hqb.2 ((hIK.kept hBj).kept hBA)
      rw [hbits, hbads] at hget
      obtain ⟨x1, k1, rfl⟩ := hu1.len
      obtain ⟨x2, k2, rfl⟩ := hv1.len
      clear hu1 hv1 ha1
      go_wp2_with fail
      go_at_call 9
      refine hget.mono ?_
      rintro e wB ⟨u2, v2, rfl, hu2, hv2, ha2, hBB⟩
      clear hget
      replace hL := hL.add2 hBB hBA.size (ogE 4 u2 (bV bits)) (ogE 3 v2 (iV (nI bads))) hu2 hv2 ha2
      have hBW := hBA.trans (hBB.mono hBA.size)
      have hget := refGet_any ds ys M cs q wB hdl hm3 hqb.1 hqb.2 ((hSK.kept hBj).kept hBW)
      rw [hbits, hbads] at hget
      obtain ⟨x3, k3, rfl⟩ := hu2.len
      obtain ⟨x4, k4, rfl⟩ := hv2.len
      clear hu2 hv2 ha2 hBA hBB
      go_wp2_with fail
      go_at_call 15
      refine hget.mono ?_
      rintro e wC ⟨u3, v3, rfl, hu3, hv3, ha3, hBC⟩
      clear hget
      replace hL := hL.add2 hBC hBW.size (ogE 4 u3 (bV bits)) (ogE 3 v3 (iV (nI bads))) hu3 hv3 ha3
      replace hBW := hBW.trans (hBC.mono hBW.size)
      obtain ⟨x5, k5, rfl⟩ := hu3.len
      obtain ⟨x6, k6, rfl⟩ := hv3.len
      clear hu3 hv3 ha3 hBC hbits hbads
      simp only [List.cons_append, List.nil_append] at hL
      rw [bV_len, iV_len, nI_len] at hL ⊢
      obtain ⟨nb, hnb⟩ : ∃ nb, bits.length = nb := ⟨_, rfl⟩
      obtain ⟨nq, hnq⟩ : ∃ nq, bads.length = nq := ⟨_, rfl⟩
      have hnI : (nI bads).length = nq := by rw [nI_len, hnq]
      rw [hnb, hnq] at hL ⊢
      rw [hnb] at hbtl
      rw [hnq] at hbl3
      have hnq3 : nq ≤ 3 := by omega
      have hs := sameB_any x1 x5 k1 k5 nb nb bits bits wC hnb hnb (hL.g 0 rfl).isG (hL.g 4 rfl).isG (by omega)
      simp only [decide_true] at hs
      go_wp2_with fail
      go_at_call 13
      refine hs.mono ?_
      rintro e wD ⟨rfl, hBn⟩
      clear hs
      replace hL := hL.keep hBn
      replace hBW := hBW.trans (hBn.mono hBW.size)
      clear hBn
      have hs := sameI_any x2 x6 k2 k6 nq nq (nI bads) (nI bads) wD hnI hnI (hL.g 1 rfl).isG (hL.g 5 rfl).isG (by omega)
      simp only [decide_true] at hs
      go_wp2_with fail
      go_at_call 10
      refine hs.mono ?_
      rintro e wE ⟨rfl, hBn⟩
      clear hs
      replace hL := hL.keep hBn
      replace hBW := hBW.trans (hBn.mono hBW.size)
      clear hBn
      have hs := sameB_any x3 x5 k3 k5 nb nb bits bits wE hnb hnb (hL.g 2 rfl).isG (hL.g 4 rfl).isG (by omega)
      simp only [decide_true] at hs
      go_wp2_with fail
      go_at_call 13
      refine hs.mono ?_
      rintro e wF ⟨rfl, hBn⟩
      clear hs
      replace hL := hL.keep hBn
      replace hBW := hBW.trans (hBn.mono hBW.size)
      clear hBn
      have hs := sameI_any x4 x6 k4 k6 nq nq (nI bads) (nI bads) wF hnI hnI (hL.g 3 rfl).isG (hL.g 5 rfl).isG (by omega)
      simp only [decide_true] at hs
      go_wp2_with fail
      go_at_call 10
      refine hs.mono ?_
      rintro e wG ⟨rfl, hBn⟩
      clear hs
      replace hL := hL.keep hBn
      replace hBW := hBW.trans (hBn.mono hBW.size)
      clear hBn
      have hs := sameS7_any (some ⟨g, 0, none⟩) ys c2 cs M M ds ds wG hdl hdl ((hIK.kept hBj).kept hBW) ((hSK.kept hBj).kept hBW) (by omega)
      rw [kS_same] at hs
      go_wp2_with fail
      go_at_call 12
      refine hs.mono ?_
      rintro e wH ⟨rfl, hBn⟩
      clear hs
      replace hL := hL.keep hBn
      replace hBW := hBW.trans (hBn.mono hBW.size)
      clear hBn
      obtain ⟨ok7, rg7⟩ := rg_of (range_later (range_later hI7 hBj) hBW) (secE_ok.len (oneS 7))
      rw [secE_arr] at rg7
      rw [secE_k] at ok7 rg7
      have hM1 : (M : Int) < (M : Int) + 1 := by omega
      have heq7 := secEq_self7 (oneS 7)
      go_upto_region 13 with fail
      clear ok7 rg7 hM1 heq7
      have HL : Hid (Lot wH W.heap.size [ogE 4 (.slice x1 nb k1) (bV bits), ogE 3 (.slice x2 nq k2) (iV (nI bads)), ogE 4 (.slice x3 nb k3) (bV bits), ogE 3 (.slice x4 nq k4) (iV (nI bads)), ogE 4 (.slice x5 nb k5) (bV bits), ogE 3 (.slice x6 nq k6) (iV (nI bads))]) := hL
      have HBW : Hid (Below W.heap.size W wH) := hBW
      clear hL hBW
      go_wp2_with fail
      go_loopw [108] (fun v wr => ∃ (i : Nat) (xl : List Bool), i ≤ nb ∧ v = .int .i64 i ∧ xl.length = nb ∧ Lot wr W.heap.size [ogE 4 (.slice x1 nb k1) (bV xl), ogE 3 (.slice x2 nq k2) (iV (nI bads)), ogE 4 (.slice x3 nb k3) (bV bits), ogE 3 (.slice x4 nq k4) (iV (nI bads)), ogE 4 (.slice x5 nb k5) (bV bits), ogE 3 (.slice x6 nq k6) (iV (nI bads))] ∧ Below W.heap.size W wr) (fun v _ => nb - (intOf v).toNat)
      case atStart => exact ⟨0, bits, by omega, rfl, hnb, HL.out, HBW.out⟩
      case round =>
        clear HL HBW
        obtain ⟨i, xl, hi, rfl, hxl, hL, hBW⟩ := hrel
        by_cases hin : i < nb
        · have hin' : (i : Int) < (nb : Int) := by omega
          have h1 := hL.g 0 rfl
          obtain ⟨g1, _, he1, -, -, -, -⟩ := h1.form (by intro h; have := congrArg List.length h; rw [bV_len, hxl] at this; simp at this; omega)
          simp only [Value.slice.injEq] at he1
          obtain ⟨rfl, -, -⟩ := he1
          obtain ⟨a, ha⟩ : ∃ a, xl[i]? = some a := ⟨xl[i]'(by omega), List.getElem?_eq_getElem (by omega)⟩
          have hca := h1.cell i _ (bV_at ha)
          have hfa := h1.frozen i
          obtain ⟨hp1, hp2, hp3⟩ := put_apartG h1 hBW.size i (.bool (!a))
          rw [bV_set] at hp1
          have hL2 := hL.step 0 _ (ogE 4 (.slice (some ⟨g1, 0, none⟩) nb k1) (bV (xl.set i (!a)))) rfl hp1 (fun v e k m xs hv hap => ⟨hp3 v e k m xs hv hap, hap⟩)
          have HL : Hid _ := hL2
          have HBW : Hid _ := hBW.trans hp2
          clear hL hBW h1 hp1 hp2 hp3 hL2 ha
          go_wp2
          go_roundw
          case rel => exact ⟨i + 1, xl.set i (!a), by omega, by go_num, by rw [List.length_set]; exact hxl, HL.out, HBW.out⟩
          case measure => simp [intOf]; omega
        · obtain rfl : i = nb := by omega
          obtain ⟨wX, rfl⟩ : ∃ wX, wX = wr := ⟨_, rfl⟩
          have HL : Hid _ := hL
          have HBW : Hid _ := hBW
          clear hL hBW hin
          go_wp2_with fail
          go_loopw [122] (fun v wr => ∃ (t : Nat) (bl : List Int), t ≤ nq ∧ v = .int .i64 t ∧ bl.length = nq ∧ Lot wr W.heap.size [ogE 4 (.slice x1 i k1) (bV xl), ogE 3 (.slice x2 nq k2) (iV bl), ogE 4 (.slice x3 i k3) (bV bits), ogE 3 (.slice x4 nq k4) (iV (nI bads)), ogE 4 (.slice x5 i k5) (bV bits), ogE 3 (.slice x6 nq k6) (iV (nI bads))] ∧ Below W.heap.size W wr) (fun v _ => nq - (intOf v).toNat)
          case atStart => exact ⟨0, nI bads, by omega, rfl, hnI, HL.out, HBW.out⟩
          case round =>
            clear HL HBW
            obtain ⟨t, bl, ht, rfl, hbl, hL, hBW⟩ := hrel
            by_cases htn : t < nq
            · have htn' : (t : Int) < (nq : Int) := by omega
              have h1 := hL.g 1 rfl
              obtain ⟨g1, _, he1, -, -, -, -⟩ := h1.form (by intro h; have := congrArg List.length h; rw [iV_len, hbl] at this; simp at this; omega)
              simp only [Value.slice.injEq] at he1
              obtain ⟨rfl, -, -⟩ := he1
              obtain ⟨a, ha⟩ : ∃ a, bl[t]? = some a := ⟨bl[t]'(by omega), List.getElem?_eq_getElem (by omega)⟩
              have hca := h1.cell t _ (iV_at ha)
              have hfa := h1.frozen t
              obtain ⟨hp1, hp2, hp3⟩ := put_apartG h1 hBW.size t (.int .i64 (-5))
              have esv : (iV bl).set t (.int .i64 (-5)) = iV (bl.set t (-5)) := by simp [iV]
              rw [esv] at hp1
              have hL2 := hL.step 1 _ (ogE 3 (.slice (some ⟨g1, 0, none⟩) nq k2) (iV (bl.set t (-5)))) rfl hp1 (fun v e k m xs hv hap => ⟨hp3 v e k m xs hv hap, hap⟩)
              have HL : Hid _ := hL2
              have HBW : Hid _ := hBW.trans hp2
              clear hL hBW h1 hp1 hp2 hp3 hL2 ha esv
              go_wp2
              go_roundw
              case rel => exact ⟨t + 1, bl.set t (-5), by omega, by go_num, by rw [List.length_set]; exact hbl, HL.out, HBW.out⟩
              case measure => simp [intOf]; omega
            · obtain rfl : t = nq := by omega
              obtain ⟨g1, c1, wJ, hr1, hO1, hB1, hst⟩ := app_apartG boolsElt7 wr W.heap.size x1 i k1 (bV xl) (.bool true) 22 (hL.g 0 rfl) rfl hBW.size (by omega) (by unfold maxLen; omega)
              rw [show bV xl ++ [Value.bool true] = bV (xl ++ [true]) by simp [bV]] at hO1
              replace hL := hL.step 0 _ (ogE 4 (.slice (some ⟨g1, 0, none⟩) (i + 1) c1) (bV (xl ++ [true]))) rfl hO1 hst
              replace hBW := hBW.trans hB1
              clear hO1 hB1 hst
              obtain ⟨g2, c4, wK, hr2, hO1, hB1, hst⟩ := app_apartG intsElt wJ W.heap.size x2 t k2 (iV bl) (.int .i64 (-6)) 30 (hL.g 1 rfl) rfl hBW.size (by omega) (by unfold maxLen; omega)
              rw [show iV bl ++ [Value.int .i64 (-6)] = iV (bl ++ [-6]) by simp [iV]] at hO1
              replace hL := hL.step 1 _ (ogE 3 (.slice (some ⟨g2, 0, none⟩) (t + 1) c4) (iV (bl ++ [-6]))) rfl hO1 hst
              replace hBW := hBW.trans hB1
              clear hO1 hB1 hst
              obtain ⟨g3, c3, wL, hr3, hO1, hB1, hst⟩ := app_apartG boolsElt7 wK W.heap.size x3 i k3 (bV bits) (.bool false) 22 (hL.g 2 rfl) rfl hBW.size (by omega) (by unfold maxLen; omega)
              rw [show bV bits ++ [Value.bool false] = bV (bits ++ [false]) by simp [bV]] at hO1
              replace hL := hL.step 2 _ (ogE 4 (.slice (some ⟨g3, 0, none⟩) (i + 1) c3) (bV (bits ++ [false]))) rfl hO1 hst
              replace hBW := hBW.trans hB1
              clear hO1 hB1 hst
              obtain ⟨g4, c5, wM, hr4, hO1, hB1, hst⟩ := app_apartG intsElt wL W.heap.size x4 t k4 (iV (nI bads)) (.int .i64 (-7)) 30 (hL.g 3 rfl) rfl hBW.size (by omega) (by unfold maxLen; omega)
              rw [show iV (nI bads) ++ [Value.int .i64 (-7)] = iV (nI bads ++ [-7]) by simp [iV]] at hO1
              replace hL := hL.step 3 _ (ogE 3 (.slice (some ⟨g4, 0, none⟩) (t + 1) c5) (iV (nI bads ++ [-7]))) rfl hO1 hst
              replace hBW := hBW.trans hB1
              clear hO1 hB1 hst
              simp only [List.set_cons_zero, List.set_cons_succ] at hL
              have HL : Hid (Lot wM W.heap.size [ogE 4 (.slice (some ⟨g1, 0, none⟩) (i + 1) c1) (bV (xl ++ [true])), ogE 3 (.slice (some ⟨g2, 0, none⟩) (t + 1) c4) (iV (bl ++ [-6])), ogE 4 (.slice (some ⟨g3, 0, none⟩) (i + 1) c3) (bV (bits ++ [false])), ogE 3 (.slice (some ⟨g4, 0, none⟩) (t + 1) c5) (iV (nI bads ++ [-7])), ogE 4 (.slice x5 i k5) (bV bits), ogE 3 (.slice x6 t k6) (iV (nI bads))]) := hL
              have HBW : Hid (Below W.heap.size W wM) := hBW
              clear hL hBW htn
              go_upto_region 24 with (at_builtin; refine wpL_appT 22 rfl _ _ rfl _ wJ (by exact hr1) ?_)
              clear hr1
              go_upto_region 25 with (at_builtin; refine wpL_appT 30 rfl _ _ rfl _ wK (by exact hr2) ?_)
              clear hr2
              go_upto_region 26 with (at_builtin; refine wpL_appT 22 rfl _ _ rfl _ wL (by exact hr3) ?_)
              clear hr3
              go_upto_region 27 with (at_builtin; refine wpL_appT 30 rfl _ _ rfl _ wM (by exact hr4) ?_)
              clear hr4
              have hY := (Lot.g HL.out 2 rfl).isG.cut (m := i) (by omega)
              rw [bV_take, take_one bits false i hnb] at hY
              have hZ := (Lot.g HL.out 3 rfl).isG.cut (m := t) (by omega)
              rw [show (iV (nI bads ++ [-7])).take t = iV (nI bads) by rw [← iV_app]; exact take_one _ _ _ (by rw [iV_len]; exact hnI)] at hZ
              have hc3 : i ≤ c3 := by
                obtain ⟨_, _, he, -, -, hle, -⟩ := (Lot.g HL.out 2 rfl).form (by simp [bV])
                simp only [Value.slice.injEq] at he
                obtain ⟨-, -, rfl⟩ := he
                rw [bV_len] at hle
                simp at hle
                omega
              have hc5 : t ≤ c5 := by
                obtain ⟨_, _, he, -, -, hle, -⟩ := (Lot.g HL.out 3 rfl).form (by simp [iV])
                simp only [Value.slice.injEq] at he
                obtain ⟨-, -, rfl⟩ := he
                rw [iV_len] at hle
                simp at hle
                omega
              have hcx := (Lot.g HL.out 0 rfl).cell i (.bool true) (bV_at (by rw [List.getElem?_append_right (by omega)]; simp [hxl]))
              have hcb := (Lot.g HL.out 1 rfl).cell t (.int .i64 (-6)) (iV_at (by rw [List.getElem?_append_right (by omega)]; simp [hbl]))
              have hs := sameB_any (some ⟨g3, 0, none⟩) x5 c3 k5 i i bits bits wM hnb hnb hY (Lot.g HL.out 4 rfl).isG (by omega)
              simp only [decide_true] at hs
              have hti : (t : Int) < (t : Int) + 1 := by omega
              have hii : (i : Int) < (i : Int) + 1 := by omega
              go_wp2_with fail
              go_at_call 13
              refine hs.mono ?_
              rintro e wN ⟨rfl, hBn⟩
              clear hs hY
              have hs := sameI_any (some ⟨g4, 0, none⟩) x6 c5 k6 t t (nI bads) (nI bads) wN hnI hnI (hZ.kept hBn) (OwnG.keep (Lot.g HL.out 5 rfl) hBn).isG (by omega)
              simp only [decide_true] at hs
              have hcx2 := cell_later hBn hcx
              have hcb2 := cell_later hBn hcb
              have HB2 := HBW.out.trans (hBn.mono (Below.size HBW.out))
              clear hcx hcb hBn HL HBW hZ
              go_wp2_with fail
              go_at_call 10
              refine hs.mono ?_
              rintro e wP ⟨rfl, hBn⟩
              clear hs
              have hcx3 := cell_later hBn hcx2
              have hcb3 := cell_later hBn hcb2
              have HB3 := HB2.trans (hBn.mono HB2.size)
              clear hcx2 hcb2 hBn HB2
              have HB4 := hBj.trans (HB3.mono hBj.size)
              clear HB3 hBj
              go_wp2
              go_roundw
              case rel => exact ⟨j + 1, by omega, by go_num, HB4⟩
              case measure => simp [intOf]; omega
    · obtain rfl : j = 2 := by omega
      have hB9 := HBw.out.trans (hBj.mono (Below.size HBw.out))
      clear HBw hBj
      go_wp2_with fail
      go_at_call 8
      refine (known7_any hP hG _).mono ?_
      rintro e w9 ⟨rfl, hB8⟩
      have HB9 := hB9.trans (hB8.mono hB9.size)
      clear hB9 hB8
      go_wp2
      go_ret
      exact ⟨rfl, HB9⟩
set_option linter.unusedSimpArgs false in
set_option maxRecDepth 100000 in
set_option maxHeartbeats 2000000 in
theorem gets_big (hP : PutOk) (hG : GetOk) (b : List Bool) (x : Option Addr) (n c : Nat) (ps : List Pt) (xp : Option Addr) (np cp : Nat) (q0 : Int) (w : World) (hn : b.length = n) (hbig : 1100 < n) (hnc : n ≤ c) (hb : IsG w (.slice x n c) (bV b))
    (hnp : ps.length = np) (hlp : np ≤ 140737488355328) (hp : IsK patE w (.slice xp np cp) ps) (hq0 : -9223372036854775808 ≤ q0 ∧ q0 ≤ 9223372036854775807) :
    Calls Try.prog 6 #[.slice x n c, .slice xp np cp, .int .i64 q0] w fun e w' => e = .returned (.bool true) ∧ Below w.heap.size w w' := by
  obtain ⟨a, rfl⟩ := hb.some' (by omega)
  have hcut := hb.cut (m := 1100) (by omega)
  rw [bV_take] at hcut
  have hbig' : (1100 : Int) < (n : Int) := by omega
  have hc' : 1100 ≤ c := by omega
  have hm3 := manyN_le 1100
  obtain ⟨M, hM⟩ : ∃ M, manyN 1100 = M := ⟨_, rfl⟩
  have hpat := patched_any (b.take 1100) (some a) 1100 c ps xp np cp w (by rw [List.length_take]; omega) (by omega) hcut hnp hlp hp
  rw [hM] at hpat hm3
  clear hM hcut hb
  have hqn : -9223372036854775808 ≤ (1100 : Int) ∧ (1100 : Int) ≤ 9223372036854775807 := by omega
  go_enter Try.func6, Try.ntmps6
  go_wp2_with fail
  go_at_call 14
  refine hpat.mono ?_
  rintro e w1 ⟨ys, cs, ds, rfl, hdl, hS, hB1⟩
  clear hpat
  obtain ⟨v1, wa, hra, g, c2, w2, hrb, hI, hc2, hB2⟩ := run_inS w1 ds ys M cs 24 hdl hm3 (hS.isK secE_ok)
  replace hS := hS.keep hB2
  have hBw := hB1.trans (hB2.mono hB1.size)
  clear hB1 hB2
  go_upto_region 5 with (at_builtin; first | refine wpL_appT 24 rfl _ _ rfl _ wa (by exact hra) ?_ | refine wpL_appT 24 rfl _ _ rfl _ w2 (by exact hrb) ?_)
  clear hra hrb
  have hT := OwnG.lit 3 w2 (iV [q0, (1100 : Int)]) (show 2 ≤ maxLen by decide)
  have eT : (iV [q0, (1100 : Int)]).toArray = #[Value.int .i64 q0, Value.int .i64 (1100 : Int)] := rfl
  have eT2 : (iV [q0, (1100 : Int)]).length = 2 := rfl
  rw [eT, eT2] at hT
  clear eT eT2
  have hAl : Below w2.heap.size w2 (w2.alloc (.cells #[Value.int .i64 q0, Value.int .i64 (1100 : Int)] 3)) := below_alloc _ _
  replace hS := hS.keep hAl
  replace hI := hI.keep hAl
  replace hBw := hBw.trans (hAl.mono hBw.size)
  clear hAl
  have hSK := hS.isK secE_ok
  have hIc := hI.cut secE_ok M (by omega)
  rw [take_one ds _ M hdl] at hIc
  have hIK := hIc.isK secE_ok
  have hI7 := hI.range secE_ok M (oneS 7) (by rw [List.getElem?_append_right (by omega)]; simp [hdl])
  have hgI := (hI.lt g rfl).2
  have HBw : Hid (Below w.heap.size w (w2.alloc (.cells #[Value.int .i64 q0, Value.int .i64 (1100 : Int)] 3))) := hBw
  clear hS hI hIc hBw
  go_wp2_with fail
  obtain ⟨gt, hgt⟩ : ∃ g, w2.heap.size = g := ⟨_, rfl⟩
  have hTi : IsG (w2.alloc (.cells #[Value.int .i64 q0, Value.int .i64 (1100 : Int)] 3)) (.slice (some ⟨gt, 0, none⟩) 2 2) (iV [q0, (1100 : Int)]) := by rw [← hgt]; exact hT.isG
  simp only [hgt]
  clear hT hgt
  generalize w2.alloc (.cells #[Value.int .i64 q0, Value.int .i64 (1100 : Int)] 3) = W0 at hSK hIK hI7 hgI HBw hTi ⊢
  go_loopw [38] (fun v wr => ∃ j : Nat, j ≤ 2 ∧ v = .int .i64 j ∧ Below W0.heap.size W0 wr) (fun v _ => 2 - (intOf v).toNat)
  case atStart => exact ⟨0, by omega, rfl, Below.refl _ _⟩
  case round =>
    obtain ⟨j, hj, rfl, hBj⟩ := hrel
    obtain ⟨W, rfl⟩ : ∃ W, W = wr := ⟨_, rfl⟩
    by_cases hj2 : j < 2
    · have hj2' : (j : Int) < 2 := by omega
      obtain ⟨q, hq, hqb⟩ : ∃ q : Int, [q0, (1100 : Int)][j]? = some q ∧ (-9223372036854775808 ≤ q ∧ q ≤ 9223372036854775807) := by
        rcases (by omega : j = 0 ∨ j = 1) with rfl | rfl
        · exact ⟨q0, rfl, hq0⟩
        · exact ⟨(1100 : Int), rfl, hqn⟩
      obtain ⟨gt', ot', het, hgt', hct⟩ := (hTi.kept hBj).spot j (by simp [iV]; omega)
      cases het
      have hcq := hct j _ (iV_at hq)
      rw [Nat.zero_add] at hcq
      have hget := hG ds (some ⟨g, 0, none⟩) M c2 q W hdl hm3 hqb.1 hqb.2 (hIK.kept hBj)
      obtain ⟨bits, hbits⟩ : ∃ x, getBits ds q.toNat = x := ⟨_, rfl⟩
      obtain ⟨bads, hbads⟩ : ∃ x, getBad ds q.toNat = x := ⟨_, rfl⟩
      have hbl3 := bad_len ds q.toNat
      have hbtl : (getBits ds q.toNat).length ≤ 1024 := by
        by_cases hok : manyN q.toNat ≠ 0 ∧ ds.length = manyN q.toNat
        · rw [getBits_len hok]; exact (manyN_pos.1 hok.1).2
        · unfold getBits; rw [if_neg hok]; simp
      rw [hbits, hbads] at hget
      rw [hbads] at hbl3
      rw [hbits] at hbtl
      clear hct hq
      go_wp2_with fail
      go_at_call 9
      refine hget.mono ?_
      rintro e wA ⟨u1, v1', rfl, hu1, hv1, ha1, hBA⟩
      clear hget hcq
      have hL := (Lot.nil W W.heap.size).add2 hBA (Nat.le_refl _) (ogE 4 u1 (bV bits)) (ogE 3 v1' (iV (nI bads))) hu1 hv1 ha1
      rw [List.nil_append] at hL
      have hget := hG ds (some ⟨g, 0, none⟩) M c2 q wA hdl hm3 hqb.1 hqb.2 ((hIK.kept hBj).kept hBA)
      rw [hbits, hbads] at hget
      obtain ⟨x1, k1, rfl⟩ := hu1.len
      obtain ⟨x2, k2, rfl⟩ := hv1.len
      clear hu1 hv1 ha1
      go_wp2_with fail
      go_at_call 9
      refine hget.mono ?_
      rintro e wB ⟨u2, v2, rfl, hu2, hv2, ha2, hBB⟩
      clear hget
      replace hL := hL.add2 hBB hBA.size (ogE 4 u2 (bV bits)) (ogE 3 v2 (iV (nI bads))) hu2 hv2 ha2
      have hBW := hBA.trans (hBB.mono hBA.size)
      have hget := refGet_any ds ys M cs q wB hdl hm3 hqb.1 hqb.2 ((hSK.kept hBj).kept hBW)
      rw [hbits, hbads] at hget
      obtain ⟨x3, k3, rfl⟩ := hu2.len
      obtain ⟨x4, k4, rfl⟩ := hv2.len
      clear hu2 hv2 ha2 hBA hBB
      go_wp2_with fail
      go_at_call 15
      refine hget.mono ?_
      rintro e wC ⟨u3, v3, rfl, hu3, hv3, ha3, hBC⟩
      clear hget
      replace hL := hL.add2 hBC hBW.size (ogE 4 u3 (bV bits)) (ogE 3 v3 (iV (nI bads))) hu3 hv3 ha3
      replace hBW := hBW.trans (hBC.mono hBW.size)
      obtain ⟨x5, k5, rfl⟩ := hu3.len
      obtain ⟨x6, k6, rfl⟩ := hv3.len
      clear hu3 hv3 ha3 hBC hbits hbads
      simp only [List.cons_append, List.nil_append] at hL
      rw [bV_len, iV_len, nI_len] at hL ⊢
      obtain ⟨nb, hnb⟩ : ∃ nb, bits.length = nb := ⟨_, rfl⟩
      obtain ⟨nq, hnq⟩ : ∃ nq, bads.length = nq := ⟨_, rfl⟩
      have hnI : (nI bads).length = nq := by rw [nI_len, hnq]
      rw [hnb, hnq] at hL ⊢
      rw [hnb] at hbtl
      rw [hnq] at hbl3
      have hnq3 : nq ≤ 3 := by omega
      have hs := sameB_any x1 x5 k1 k5 nb nb bits bits wC hnb hnb (hL.g 0 rfl).isG (hL.g 4 rfl).isG (by omega)
      simp only [decide_true] at hs
      go_wp2_with fail
      go_at_call 13
      refine hs.mono ?_
      rintro e wD ⟨rfl, hBn⟩
      clear hs
      replace hL := hL.keep hBn
      replace hBW := hBW.trans (hBn.mono hBW.size)
      clear hBn
      have hs := sameI_any x2 x6 k2 k6 nq nq (nI bads) (nI bads) wD hnI hnI (hL.g 1 rfl).isG (hL.g 5 rfl).isG (by omega)
      simp only [decide_true] at hs
      go_wp2_with fail
      go_at_call 10
      refine hs.mono ?_
      rintro e wE ⟨rfl, hBn⟩
      clear hs
      replace hL := hL.keep hBn
      replace hBW := hBW.trans (hBn.mono hBW.size)
      clear hBn
      have hs := sameB_any x3 x5 k3 k5 nb nb bits bits wE hnb hnb (hL.g 2 rfl).isG (hL.g 4 rfl).isG (by omega)
      simp only [decide_true] at hs
      go_wp2_with fail
      go_at_call 13
      refine hs.mono ?_
      rintro e wF ⟨rfl, hBn⟩
      clear hs
      replace hL := hL.keep hBn
      replace hBW := hBW.trans (hBn.mono hBW.size)
      clear hBn
      have hs := sameI_any x4 x6 k4 k6 nq nq (nI bads) (nI bads) wF hnI hnI (hL.g 3 rfl).isG (hL.g 5 rfl).isG (by omega)
      simp only [decide_true] at hs
      go_wp2_with fail
      go_at_call 10
      refine hs.mono ?_
      rintro e wG ⟨rfl, hBn⟩
      clear hs
      replace hL := hL.keep hBn
      replace hBW := hBW.trans (hBn.mono hBW.size)
      clear hBn
      have hs := sameS7_any (some ⟨g, 0, none⟩) ys c2 cs M M ds ds wG hdl hdl ((hIK.kept hBj).kept hBW) ((hSK.kept hBj).kept hBW) (by omega)
      rw [kS_same] at hs
      go_wp2_with fail
      go_at_call 12
      refine hs.mono ?_
      rintro e wH ⟨rfl, hBn⟩
      clear hs
      replace hL := hL.keep hBn
      replace hBW := hBW.trans (hBn.mono hBW.size)
      clear hBn
      obtain ⟨ok7, rg7⟩ := rg_of (range_later (range_later hI7 hBj) hBW) (secE_ok.len (oneS 7))
      rw [secE_arr] at rg7
      rw [secE_k] at ok7 rg7
      have hM1 : (M : Int) < (M : Int) + 1 := by omega
      have heq7 := secEq_self7 (oneS 7)
      go_upto_region 13 with fail
      clear ok7 rg7 hM1 heq7
      have HL : Hid (Lot wH W.heap.size [ogE 4 (.slice x1 nb k1) (bV bits), ogE 3 (.slice x2 nq k2) (iV (nI bads)), ogE 4 (.slice x3 nb k3) (bV bits), ogE 3 (.slice x4 nq k4) (iV (nI bads)), ogE 4 (.slice x5 nb k5) (bV bits), ogE 3 (.slice x6 nq k6) (iV (nI bads))]) := hL
      have HBW : Hid (Below W.heap.size W wH) := hBW
      clear hL hBW
      go_wp2_with fail
      go_loopw [108] (fun v wr => ∃ (i : Nat) (xl : List Bool), i ≤ nb ∧ v = .int .i64 i ∧ xl.length = nb ∧ Lot wr W.heap.size [ogE 4 (.slice x1 nb k1) (bV xl), ogE 3 (.slice x2 nq k2) (iV (nI bads)), ogE 4 (.slice x3 nb k3) (bV bits), ogE 3 (.slice x4 nq k4) (iV (nI bads)), ogE 4 (.slice x5 nb k5) (bV bits), ogE 3 (.slice x6 nq k6) (iV (nI bads))] ∧ Below W.heap.size W wr) (fun v _ => nb - (intOf v).toNat)
      case atStart => exact ⟨0, bits, by omega, rfl, hnb, HL.out, HBW.out⟩
      case round =>
        clear HL HBW
        obtain ⟨i, xl, hi, rfl, hxl, hL, hBW⟩ := hrel
        by_cases hin : i < nb
        · have hin' : (i : Int) < (nb : Int) := by omega
          have h1 := hL.g 0 rfl
          obtain ⟨g1, _, he1, -, -, -, -⟩ := h1.form (by intro h; have := congrArg List.length h; rw [bV_len, hxl] at this; simp at this; omega)
          simp only [Value.slice.injEq] at he1
          obtain ⟨rfl, -, -⟩ := he1
          obtain ⟨a, ha⟩ : ∃ a, xl[i]? = some a := ⟨xl[i]'(by omega), List.getElem?_eq_getElem (by omega)⟩
          have hca := h1.cell i _ (bV_at ha)
          have hfa := h1.frozen i
          obtain ⟨hp1, hp2, hp3⟩ := put_apartG h1 hBW.size i (.bool (!a))
          rw [bV_set] at hp1
          have hL2 := hL.step 0 _ (ogE 4 (.slice (some ⟨g1, 0, none⟩) nb k1) (bV (xl.set i (!a)))) rfl hp1 (fun v e k m xs hv hap => ⟨hp3 v e k m xs hv hap, hap⟩)
          have HL : Hid _ := hL2
          have HBW : Hid _ := hBW.trans hp2
          clear hL hBW h1 hp1 hp2 hp3 hL2 ha
          go_wp2
          go_roundw
          case rel => exact ⟨i + 1, xl.set i (!a), by omega, by go_num, by rw [List.length_set]; exact hxl, HL.out, HBW.out⟩
          case measure => simp [intOf]; omega
        · obtain rfl : i = nb := by omega
          obtain ⟨wX, rfl⟩ : ∃ wX, wX = wr := ⟨_, rfl⟩
          have HL : Hid _ := hL
          have HBW : Hid _ := hBW
          clear hL hBW hin
          go_wp2_with fail
          go_loopw [122] (fun v wr => ∃ (t : Nat) (bl : List Int), t ≤ nq ∧ v = .int .i64 t ∧ bl.length = nq ∧ Lot wr W.heap.size [ogE 4 (.slice x1 i k1) (bV xl), ogE 3 (.slice x2 nq k2) (iV bl), ogE 4 (.slice x3 i k3) (bV bits), ogE 3 (.slice x4 nq k4) (iV (nI bads)), ogE 4 (.slice x5 i k5) (bV bits), ogE 3 (.slice x6 nq k6) (iV (nI bads))] ∧ Below W.heap.size W wr) (fun v _ => nq - (intOf v).toNat)
          case atStart => exact ⟨0, nI bads, by omega, rfl, hnI, HL.out, HBW.out⟩
          case round =>
            clear HL HBW
            obtain ⟨t, bl, ht, rfl, hbl, hL, hBW⟩ := hrel
            by_cases htn : t < nq
            · have htn' : (t : Int) < (nq : Int) := by omega
              have h1 := hL.g 1 rfl
              obtain ⟨g1, _, he1, -, -, -, -⟩ := h1.form (by intro h; have := congrArg List.length h; rw [iV_len, hbl] at this; simp at this; omega)
              simp only [Value.slice.injEq] at he1
              obtain ⟨rfl, -, -⟩ := he1
              obtain ⟨a, ha⟩ : ∃ a, bl[t]? = some a := ⟨bl[t]'(by omega), List.getElem?_eq_getElem (by omega)⟩
              have hca := h1.cell t _ (iV_at ha)
              have hfa := h1.frozen t
              obtain ⟨hp1, hp2, hp3⟩ := put_apartG h1 hBW.size t (.int .i64 (-5))
              have esv : (iV bl).set t (.int .i64 (-5)) = iV (bl.set t (-5)) := by simp [iV]
              rw [esv] at hp1
              have hL2 := hL.step 1 _ (ogE 3 (.slice (some ⟨g1, 0, none⟩) nq k2) (iV (bl.set t (-5)))) rfl hp1 (fun v e k m xs hv hap => ⟨hp3 v e k m xs hv hap, hap⟩)
              have HL : Hid _ := hL2
              have HBW : Hid _ := hBW.trans hp2
              clear hL hBW h1 hp1 hp2 hp3 hL2 ha esv
              go_wp2
              go_roundw
              case rel => exact ⟨t + 1, bl.set t (-5), by omega, by go_num, by rw [List.length_set]; exact hbl, HL.out, HBW.out⟩
              case measure => simp [intOf]; omega
            · obtain rfl : t = nq := by omega
              obtain ⟨g1, c1, wJ, hr1, hO1, hB1, hst⟩ := app_apartG boolsElt7 wr W.heap.size x1 i k1 (bV xl) (.bool true) 22 (hL.g 0 rfl) rfl hBW.size (by omega) (by unfold maxLen; omega)
              rw [show bV xl ++ [Value.bool true] = bV (xl ++ [true]) by simp [bV]] at hO1
              replace hL := hL.step 0 _ (ogE 4 (.slice (some ⟨g1, 0, none⟩) (i + 1) c1) (bV (xl ++ [true]))) rfl hO1 hst
              replace hBW := hBW.trans hB1
              clear hO1 hB1 hst
              obtain ⟨g2, c4, wK, hr2, hO1, hB1, hst⟩ := app_apartG intsElt wJ W.heap.size x2 t k2 (iV bl) (.int .i64 (-6)) 30 (hL.g 1 rfl) rfl hBW.size (by omega) (by unfold maxLen; omega)
              rw [show iV bl ++ [Value.int .i64 (-6)] = iV (bl ++ [-6]) by simp [iV]] at hO1
              replace hL := hL.step 1 _ (ogE 3 (.slice (some ⟨g2, 0, none⟩) (t + 1) c4) (iV (bl ++ [-6]))) rfl hO1 hst
              replace hBW := hBW.trans hB1
              clear hO1 hB1 hst
              obtain ⟨g3, c3, wL, hr3, hO1, hB1, hst⟩ := app_apartG boolsElt7 wK W.heap.size x3 i k3 (bV bits) (.bool false) 22 (hL.g 2 rfl) rfl hBW.size (by omega) (by unfold maxLen; omega)
              rw [show bV bits ++ [Value.bool false] = bV (bits ++ [false]) by simp [bV]] at hO1
              replace hL := hL.step 2 _ (ogE 4 (.slice (some ⟨g3, 0, none⟩) (i + 1) c3) (bV (bits ++ [false]))) rfl hO1 hst
              replace hBW := hBW.trans hB1
              clear hO1 hB1 hst
              obtain ⟨g4, c5, wM, hr4, hO1, hB1, hst⟩ := app_apartG intsElt wL W.heap.size x4 t k4 (iV (nI bads)) (.int .i64 (-7)) 30 (hL.g 3 rfl) rfl hBW.size (by omega) (by unfold maxLen; omega)
              rw [show iV (nI bads) ++ [Value.int .i64 (-7)] = iV (nI bads ++ [-7]) by simp [iV]] at hO1
              replace hL := hL.step 3 _ (ogE 3 (.slice (some ⟨g4, 0, none⟩) (t + 1) c5) (iV (nI bads ++ [-7]))) rfl hO1 hst
              replace hBW := hBW.trans hB1
              clear hO1 hB1 hst
              simp only [List.set_cons_zero, List.set_cons_succ] at hL
              have HL : Hid (Lot wM W.heap.size [ogE 4 (.slice (some ⟨g1, 0, none⟩) (i + 1) c1) (bV (xl ++ [true])), ogE 3 (.slice (some ⟨g2, 0, none⟩) (t + 1) c4) (iV (bl ++ [-6])), ogE 4 (.slice (some ⟨g3, 0, none⟩) (i + 1) c3) (bV (bits ++ [false])), ogE 3 (.slice (some ⟨g4, 0, none⟩) (t + 1) c5) (iV (nI bads ++ [-7])), ogE 4 (.slice x5 i k5) (bV bits), ogE 3 (.slice x6 t k6) (iV (nI bads))]) := hL
              have HBW : Hid (Below W.heap.size W wM) := hBW
              clear hL hBW htn
              go_upto_region 24 with (at_builtin; refine wpL_appT 22 rfl _ _ rfl _ wJ (by exact hr1) ?_)
              clear hr1
              go_upto_region 25 with (at_builtin; refine wpL_appT 30 rfl _ _ rfl _ wK (by exact hr2) ?_)
              clear hr2
              go_upto_region 26 with (at_builtin; refine wpL_appT 22 rfl _ _ rfl _ wL (by exact hr3) ?_)
              clear hr3
              go_upto_region 27 with (at_builtin; refine wpL_appT 30 rfl _ _ rfl _ wM (by exact hr4) ?_)
              clear hr4
              have hY := (Lot.g HL.out 2 rfl).isG.cut (m := i) (by omega)
              rw [bV_take, take_one bits false i hnb] at hY
              have hZ := (Lot.g HL.out 3 rfl).isG.cut (m := t) (by omega)
              rw [show (iV (nI bads ++ [-7])).take t = iV (nI bads) by rw [← iV_app]; exact take_one _ _ _ (by rw [iV_len]; exact hnI)] at hZ
              have hc3 : i ≤ c3 := by
                obtain ⟨_, _, he, -, -, hle, -⟩ := (Lot.g HL.out 2 rfl).form (by simp [bV])
                simp only [Value.slice.injEq] at he
                obtain ⟨-, -, rfl⟩ := he
                rw [bV_len] at hle
                simp at hle
                omega
              have hc5 : t ≤ c5 := by
                obtain ⟨_, _, he, -, -, hle, -⟩ := (Lot.g HL.out 3 rfl).form (by simp [iV])
                simp only [Value.slice.injEq] at he
                obtain ⟨-, -, rfl⟩ := he
                rw [iV_len] at hle
                simp at hle
                omega
              have hcx := (Lot.g HL.out 0 rfl).cell i (.bool true) (bV_at (by rw [List.getElem?_append_right (by omega)]; simp [hxl]))
              have hcb := (Lot.g HL.out 1 rfl).cell t (.int .i64 (-6)) (iV_at (by rw [List.getElem?_append_right (by omega)]; simp [hbl]))
              have hs := sameB_any (some ⟨g3, 0, none⟩) x5 c3 k5 i i bits bits wM hnb hnb hY (Lot.g HL.out 4 rfl).isG (by omega)
              simp only [decide_true] at hs
              have hti : (t : Int) < (t : Int) + 1 := by omega
              have hii : (i : Int) < (i : Int) + 1 := by omega
              go_wp2_with fail
              go_at_call 13
              refine hs.mono ?_
              rintro e wN ⟨rfl, hBn⟩
              clear hs hY
              have hs := sameI_any (some ⟨g4, 0, none⟩) x6 c5 k6 t t (nI bads) (nI bads) wN hnI hnI (hZ.kept hBn) (OwnG.keep (Lot.g HL.out 5 rfl) hBn).isG (by omega)
              simp only [decide_true] at hs
              have hcx2 := cell_later hBn hcx
              have hcb2 := cell_later hBn hcb
              have HB2 := HBW.out.trans (hBn.mono (Below.size HBW.out))
              clear hcx hcb hBn HL HBW hZ
              go_wp2_with fail
              go_at_call 10
              refine hs.mono ?_
              rintro e wP ⟨rfl, hBn⟩
              clear hs
              have hcx3 := cell_later hBn hcx2
              have hcb3 := cell_later hBn hcb2
              have HB3 := HB2.trans (hBn.mono HB2.size)
              clear hcx2 hcb2 hBn HB2
              have HB4 := hBj.trans (HB3.mono hBj.size)
              clear HB3 hBj
              go_wp2
              go_roundw
              case rel => exact ⟨j + 1, by omega, by go_num, HB4⟩
              case measure => simp [intOf]; omega
    · obtain rfl : j = 2 := by omega
      have hB9 := HBw.out.trans (hBj.mono (Below.size HBw.out))
      clear HBw hBj
      go_wp2_with fail
      go_at_call 8
      refine (known7_any hP hG _).mono ?_
      rintro e w9 ⟨rfl, hB8⟩
      have HB9 := hB9.trans (hB8.mono hB9.size)
      clear hB9 hB8
      go_wp2
      go_ret
      exact ⟨rfl, HB9⟩
theorem lawBitsGets_any (hP : PutOk) (hG : GetOk) (b : List Bool) (x : Option Addr) (n c : Nat) (ps : List Pt) (xp : Option Addr) (np cp : Nat) (q0 : Int) (w : World) (hn : b.length = n) (hnc : n ≤ c) (hb : IsG w (.slice x n c) (bV b))
    (hnp : ps.length = np) (hlp : np ≤ 140737488355328) (hp : IsK patE w (.slice xp np cp) ps) (hq0 : -9223372036854775808 ≤ q0 ∧ q0 ≤ 9223372036854775807) :
    Calls Try.prog 6 #[.slice x n c, .slice xp np cp, .int .i64 q0] w fun e w' => e = .returned (.bool true) ∧ Below w.heap.size w w' := by
  by_cases hbig : 1100 < n
  · exact gets_big hP hG b x n c ps xp np cp q0 w hn hbig hnc hb hnp hlp hp hq0
  · exact gets_small hP hG b x n c ps xp np cp q0 w hn hbig hb hnp hlp hp hq0
end Go.Proofs.Ytfnffkommcepoaa
