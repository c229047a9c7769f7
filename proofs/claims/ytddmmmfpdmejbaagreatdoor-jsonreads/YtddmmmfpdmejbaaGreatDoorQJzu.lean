import Derived.Test.YtddmmmfpdmejbaaGreatDoorQJzt
namespace Go.Proofs.YtddmmmfpdmejbaaGreatDoor
open Go.RowKit

/-! Writing an object; a value -/
theorem szK_atz (kb : List ByteArray) (j : Nat) (t : ByteArray) (h : kb[j]? = some t) : t.size ≤ ((kb.map lS).map (fun t => t.length + 16)).sum := szK_mem kb t (List.mem_of_getElem? h)
set_option linter.unusedSimpArgs false in
set_option maxRecDepth 100000 in
set_option maxHeartbeats 8000000 in
theorem writeObj15_any (vs : List Nd) (ih : ∀ d ∈ vs, WrOk d) (B b : Nat) (acc : List UInt8) (w : World) (ks a : Sl) (kb : List ByteArray) (us : List Value) (h : Bd B b acc w) (hB : B ≤ w.heap.size) (hk : IsG w ks.v (strs kb)) (hkF : ks.In (· < B)) (hv : IsG w a.v us) (hF : a.In (· < B)) (hl : us.length = vs.length) (hkl : kb.length = vs.length) (hz : ks.n ≤ 8796093022208) (he : ∀ (i : Nat) u d, us[i]? = some u → vs[i]? = some d → VlG w (· < B) u d) (hfr : frmL vs = true) (hsz : ((kb.map lS).map (fun t => t.length + 16)).sum + szL vs ≤ 1099511627776) (hal : acc.length + 12 * (((kb.map lS).map (fun t => t.length + 16)).sum + szL vs) + 400 ≤ 35184372088832) (hV : ∀ x, Below B w x → VJ x) :
    Calls Tryz.prog 54 #[.pointer (some ⟨b, 0, none⟩), .agg #[ks.v, a.v]] w fun e w' => WrP B b (acc ++ 123 :: (txtO (kb.map lS) vs true ++ [125])) w e w' := by
  obtain ⟨ax, an, ac⟩ := a
  obtain ⟨kx, m, kc⟩ := ks
  have hmk : m = kb.length := by have h9 : m = (strs kb).length := IsG.num (a := ⟨kx, m, kc⟩) hk; rw [h9]; simp [strs]
  have han : an = us.length := IsG.num (a := ⟨ax, an, ac⟩) hv
  have bA := below_alloc w (.cells #[.slice kx m kc, .slice ax an ac] 70)
  have hAB := bA.mono hB
  obtain ⟨g0, hg0⟩ : ∃ q, w.heap.size = q := ⟨_, rfl⟩
  have hrow : (w.alloc (.cells #[.slice kx m kc, .slice ax an ac] 70)).heap[g0]? = some (.cells #[.slice kx m kc, .slice ax an ac] 70 (0, 0)) := by rw [← hg0]; exact heap_alloc_last _ _
  have hgb : g0 ≠ b := by have := h.lt; omega
  obtain ⟨KS, hKS⟩ : ∃ q, ((kb.map lS).map (fun t => t.length + 16)).sum = q := ⟨_, rfl⟩
  have HG : Hid (IsG w (.slice kx m kc) (strs kb) ∧ (⟨kx, m, kc⟩ : Sl).In (· < B) ∧ IsG w (.slice ax an ac) us ∧ (⟨ax, an, ac⟩ : Sl).In (· < B) ∧ m = kb.length ∧ an = us.length ∧ us.length = vs.length ∧ kb.length = vs.length ∧ ∀ (i : Nat) u d, us[i]? = some u → vs[i]? = some d → VlG w (· < B) u d) := ⟨hk, hkF, hv, hF, hmk, han, hl, hkl, he⟩
  have HS : Hid (∀ j, (txtO (kb.map lS) (vs.take j) true).length ≤ 6 * (KS + szL (vs.take j)) ∧ szL (vs.take j) ≤ szL vs) := fun j => ⟨by have h9 := txtO_len (vs.take j) (kb.map lS) true (fun d _ => txtN_len d); rw [hKS] at h9; exact h9, szL_take vs j⟩
  have HKM : Hid (∀ t ∈ kb, t.size ≤ KS) := fun t ht => by have h9 := szK_mem kb t ht; rw [hKS] at h9; exact h9
  rw [hKS] at hsz hal
  have HV : Hid (∀ x, Below B (w.alloc (.cells #[.slice kx m kc, .slice ax an ac] 70)) x → VJ x) := fun x hx => hV x (hAB.trans hx)
  have HFR : Hid (frmL vs = true ∧ KS + szL vs ≤ 1099511627776 ∧ acc.length + 12 * (KS + szL vs) + 400 ≤ 35184372088832 ∧ B ≤ w.heap.size) := ⟨hfr, hsz, hal, hB⟩
  have HAB : Hid (Below w.heap.size w (w.alloc (.cells #[.slice kx m kc, .slice ax an ac] 70))) := bA
  have hmz : m ≤ 8796093022208 := hz
  have hBY : B ≤ (w.alloc (.cells #[.slice kx m kc, .slice ax an ac] 70)).heap.size := Nat.le_trans hB bA.size
  have hW : Calls Tryz.prog 79 #[.pointer (some ⟨b, 0, none⟩), .int .u8 123] (w.alloc (.cells #[.slice kx m kc, .slice ax an ac] 70)) fun e w' => e = .returned .nilIface ∧ BdP B b (acc ++ [123]) (w.alloc (.cells #[.slice kx m kc, .slice ax an ac] 70)) w' := bdWB B b acc 123 _ (h.later bA) (by omega) hBY
  obtain ⟨RR, hRR⟩ : ∃ q, acc ++ 123 :: (txtO (kb.map lS) vs true ++ [125]) = q := ⟨_, rfl⟩
  have HRR : Hid (acc ++ 123 :: (txtO (kb.map lS) vs true ++ [125]) = RR) := hRR
  rw [hRR]
  simp only [Sl.v]
  clear hRR hv hF hl he hV hfr hsz hal hz h hk hkF hmk han hkl hKS hAB bA
  go_enter Tryz.func54, Tryz.ntmps54
  go_upto_region 1 with fail
  obtain ⟨Y, hY⟩ : ∃ q, w.alloc (.cells #[.slice kx m kc, .slice ax an ac] 70) = q := ⟨_, rfl⟩
  rw [hY] at hrow HV HAB hBY hW ⊢
  have HGY : Hid (IsG Y (.slice kx m kc) (strs kb) ∧ IsG Y (.slice ax an ac) us ∧ ∀ (i : Nat) u d, us[i]? = some u → vs[i]? = some d → VlG Y (· < B) u d) := by
    obtain ⟨g1, g2, g3, g4, -, -, -, -, g9⟩ := HG.out
    exact ⟨isG_kept15 g1 HAB.out, isG_kept15 g3 HAB.out, fun i u d h1 h2 => (g9 i u d h1 h2).kept HAB.out⟩
  have HG0 : Hid (w.heap.size = g0) := hg0
  clear hY hg0
  go_wp2_with fail
  refine hW.mono ?_
  rintro e w1 ⟨rfl, h1⟩
  clear hW
  have hr1 : w1.heap[g0]? = some (.cells #[.slice kx m kc, .slice ax an ac] 70 (0, 0)) := h1.2.2 g0 _ hrow (fun e => hgb (Option.some.inj e)) (fun c fz e => by cases e)
  have cz0 : w1.cell? ⟨g0, 0, none⟩ = some (.slice kx m kc) := by rw [cell_of_row _ _ _ _ _ _ hr1]; rfl
  clear hr1
  go_wp2_with fail
  clear cz0
  go_loopw [11] (fun iv wr => ∃ j : Nat, j ≤ m ∧ iv = .int .i64 j ∧ BdP B b (acc ++ 123 :: txtO (kb.map lS) (vs.take j) true) Y wr) (fun iv _ => m - (intOf iv).toNat)
  case atStart => exact ⟨0, Nat.zero_le _, rfl, h1⟩
  case round =>
    clear h1
    obtain ⟨j, hj, rfl, hBI⟩ := hrel
    obtain ⟨hfr, hsz, hal, hB⟩ := HFR.out
    have hBl := hBI.2.1
    have hBr : B ≤ wr.heap.size := Nat.le_trans hBY hBl.size
    obtain ⟨s1, s2⟩ := HS.out j
    have hlen : (acc ++ 123 :: txtO (kb.map lS) (vs.take j) true).length ≤ acc.length + 6 * (KS + szL (vs.take j)) + 1 := by simp; omega
    by_cases hlt : j < m
    · have i1 : (j : Int) < (m : Int) := by omega
      have i0 : (0 : Int) ≤ (j : Int) := by omega
      obtain ⟨-, hkF, -, hF, hmk, han, hl, hkl, -⟩ := HG.out
      obtain ⟨gK, gV, he⟩ := HGY.out
      have i2 : (j : Int) < (an : Int) := by omega
      obtain ⟨u, hu⟩ : ∃ q, us[j]? = some q := ⟨_, List.getElem?_eq_getElem (by omega)⟩
      obtain ⟨kj, hkj⟩ : ∃ q, kb[j]? = some q := ⟨_, List.getElem?_eq_getElem (by omega)⟩
      obtain ⟨dd, hdd⟩ : ∃ q, vs[j]? = some q := ⟨_, List.getElem?_eq_getElem (by omega)⟩
      have hGr := isG_keepB (a := ⟨kx, m, kc⟩) gK hkF hBl
      obtain ⟨bb, pp, rfl, -, cu⟩ := IsG.spot hGr j (by simp [strs]; omega)
      have q1 := cu j (.string kj) (by simp [strs, hkj])
      have hvl := he j u dd hu hdd
      have hC := writeComma15_any B b _ j wr hBI.1 hBr (by omega)
      have hwr : IntKind.i64.wrap ((j : Int) + 1) = (j : Int) + 1 := by rw [IntKind.wrap_i64]; omega
      have hsn : szL (vs.take (j + 1)) = szL (vs.take j) + szN dd := by
        rw [List.take_add_one, hdd]
        exact szL_snoc dd _
      obtain ⟨t1, t2⟩ := HS.out (j + 1)
      have hks : kj.size ≤ KS := HKM.out kj (List.mem_of_getElem? hkj)
      have HT : Hid ((((acc ++ 123 :: txtO (kb.map lS) (vs.take j) true ++ (bif decide (j = 0) then [] else [44])) ++ quS (lS kj)) ++ [58]) ++ txtN dd = acc ++ 123 :: txtO (kb.map lS) (vs.take (j + 1)) true) := by
        show _ = _
        rw [List.take_add_one, hdd]
        simp only [Option.toList_some]
        rw [txtO_snoc, take_emp (vs := vs) (j := j) (by omega), List.length_take, Nat.min_eq_left (by omega), List.getElem?_map, hkj]
        simp
      have hz9 := szL_at vs j dd hdd
      have hfd := frmL_at vs j dd hdd hfr
      have hih := ih dd (List.mem_of_getElem? hdd)
      have hlc : ((acc ++ 123 :: txtO (kb.map lS) (vs.take j) true) ++ (bif decide (j = 0) then [] else [44])).length ≤ acc.length + 6 * (KS + szL (vs.take j)) + 2 := by
        rw [List.length_append]
        cases decide (j = 0) <;> simp at hlen ⊢ <;> omega
      have hq9 := quS_len15 (lS kj)
      rw [lS_len] at hq9
      have HF9 : Hid ((⟨ax, an, ac⟩ : Sl).In (· < B)) := hF
      have HU : Hid (us[j]? = some u ∧ j < us.length) := ⟨hu, by omega⟩
      have HT3 : Hid (((acc ++ 123 :: txtO (kb.map lS) (vs.take (j + 1)) true)).length ≤ 35184372088832) := by show _ ≤ _; simp; omega
      generalize (acc ++ 123 :: txtO (kb.map lS) (vs.take j) true) ++ (bif decide (j = 0) then [] else [44]) = X1 at *
      generalize acc ++ 123 :: txtO (kb.map lS) (vs.take j) true = X0 at *
      clear hu hkj hdd gK hF hmk han hl hkl he cu hkF hGr
      go_upto_region 5 with fail
      go_wp2_with fail
      refine hC.mono ?_
      rintro e w2 ⟨rfl, h2⟩
      clear hC q1
      have hP2 := hBI.trans h2
      have hW2 := writeText15_any B b X1 kj w2 h2.1 (Nat.le_trans hBr h2.2.1.size) (by omega) (by omega)
      clear h2 hBI
      go_wp2_with fail
      refine hW2.mono ?_
      rintro e w3 ⟨rfl, h3⟩
      clear hW2
      have hP3 := hP2.trans h3
      have hW3 : Calls Tryz.prog 79 #[.pointer (some ⟨b, 0, none⟩), .int .u8 58] w3 fun e w' => e = .returned .nilIface ∧ BdP B b ((X1 ++ quS (lS kj)) ++ [58]) w3 w' := bdWB B b _ 58 w3 h3.1 (by rw [List.length_append]; omega) (Nat.le_trans hBY hP3.2.1.size)
      clear h3 hP2
      go_wp2_with fail
      refine hW3.mono ?_
      rintro e w4 ⟨rfl, h4⟩
      clear hW3
      have hP4 := hP3.trans h4
      clear h4 hP3
      have hr4 : w4.heap[g0]? = some (.cells #[.slice (some ⟨bb, pp, none⟩) m kc, .slice ax an ac] 70 (0, 0)) := hP4.2.2 g0 _ hrow (fun e => hgb (Option.some.inj e)) (fun c fz e => by cases e)
      have cz1 : w4.cell? ⟨g0, 1, none⟩ = some (.slice ax an ac) := by rw [cell_of_row _ _ _ _ _ _ hr4]; rfl
      have hGv := isG_keepB (a := ⟨ax, an, ac⟩) gV HF9.out hP4.2.1
      obtain ⟨bv, pv, rfl, -, cv⟩ := IsG.spot hGv j HU.out.2
      have q2 := cv j u HU.out.1
      clear cv hGv hr4 gV
      have hC2 := hih B b _ w4 u hP4.1 (Nat.le_trans hBY hP4.2.1.size) (hvl.keepB hP4.2.1) hfd (by omega) (by rw [List.length_append, List.length_append]; simp; omega) (fun x hx => HV.out x (hP4.2.1.trans hx))
      rw [HT.out] at hC2
      go_wp2_with fail
      refine hC2.mono ?_
      rintro e w5 ⟨rfl, h5⟩
      have hP5 := hP4.trans h5
      clear hC2 h5 hP4 hvl hih q2 cz1
      go_wp2
      go_roundw
      case rel => first | exact ⟨j + 1, by omega, by go_num, hP5⟩ | ((repeat apply Exists.intro); refine ⟨⟨j + 1, by omega, ?_, hP5⟩, rfl⟩; go_num)
      case measure => simp [intOf]; omega
    · obtain rfl : j = m := by omega
      have i1 : ¬ (j : Int) < (j : Int) := by omega
      have hW : Calls Tryz.prog 79 #[.pointer (some ⟨b, 0, none⟩), .int .u8 125] wr fun e w' => e = .returned .nilIface ∧ BdP B b ((acc ++ 123 :: txtO (kb.map lS) (vs.take j) true) ++ [125]) wr w' := bdWB B b _ 125 wr hBI.1 (by omega) hBr
      have hRR : (acc ++ 123 :: txtO (kb.map lS) (vs.take j) true) ++ [125] = RR := by
        obtain ⟨-, hkF, -, hF, hmk, han, hl, hkl, -⟩ := HG.out
        rw [List.take_of_length_le (by omega), ← HRR.out]
        simp
      rw [hRR] at hW
      clear hRR
      go_wp2_with fail
      refine hW.mono ?_
      rintro e w2 ⟨rfl, h2⟩
      clear hW
      have hP2 := BdP.of_later HAB.out HFR.out.2.2.2 (hBI.trans h2)
      clear h2
      go_wp2
      go_end0
      exact ⟨rfl, hP2⟩
end Go.Proofs.YtddmmmfpdmejbaaGreatDoor
