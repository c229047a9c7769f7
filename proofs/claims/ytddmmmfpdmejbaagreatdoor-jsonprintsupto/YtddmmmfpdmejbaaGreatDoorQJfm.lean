import Derived.Test.YtddmmmfpdmejbaaGreatDoorQJok
namespace Go.Proofs.YtddmmmfpdmejbaaGreatDoor
open Go.RowKit

/-! assayref15.Node: formed -/
theorem frmL_app : ∀ a b : List Nd, frmL (a ++ b) = (frmL a && frmL b)
  | [], b => by simp [frmL]
  | d :: r, b => by rw [List.cons_append, frmL, frmL, frmL_app r b, Bool.and_assoc]
theorem frmL_no (vs : List Nd) (j : Nat) (d : Nd) (hd : vs[j]? = some d) (h : frmN d = false) : frmL vs = false := by
  have hj := (List.getElem?_eq_some_iff.1 hd).1
  have e : vs = vs.take j ++ (d :: vs.drop (j + 1)) := by
    have h1 : vs.drop j = d :: vs.drop (j + 1) := by
      rw [List.drop_eq_getElem_cons hj]
      rw [(List.getElem?_eq_some_iff.1 hd).2]
    rw [← h1, List.take_append_drop]
  rw [e, frmL_app, frmL, h]
  simp
def FrmOk (d : Nd) : Prop := ∀ (w : World) (F : Nat → Prop) (a : Rn), NdF w F a d → Calls Tryz.prog 36 #[.agg (rnA a)] w fun e w' => e = .returned (.bool (frmN d)) ∧ Below w.heap.size w w'
set_option linter.unusedSimpArgs false in
set_option maxRecDepth 100000 in
set_option maxHeartbeats 16000000 in
theorem formed15_step (k n : Int) (s : List UInt8) (ks : List (List UInt8)) (vs : List Nd) (ih : ∀ d ∈ vs, FrmOk d) : FrmOk (.mk k n s ks vs) := fun w F a ha => by
  obtain ⟨a1, a2, -, kb, rs, ak, -, akk, av, -, al, ⟨hmk, hmv⟩, ae⟩ := ha.inv
  have na := ak.num
  have va := av.num
  have hst : (strs kb).length = ks.length := by rw [← akk]; simp [strs]
  rw [hst] at na
  have bY := below_alloc w (.cells (rnA a) 41)
  have rA := RowC.new w (rnA a) 41
  have HFR : Hid (frmN (.mk k n s ks vs) = (decide (1 ≤ k ∧ k ≤ 6) && !decide (k = 3 ∧ n < 0) && !decide (k = 6 ∧ ks.length ≠ vs.length) && frmL vs)) := by show _ = _; rw [frmN_mk]
  obtain ⟨n0, hn0⟩ : ∃ q, w.heap.size = q := ⟨_, rfl⟩
  rw [hn0] at rA
  go_enter Tryz.func36, Tryz.ntmps36
  go_upto_region 1 with fail
  have avY := av.kept bY
  have HAE : Hid (∀ (i : Nat) u d, rs[i]? = some u → vs[i]? = some d → NdF (w.alloc (.cells (rnA a) 41)) F u d) := fun i u d h1 h2 => (ae i u d h1 h2).kept bY
  rw [hn0] at bY
  generalize w.alloc (.cells (rnA a) 41) = Y at rA bY avY HAE ⊢
  obtain ⟨k9, n9, s9, ⟨xk, nk, ck⟩, ⟨xv, nv, cv⟩⟩ := a
  simp only at a1 a2 na va hmk hmv
  subst a1 a2
  have a0 : Y.cell? ⟨n0, 0, none⟩ = some (.int .i64 k9) := rA.cell 0
  have a1' : Y.cell? ⟨n0, 1, none⟩ = some (.int .i64 n9) := rA.cell 1
  have a3' : Y.cell? ⟨n0, 3, none⟩ = some (.slice xk nk ck) := rA.cell 3
  have a4 : Y.cell? ⟨n0, 4, none⟩ = some (.slice xv nv cv) := rA.cell 4
  have HV : Hid (nv = rs.length ∧ nv = vs.length) := ⟨va, by omega⟩
  have HK : Hid (nk = ks.length) := na
  have HAV : Hid (IsK ndE Y (.slice xv nv cv) rs) := avY
  have HBY : Hid (Below n0 w Y) := bY
  clear ak av ae akk ha avY rA bY hst al na va
  by_cases h1 : k9 < 1
  · have HR : Hid (frmN (.mk k9 n9 s ks vs) = false) := by
      show _ = _
      have h9 := HFR.out
      rw [decide_eq_false (by omega : ¬ (1 ≤ k9 ∧ k9 ≤ 6))] at h9
      rw [h9]; simp
    skip
    go_wp2
    go_ret
    rw [HR.out]
    exact ⟨rfl, by first | exact HBY.out | (rw [hn0]; exact HBY.out)⟩
  by_cases h6 : 6 < k9
  · have HR : Hid (frmN (.mk k9 n9 s ks vs) = false) := by
      show _ = _
      have h9 := HFR.out
      rw [decide_eq_false (by omega : ¬ (1 ≤ k9 ∧ k9 ≤ 6))] at h9
      rw [h9]; simp
    skip
    go_wp2
    go_ret
    rw [HR.out]
    exact ⟨rfl, by first | exact HBY.out | (rw [hn0]; exact HBY.out)⟩
  by_cases h3 : k9 = 3
  · have f3 : (k9 == 3) = true := beq_iff_eq.2 h3
    have f6 : (k9 == 6) = false := beq_eq_false_iff_ne.2 (by omega)
    by_cases hn : n9 < 0
    · have HR : Hid (frmN (.mk k9 n9 s ks vs) = false) := by
        show _ = _
        have h9 := HFR.out
        rw [decide_eq_true (⟨h3, hn⟩ : k9 = 3 ∧ n9 < 0)] at h9
        rw [h9]; simp
      clear h3
      go_wp2
      go_ret
      rw [HR.out]
      exact ⟨rfl, by first | exact HBY.out | (rw [hn0]; exact HBY.out)⟩
    · have HF : Hid (frmN (.mk k9 n9 s ks vs) = frmL vs) := by
        have h9 := HFR.out
        have hvl : nv = vs.length := HV.out.2
        have hkl : nk = ks.length := HK.out
        rw [decide_eq_true (by omega : 1 ≤ k9 ∧ k9 ≤ 6), decide_eq_false (by exact fun h => hn h.2 : ¬ (k9 = 3 ∧ n9 < 0)), decide_eq_false (by omega : ¬ (k9 = 6 ∧ ks.length ≠ vs.length))] at h9
        rw [h9]; rfl
      clear h3
      go_wp2_with fail
      go_loopw [3] (fun iv wr => ∃ j : Nat, j ≤ nv ∧ iv = .int .i64 j ∧ Hid (frmL (vs.take j) = true) ∧ Below Y.heap.size Y wr) (fun iv _ => nv - (intOf iv).toNat)
      case atStart => exact ⟨0, by omega, rfl, rfl, Below.refl _ _⟩
      case round =>
        obtain ⟨j, hj, rfl, HJ, hB⟩ := hrel
        have q4 := cell_later hB a4
        by_cases hlt : j < nv
        · have i1 : (j : Int) < (nv : Int) := by omega
          have i0 : (0 : Int) ≤ (j : Int) := by omega
          obtain ⟨va, vc⟩ := HV.out
          obtain ⟨ra, hra⟩ : ∃ q, rs[j]? = some q := ⟨_, List.getElem?_eq_getElem (by omega)⟩
          obtain ⟨dd, hdd⟩ : ∃ q, vs[j]? = some q := ⟨_, List.getElem?_eq_getElem (by omega)⟩
          obtain ⟨ba, oa, rfl, -, ca⟩ := IsK.at HAV.out j ra hra
          have la := run_load_el (range_later ca hB)
          have hC := ih dd (List.mem_of_getElem? hdd) wr F ra ((HAE.out j ra dd hra hdd).kept hB)
          have hwr : IntKind.i64.wrap ((j : Int) + 1) = (j : Int) + 1 := by rw [IntKind.wrap_i64]; omega
          have l5 : ndE.k = 5 := rfl
          rw [l5] at la
          have HT : Hid (frmL (vs.take (j + 1)) = frmN dd) := by
            show _ = _
            rw [List.take_add_one, hdd, frmL_app, HJ.out]
            simp [frmL]
          have HN : Hid (frmN dd = false → frmL vs = false) := fun h9 => frmL_no vs j dd hdd h9
          clear ca hra hdd va vc
          go_wp2_with fail
          refine hC.mono ?_
          rintro e w1 ⟨rfl, hb1⟩
          clear hC la
          have hB1 := hB.trans (hb1.mono hB.size)
          clear hB hb1 q4
          cases hf : frmN dd with
          | true =>
            have HT1 : Hid (frmL (vs.take (j + 1)) = true) := by show _ = _; rw [HT.out]; exact hf
            clear hf
            go_wp2
            go_roundw
            case rel => first | exact ⟨j + 1, by omega, by go_num, HT1, hB1⟩ | ((repeat apply Exists.intro); refine ⟨⟨j + 1, by omega, ?_, HT1, hB1⟩, rfl⟩; go_num)
            case measure => simp [intOf]; omega
          | false =>
            have HR : Hid (frmN (.mk k9 n9 s ks vs) = false) := by show _ = _; rw [HF.out, HN.out hf]
            have hBf : Below n0 w w1 := HBY.out.trans (hB1.mono (by have := HBY.out.size; omega))
            clear hf
            go_wp2
            go_ret
            rw [HR.out]
            exact ⟨rfl, by first | exact hBf | (rw [hn0]; exact hBf)⟩
        · obtain rfl : j = nv := by omega
          have i1 : ¬ (j : Int) < (j : Int) := by omega
          have HR : Hid (frmN (.mk k9 n9 s ks vs) = true) := by
            show _ = _
            have h9 : frmL (vs.take j) = true := HJ.out
            rw [List.take_of_length_le (by obtain ⟨va, vc⟩ := HV.out; omega)] at h9
            rw [HF.out, h9]
          have hBf : Below n0 w wr := HBY.out.trans (hB.mono (by have := HBY.out.size; omega))
          go_wp2
          go_ret
          rw [HR.out]
          exact ⟨rfl, by first | exact hBf | (rw [hn0]; exact hBf)⟩
  · have f3 : (k9 == 3) = false := beq_eq_false_iff_ne.2 h3
    by_cases h66 : k9 = 6
    · have f6 : (k9 == 6) = true := beq_iff_eq.2 h66
      by_cases hl : nk = nv
      · have HF : Hid (frmN (.mk k9 n9 s ks vs) = frmL vs) := by
          have h9 := HFR.out
          have hvl : nv = vs.length := HV.out.2
          have hkl : nk = ks.length := HK.out
          rw [decide_eq_true (by omega : 1 ≤ k9 ∧ k9 ≤ 6), decide_eq_false (by exact fun h => h3 h.1 : ¬ (k9 = 3 ∧ n9 < 0)), decide_eq_false (by intro h; have := h.2; omega : ¬ (k9 = 6 ∧ ks.length ≠ vs.length))] at h9
          rw [h9]; rfl
        have fl : ((nk : Int) != (nv : Int)) = false := by rw [hl]; simp
        clear hl h66 h3
        go_wp2_with fail
        go_loopw [3] (fun iv wr => ∃ j : Nat, j ≤ nv ∧ iv = .int .i64 j ∧ Hid (frmL (vs.take j) = true) ∧ Below Y.heap.size Y wr) (fun iv _ => nv - (intOf iv).toNat)
        case atStart => exact ⟨0, by omega, rfl, rfl, Below.refl _ _⟩
        case round =>
          obtain ⟨j, hj, rfl, HJ, hB⟩ := hrel
          have q4 := cell_later hB a4
          by_cases hlt : j < nv
          · have i1 : (j : Int) < (nv : Int) := by omega
            have i0 : (0 : Int) ≤ (j : Int) := by omega
            obtain ⟨va, vc⟩ := HV.out
            obtain ⟨ra, hra⟩ : ∃ q, rs[j]? = some q := ⟨_, List.getElem?_eq_getElem (by omega)⟩
            obtain ⟨dd, hdd⟩ : ∃ q, vs[j]? = some q := ⟨_, List.getElem?_eq_getElem (by omega)⟩
            obtain ⟨ba, oa, rfl, -, ca⟩ := IsK.at HAV.out j ra hra
            have la := run_load_el (range_later ca hB)
            have hC := ih dd (List.mem_of_getElem? hdd) wr F ra ((HAE.out j ra dd hra hdd).kept hB)
            have hwr : IntKind.i64.wrap ((j : Int) + 1) = (j : Int) + 1 := by rw [IntKind.wrap_i64]; omega
            have l5 : ndE.k = 5 := rfl
            rw [l5] at la
            have HT : Hid (frmL (vs.take (j + 1)) = frmN dd) := by
              show _ = _
              rw [List.take_add_one, hdd, frmL_app, HJ.out]
              simp [frmL]
            have HN : Hid (frmN dd = false → frmL vs = false) := fun h9 => frmL_no vs j dd hdd h9
            clear ca hra hdd va vc
            go_wp2_with fail
            refine hC.mono ?_
            rintro e w1 ⟨rfl, hb1⟩
            clear hC la
            have hB1 := hB.trans (hb1.mono hB.size)
            clear hB hb1 q4
            cases hf : frmN dd with
            | true =>
              have HT1 : Hid (frmL (vs.take (j + 1)) = true) := by show _ = _; rw [HT.out]; exact hf
              clear hf
              go_wp2
              go_roundw
              case rel => first | exact ⟨j + 1, by omega, by go_num, HT1, hB1⟩ | ((repeat apply Exists.intro); refine ⟨⟨j + 1, by omega, ?_, HT1, hB1⟩, rfl⟩; go_num)
              case measure => simp [intOf]; omega
            | false =>
              have HR : Hid (frmN (.mk k9 n9 s ks vs) = false) := by show _ = _; rw [HF.out, HN.out hf]
              have hBf : Below n0 w w1 := HBY.out.trans (hB1.mono (by have := HBY.out.size; omega))
              clear hf
              go_wp2
              go_ret
              rw [HR.out]
              exact ⟨rfl, by first | exact hBf | (rw [hn0]; exact hBf)⟩
          · obtain rfl : j = nv := by omega
            have i1 : ¬ (j : Int) < (j : Int) := by omega
            have HR : Hid (frmN (.mk k9 n9 s ks vs) = true) := by
              show _ = _
              have h9 : frmL (vs.take j) = true := HJ.out
              rw [List.take_of_length_le (by obtain ⟨va, vc⟩ := HV.out; omega)] at h9
              rw [HF.out, h9]
            have hBf : Below n0 w wr := HBY.out.trans (hB.mono (by have := HBY.out.size; omega))
            go_wp2
            go_ret
            rw [HR.out]
            exact ⟨rfl, by first | exact hBf | (rw [hn0]; exact hBf)⟩
      · have fl : ((nk : Int) != (nv : Int)) = true := bne_iff_ne.2 (by omega)
        have HR : Hid (frmN (.mk k9 n9 s ks vs) = false) := by
          show _ = _
          have h9 := HFR.out
          rw [decide_eq_true (⟨h66, by have h1 : nv = vs.length := HV.out.2; have h2 : nk = ks.length := HK.out; omega⟩ : k9 = 6 ∧ ks.length ≠ vs.length)] at h9
          rw [h9]; simp
        clear h66 h3
        go_wp2
        go_ret
        rw [HR.out]
        exact ⟨rfl, by first | exact HBY.out | (rw [hn0]; exact HBY.out)⟩
    · have f6 : (k9 == 6) = false := beq_eq_false_iff_ne.2 h66
      have HF : Hid (frmN (.mk k9 n9 s ks vs) = frmL vs) := by
        have h9 := HFR.out
        have hvl : nv = vs.length := HV.out.2
        have hkl : nk = ks.length := HK.out
        rw [decide_eq_true (by omega : 1 ≤ k9 ∧ k9 ≤ 6), decide_eq_false (by exact fun h => h3 h.1 : ¬ (k9 = 3 ∧ n9 < 0)), decide_eq_false (by exact fun h => h66 h.1 : ¬ (k9 = 6 ∧ ks.length ≠ vs.length))] at h9
        rw [h9]; rfl
      clear h66 h3
      go_wp2_with fail
      go_loopw [3] (fun iv wr => ∃ j : Nat, j ≤ nv ∧ iv = .int .i64 j ∧ Hid (frmL (vs.take j) = true) ∧ Below Y.heap.size Y wr) (fun iv _ => nv - (intOf iv).toNat)
      case atStart => exact ⟨0, by omega, rfl, rfl, Below.refl _ _⟩
      case round =>
        obtain ⟨j, hj, rfl, HJ, hB⟩ := hrel
        have q4 := cell_later hB a4
        by_cases hlt : j < nv
        · have i1 : (j : Int) < (nv : Int) := by omega
          have i0 : (0 : Int) ≤ (j : Int) := by omega
          obtain ⟨va, vc⟩ := HV.out
          obtain ⟨ra, hra⟩ : ∃ q, rs[j]? = some q := ⟨_, List.getElem?_eq_getElem (by omega)⟩
          obtain ⟨dd, hdd⟩ : ∃ q, vs[j]? = some q := ⟨_, List.getElem?_eq_getElem (by omega)⟩
          obtain ⟨ba, oa, rfl, -, ca⟩ := IsK.at HAV.out j ra hra
          have la := run_load_el (range_later ca hB)
          have hC := ih dd (List.mem_of_getElem? hdd) wr F ra ((HAE.out j ra dd hra hdd).kept hB)
          have hwr : IntKind.i64.wrap ((j : Int) + 1) = (j : Int) + 1 := by rw [IntKind.wrap_i64]; omega
          have l5 : ndE.k = 5 := rfl
          rw [l5] at la
          have HT : Hid (frmL (vs.take (j + 1)) = frmN dd) := by
            show _ = _
            rw [List.take_add_one, hdd, frmL_app, HJ.out]
            simp [frmL]
          have HN : Hid (frmN dd = false → frmL vs = false) := fun h9 => frmL_no vs j dd hdd h9
          clear ca hra hdd va vc
          go_wp2_with fail
          refine hC.mono ?_
          rintro e w1 ⟨rfl, hb1⟩
          clear hC la
          have hB1 := hB.trans (hb1.mono hB.size)
          clear hB hb1 q4
          cases hf : frmN dd with
          | true =>
            have HT1 : Hid (frmL (vs.take (j + 1)) = true) := by show _ = _; rw [HT.out]; exact hf
            clear hf
            go_wp2
            go_roundw
            case rel => first | exact ⟨j + 1, by omega, by go_num, HT1, hB1⟩ | ((repeat apply Exists.intro); refine ⟨⟨j + 1, by omega, ?_, HT1, hB1⟩, rfl⟩; go_num)
            case measure => simp [intOf]; omega
          | false =>
            have HR : Hid (frmN (.mk k9 n9 s ks vs) = false) := by show _ = _; rw [HF.out, HN.out hf]
            have hBf : Below n0 w w1 := HBY.out.trans (hB1.mono (by have := HBY.out.size; omega))
            clear hf
            go_wp2
            go_ret
            rw [HR.out]
            exact ⟨rfl, by first | exact hBf | (rw [hn0]; exact hBf)⟩
        · obtain rfl : j = nv := by omega
          have i1 : ¬ (j : Int) < (j : Int) := by omega
          have HR : Hid (frmN (.mk k9 n9 s ks vs) = true) := by
            show _ = _
            have h9 : frmL (vs.take j) = true := HJ.out
            rw [List.take_of_length_le (by obtain ⟨va, vc⟩ := HV.out; omega)] at h9
            rw [HF.out, h9]
          have hBf : Below n0 w wr := HBY.out.trans (hB.mono (by have := HBY.out.size; omega))
          go_wp2
          go_ret
          rw [HR.out]
          exact ⟨rfl, by first | exact hBf | (rw [hn0]; exact hBf)⟩
theorem formed15_any : ∀ d, FrmOk d := Nd.ind fun k n s ks vs ih => formed15_step k n s ks vs ih
end Go.Proofs.YtddmmmfpdmejbaaGreatDoor
