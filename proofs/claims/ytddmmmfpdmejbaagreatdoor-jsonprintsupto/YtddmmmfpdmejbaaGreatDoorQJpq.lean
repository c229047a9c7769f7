import Derived.Test.YtddmmmfpdmejbaaGreatDoorQJok
namespace Go.Proofs.YtddmmmfpdmejbaaGreatDoor
open Go.RowKit

/-! assayref15.Node: plain -/
theorem plnL_app : ∀ a b : List Nd, plnL (a ++ b) = (plnL a && plnL b)
  | [], b => by simp [plnL]
  | d :: r, b => by rw [List.cons_append, plnL, plnL, plnL_app r b, Bool.and_assoc]
theorem plnL_no (vs : List Nd) (j : Nat) (d : Nd) (hd : vs[j]? = some d) (h : plnN d = false) : plnL vs = false := by
  have hj := (List.getElem?_eq_some_iff.1 hd).1
  have e : vs = vs.take j ++ (d :: vs.drop (j + 1)) := by
    have h1 : vs.drop j = d :: vs.drop (j + 1) := by
      rw [List.drop_eq_getElem_cons hj]
      rw [(List.getElem?_eq_some_iff.1 hd).2]
    rw [← h1, List.take_append_drop]
  rw [e, plnL_app, plnL, h]
  simp
theorem szL_le : ∀ (vs : List Nd) (j : Nat) (d : Nd), vs[j]? = some d → szN d ≤ szL vs
  | [], j, d, h => by simp at h
  | x :: r, 0, d, h => by simp at h; subst h; rw [szL]; omega
  | x :: r, j + 1, d, h => by
    have := szL_le r j d (by simpa using h)
    rw [szL]; omega
theorem szK_le : ∀ (ks : List (List UInt8)) (j : Nat) (t : List UInt8), ks[j]? = some t → t.length ≤ (ks.map (fun t => t.length + 16)).sum
  | [], j, d, h => by simp at h
  | x :: r, 0, d, h => by simp at h; subst h; simp; omega
  | x :: r, j + 1, d, h => by
    have := szK_le r j d (by simpa using h)
    simp at this ⊢; omega
def PlqOk (d : Nd) : Prop := ∀ (w : World) (F : Nat → Prop) (a : Rn), NdF w F a d → szN d ≤ 140737488355328 → Calls Tryz.prog 37 #[.agg (rnA a)] w fun e w' => e = .returned (.bool (plnN d)) ∧ Below w.heap.size w w'
set_option linter.unusedSimpArgs false in
set_option maxRecDepth 100000 in
set_option maxHeartbeats 16000000 in
theorem plq15_step (k n : Int) (s : List UInt8) (ks : List (List UInt8)) (vs : List Nd) (ih : ∀ d ∈ vs, PlqOk d) : PlqOk (.mk k n s ks vs) := fun w F a ha hsz => by
  obtain ⟨-, -, a3, kb, rs, ak, -, akk, av, -, al, ⟨hmk, hmv⟩, ae⟩ := ha.inv
  have na := ak.num
  have va := av.num
  have hst : (strs kb).length = kb.length := by simp [strs]
  rw [hst] at na
  rw [szN_mk] at hsz
  have bY := below_alloc w (.cells (rnA a) 41)
  have rA := RowC.new w (rnA a) 41
  have HFR : Hid (plnN (.mk k n s ks vs) = (decide (quE s = 0) && ks.all (fun t => decide (quE t = 0)) && plnL vs)) := by show _ = _; rw [plnN_mk]
  obtain ⟨n0, hn0⟩ : ∃ q, w.heap.size = q := ⟨_, rfl⟩
  rw [hn0] at rA
  go_enter Tryz.func37, Tryz.ntmps37
  go_upto_region 1 with fail
  have avY := av.kept bY
  have akY := ak.kept bY
  have HAE : Hid (∀ (i : Nat) u d, rs[i]? = some u → vs[i]? = some d → NdF (w.alloc (.cells (rnA a) 41)) F u d) := fun i u d h1 h2 => (ae i u d h1 h2).kept bY
  rw [hn0] at bY
  generalize w.alloc (.cells (rnA a) 41) = Y at rA bY avY akY HAE ⊢
  obtain ⟨k9, n9, s9, ⟨xk, nk, ck⟩, ⟨xv, nv, cv⟩⟩ := a
  simp only at a3 na va hmk hmv
  subst a3
  have a2' : Y.cell? ⟨n0, 2, none⟩ = some (.string s9) := rA.cell 2
  have a3' : Y.cell? ⟨n0, 3, none⟩ = some (.slice xk nk ck) := rA.cell 3
  have a4 : Y.cell? ⟨n0, 4, none⟩ = some (.slice xv nv cv) := rA.cell 4
  have HV : Hid (nv = rs.length ∧ nv = vs.length) := ⟨va, by omega⟩
  have HK : Hid (nk = kb.length ∧ kb.map lS = ks) := ⟨na, akk⟩
  have HAV : Hid (IsK ndE Y (.slice xv nv cv) rs) := avY
  have HAK : Hid (IsG Y (.slice xk nk ck) (strs kb)) := akY
  have HBY : Hid (Below n0 w Y) := bY
  have hQ := refQuote_any s9 Y (by rw [← lS_len]; omega)
  clear ak av ae akk ha avY akY rA bY hst al na va
  go_wp2_with fail
  refine hQ.mono ?_
  rintro e w1 ⟨rfl, hb1⟩
  clear hQ
  replace a3' := cell_later hb1 a3'
  replace a4 := cell_later hb1 a4
  have HAV1 : Hid (IsK ndE w1 (.slice xv nv cv) rs) := IsK.kept HAV.out hb1
  have HAK1 : Hid (IsG w1 (.slice xk nk ck) (strs kb)) := IsG.kept HAK.out hb1
  have HAE1 : Hid (∀ (i : Nat) u d, rs[i]? = some u → vs[i]? = some d → NdF w1 F u d) := fun i u d h1 h2 => NdF.kept (HAE.out i u d h1 h2) hb1
  have HB1 : Hid (Below n0 w w1) := HBY.out.trans (hb1.mono (by have := HBY.out.size; omega))
  clear HAV HAK HAE HBY hb1 a2'
  by_cases hE : quE (lS s9) = 0
  · rw [hE]
    go_wp2_with fail
    go_loopw [5] (fun iv wr => ∃ j : Nat, j ≤ nk ∧ iv = .int .i64 j ∧ Hid ((ks.take j).all (fun t => decide (quE t = 0)) = true) ∧ Below w1.heap.size w1 wr) (fun iv _ => nk - (intOf iv).toNat)
    case atStart => exact ⟨0, by omega, rfl, rfl, Below.refl _ _⟩
    case round =>
      obtain ⟨j, hj, rfl, HJ, hB⟩ := hrel
      have q3 := cell_later hB a3'
      obtain ⟨kl, kk⟩ := HK.out
      by_cases hlt : j < nk
      · have i1 : (j : Int) < (nk : Int) := by omega
        have i0 : (0 : Int) ≤ (j : Int) := by omega
        obtain ⟨ba, oa, rfl, -, ca⟩ := IsG.spot HAK1.out j (by simp [strs]; omega)
        obtain ⟨S, hS0⟩ : ∃ S, kb[j]? = some S := ⟨_, List.getElem?_eq_getElem (by omega)⟩
        have hS : (strs kb)[j]? = some (.string S) := by simp [strs, hS0]
        have hks : ks[j]? = some (lS S) := by rw [← kk]; simp [hS0]
        have q1 := cell_later hB (ca j _ hS)
        clear hS0
        have hzl := szK_le ks j _ hks
        have hQ := refQuote_any S wr (by rw [← lS_len]; omega)
        have hwr : IntKind.i64.wrap ((j : Int) + 1) = (j : Int) + 1 := by rw [IntKind.wrap_i64]; omega
        have HT : Hid ((ks.take (j + 1)).all (fun t => decide (quE t = 0)) = decide (quE (lS S) = 0)) := by
          show _ = _
          rw [List.take_add_one, hks, List.all_append, HJ.out]
          simp
        have HN : Hid (¬ quE (lS S) = 0 → ks.all (fun t => decide (quE t = 0)) = false) := fun h9 => by
          rw [List.all_eq_false]
          exact ⟨_, List.mem_of_getElem? hks, by simpa using h9⟩
        clear ca hS hks hzl kl kk
        go_wp2_with fail
        refine hQ.mono ?_
        rintro e w2 ⟨rfl, hb2⟩
        clear hQ
        have hB2 := hB.trans (hb2.mono hB.size)
        clear hB hb2 q1 q3
        by_cases h9 : quE (lS S) = 0
        · have HT1 : Hid ((ks.take (j + 1)).all (fun t => decide (quE t = 0)) = true) := by show _ = _; rw [HT.out, decide_eq_true h9]
          rw [h9]
          clear h9
          go_wp2
          go_roundw
          case rel => first | exact ⟨j + 1, by omega, by go_num, HT1, hB2⟩ | ((repeat apply Exists.intro); refine ⟨⟨j + 1, by omega, ?_, HT1, hB2⟩, rfl⟩; go_num)
          case measure => simp [intOf]; omega
        · have f9 : (quE (lS S) != 0) = true := bne_iff_ne.2 h9
          have HR : Hid (plnN (.mk k n (lS s9) ks vs) = false) := by show _ = _; rw [HFR.out, HN.out h9]; simp
          have hBf : Below n0 w w2 := HB1.out.trans (hB2.mono (by have := HB1.out.size; omega))
          clear h9
          go_wp2
          go_ret
          rw [HR.out]
          exact ⟨rfl, by first | exact hBf | (rw [hn0]; exact hBf)⟩
      · obtain rfl : j = nk := by omega
        have i1 : ¬ (j : Int) < (j : Int) := by omega
        have HF : Hid (plnN (.mk k n (lS s9) ks vs) = plnL vs) := by
          have h9 : (ks.take j).all (fun t => decide (quE t = 0)) = true := HJ.out
          rw [List.take_of_length_le (by rw [← kk]; simp; omega)] at h9
          show _ = _
          rw [HFR.out, h9, decide_eq_true hE]; simp
        replace a4 := cell_later hB a4
        have hB0 := hB
        clear hB kl kk HJ
        go_wp2_with fail
        generalize wr = Z at hB0 a4 ⊢
        have HAV2 : Hid (IsK ndE Z (.slice xv nv cv) rs) := IsK.kept HAV1.out hB0
        have HAE2 : Hid (∀ (i : Nat) u d, rs[i]? = some u → vs[i]? = some d → NdF Z F u d) := fun i u d h1 h2 => NdF.kept (HAE1.out i u d h1 h2) hB0
        have HB2 : Hid (Below n0 w Z) := HB1.out.trans (hB0.mono (by have := HB1.out.size; omega))
        clear HAV1 HAE1 HB1 hB0
        go_loopw [8] (fun iv wr => ∃ p : Nat, p ≤ nv ∧ iv = .int .i64 p ∧ Hid (plnL (vs.take p) = true) ∧ Below Z.heap.size Z wr) (fun iv _ => nv - (intOf iv).toNat)
        case atStart => exact ⟨0, by omega, rfl, rfl, Below.refl _ _⟩
        case round =>
          obtain ⟨p, hp, rfl, HJ, hB⟩ := hrel
          have q4 := cell_later hB a4
          by_cases hlt : p < nv
          · have i1 : (p : Int) < (nv : Int) := by omega
            have i0 : (0 : Int) ≤ (p : Int) := by omega
            obtain ⟨va, vc⟩ := HV.out
            obtain ⟨ra, hra⟩ : ∃ q, rs[p]? = some q := ⟨_, List.getElem?_eq_getElem (by omega)⟩
            obtain ⟨dd, hdd⟩ : ∃ q, vs[p]? = some q := ⟨_, List.getElem?_eq_getElem (by omega)⟩
            obtain ⟨ba, oa, rfl, -, ca⟩ := IsK.at HAV2.out p ra hra
            have la := run_load_el (range_later ca hB)
            have hzl := szL_le vs p dd hdd
            have hC := ih dd (List.mem_of_getElem? hdd) wr F ra ((HAE2.out p ra dd hra hdd).kept hB) (by omega)
            have hwr : IntKind.i64.wrap ((p : Int) + 1) = (p : Int) + 1 := by rw [IntKind.wrap_i64]; omega
            have l5 : ndE.k = 5 := rfl
            rw [l5] at la
            have HT : Hid (plnL (vs.take (p + 1)) = plnN dd) := by
              show _ = _
              rw [List.take_add_one, hdd, plnL_app, HJ.out]
              simp [plnL]
            have HN : Hid (plnN dd = false → plnL vs = false) := fun h9 => plnL_no vs p dd hdd h9
            clear ca hra hdd va vc hzl
            go_wp2_with fail
            refine hC.mono ?_
            rintro e w2 ⟨rfl, hb2⟩
            clear hC la
            have hB3 := hB.trans (hb2.mono hB.size)
            clear hB hb2 q4
            cases hf : plnN dd with
            | true =>
              have HT1 : Hid (plnL (vs.take (p + 1)) = true) := by show _ = _; rw [HT.out]; exact hf
              clear hf
              go_wp2
              go_roundw
              case rel => first | exact ⟨p + 1, by omega, by go_num, HT1, hB3⟩ | ((repeat apply Exists.intro); refine ⟨⟨p + 1, by omega, ?_, HT1, hB3⟩, rfl⟩; go_num)
              case measure => simp [intOf]; omega
            | false =>
              have HR : Hid (plnN (.mk k n (lS s9) ks vs) = false) := by show _ = _; rw [HF.out, HN.out hf]
              have hBf : Below n0 w w2 := HB2.out.trans (hB3.mono (by have := HB2.out.size; omega))
              clear hf
              go_wp2
              go_ret
              rw [HR.out]
              exact ⟨rfl, by first | exact hBf | (rw [hn0]; exact hBf)⟩
          · obtain rfl : p = nv := by omega
            have i1 : ¬ (p : Int) < (p : Int) := by omega
            have HR : Hid (plnN (.mk k n (lS s9) ks vs) = true) := by
              show _ = _
              have h9 : plnL (vs.take p) = true := HJ.out
              rw [List.take_of_length_le (by obtain ⟨va, vc⟩ := HV.out; omega)] at h9
              rw [HF.out, h9]
            have hBf : Below n0 w wr := HB2.out.trans (hB.mono (by have := HB2.out.size; omega))
            go_wp2
            go_ret
            rw [HR.out]
            exact ⟨rfl, by first | exact hBf | (rw [hn0]; exact hBf)⟩
  · have f0 : (quE (lS s9) != 0) = true := bne_iff_ne.2 hE
    have HR : Hid (plnN (.mk k n (lS s9) ks vs) = false) := by show _ = _; rw [HFR.out, decide_eq_false hE]; simp
    clear hE
    go_wp2
    go_ret
    rw [HR.out]
    exact ⟨rfl, by first | exact HB1.out | (rw [hn0]; exact HB1.out)⟩
theorem plq15_any : ∀ d, PlqOk d := Nd.ind fun k n s ks vs ih => plq15_step k n s ks vs ih
end Go.Proofs.YtddmmmfpdmejbaaGreatDoor
