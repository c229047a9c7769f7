import Derived.Test.YtddmmmfpdmejbaaGreatDoorQJok
namespace Go.Proofs.YtddmmmfpdmejbaaGreatDoor
open Go.RowKit

/-! assayref15.Node: deep -/
theorem depL_app : ∀ a b : List Nd, depL (a ++ b) = max (depL a) (depL b)
  | [], b => by simp [depL]
  | d :: r, b => by rw [List.cons_append, depL, depL, depL_app r b, Nat.max_assoc]
theorem depL_le : ∀ (vs : List Nd) (j : Nat) (d : Nd), vs[j]? = some d → depN d ≤ depL vs
  | [], j, d, h => by simp at h
  | x :: r, 0, d, h => by simp at h; subst h; rw [depL]; exact Nat.le_max_left _ _
  | x :: r, j + 1, d, h => by
    have := depL_le r j d (by simpa using h)
    rw [depL]
    exact Nat.le_trans this (Nat.le_max_right _ _)
def DepOk (d : Nd) : Prop := ∀ (w : World) (F : Nat → Prop) (a : Rn), NdF w F a d → depN d ≤ 1000000 → Calls Tryz.prog 39 #[.agg (rnA a)] w fun e w' => e = .returned (.int .i64 ((depN d : Nat) : Int)) ∧ Below w.heap.size w w'
set_option linter.unusedSimpArgs false in
set_option maxRecDepth 100000 in
set_option maxHeartbeats 16000000 in
theorem deep15_step (k n : Int) (s : List UInt8) (ks : List (List UInt8)) (vs : List Nd) (ih : ∀ d ∈ vs, DepOk d) : DepOk (.mk k n s ks vs) := fun w F a ha hdp => by
  obtain ⟨a1, -, -, kb, rs, -, -, -, av, -, al, ⟨-, hmv⟩, ae⟩ := ha.inv
  have va := av.num
  have bY := below_alloc w (.cells (rnA a) 41)
  have rA := RowC.new w (rnA a) 41
  have HFR : Hid (depN (.mk k n s ks vs) = if k = 5 ∨ k = 6 then depL vs + 1 else 0) := by show _ = _; rw [depN_mk]
  obtain ⟨n0, hn0⟩ : ∃ q, w.heap.size = q := ⟨_, rfl⟩
  rw [hn0] at rA
  go_enter Tryz.func39, Tryz.ntmps39
  go_upto_region 1 with fail
  have avY := av.kept bY
  have HAE : Hid (∀ (i : Nat) u d, rs[i]? = some u → vs[i]? = some d → NdF (w.alloc (.cells (rnA a) 41)) F u d) := fun i u d h1 h2 => (ae i u d h1 h2).kept bY
  rw [hn0] at bY
  generalize w.alloc (.cells (rnA a) 41) = Y at rA bY avY HAE ⊢
  obtain ⟨k9, n9, s9, sk, ⟨xv, nv, cv⟩⟩ := a
  simp only at a1 va hmv
  subst a1
  have a0 : Y.cell? ⟨n0, 0, none⟩ = some (.int .i64 k9) := rA.cell 0
  have a4 : Y.cell? ⟨n0, 4, none⟩ = some (.slice xv nv cv) := rA.cell 4
  have HV : Hid (nv = rs.length ∧ nv = vs.length) := ⟨va, by omega⟩
  have HAV : Hid (IsK ndE Y (.slice xv nv cv) rs) := avY
  have HBY : Hid (Below n0 w Y) := bY
  clear av ae ha avY rA bY al va
  by_cases hk : k9 = 5 ∨ k9 = 6
  · have HF : Hid (depN (.mk k9 n s ks vs) = depL vs + 1) := by show _ = _; rw [HFR.out, if_pos hk]
    rw [HF.out] at hdp
    have f5 : (k9 != 5) = false ∨ ((k9 != 5) = true ∧ (k9 != 6) = false) := by
      rcases hk with rfl | rfl
      · exact .inl rfl
      · exact .inr ⟨rfl, rfl⟩
    clear hk HFR
    rcases f5 with f5 | ⟨f5, f6⟩
    · go_wp2_with fail
      go_loopw [3, 4] (fun mv iv wr => ∃ j : Nat, j ≤ nv ∧ mv = .int .i64 ((depL (vs.take j) : Nat) : Int) ∧ iv = .int .i64 j ∧ Below Y.heap.size Y wr) (fun _ iv _ => nv - (intOf iv).toNat)
      case atStart => exact ⟨0, by omega, rfl, rfl, Below.refl _ _⟩
      case round =>
        obtain ⟨j, hj, rfl, rfl, hB⟩ := hrel
        have q4 := cell_later hB a4
        by_cases hlt : j < nv
        · have i1 : (j : Int) < (nv : Int) := by omega
          have i0 : (0 : Int) ≤ (j : Int) := by omega
          obtain ⟨va, vc⟩ := HV.out
          obtain ⟨ra, hra⟩ : ∃ q, rs[j]? = some q := ⟨_, List.getElem?_eq_getElem (by omega)⟩
          obtain ⟨dd, hdd⟩ : ∃ q, vs[j]? = some q := ⟨_, List.getElem?_eq_getElem (by omega)⟩
          obtain ⟨ba, oa, rfl, -, ca⟩ := IsK.at HAV.out j ra hra
          have la := run_load_el (range_later ca hB)
          have hdl := depL_le vs j dd hdd
          have hC := ih dd (List.mem_of_getElem? hdd) wr F ra ((HAE.out j ra dd hra hdd).kept hB) (by omega)
          have hwr : IntKind.i64.wrap ((j : Int) + 1) = (j : Int) + 1 := by rw [IntKind.wrap_i64]; omega
          have l5 : ndE.k = 5 := rfl
          rw [l5] at la
          have HT : Hid (((depL (vs.take (j + 1)) : Nat) : Int) = max ((depL (vs.take j) : Nat) : Int) ((depN dd : Nat) : Int)) := by
            show _ = _
            rw [List.take_add_one, hdd, depL_app]
            simp [depL]
            omega
          obtain ⟨X1, hX1⟩ : ∃ q, ((depL (vs.take j) : Nat) : Int) = q := ⟨_, rfl⟩
          obtain ⟨X2, hX2⟩ : ∃ q, ((depN dd : Nat) : Int) = q := ⟨_, rfl⟩
          rw [hX1, hX2] at HT
          rw [hX2] at hC
          rw [hX1]
          clear ca hra hdd va vc hX1 hX2 hdl
          go_wp2_with fail
          refine hC.mono ?_
          rintro e w1 ⟨rfl, hb1⟩
          clear hC la
          have hB1 := hB.trans (hb1.mono hB.size)
          clear hB hb1 q4
          by_cases hmx : X1 < X2
          · have e9 : max X1 X2 = X2 := by omega
            rw [e9] at HT
            clear e9
            go_wp2
            go_roundw
            case rel => first | exact ⟨j + 1, by omega, by rw [HT.out], by go_num, hB1⟩ | ((repeat apply Exists.intro); refine ⟨⟨j + 1, by omega, by rw [HT.out], ?_, hB1⟩, rfl⟩; go_num)
            case measure => simp [intOf]; omega
          · have e9 : max X1 X2 = X1 := by omega
            rw [e9] at HT
            clear e9
            go_wp2
            go_roundw
            case rel => first | exact ⟨j + 1, by omega, by rw [HT.out], by go_num, hB1⟩ | ((repeat apply Exists.intro); refine ⟨⟨j + 1, by omega, by rw [HT.out], ?_, hB1⟩, rfl⟩; go_num)
            case measure => simp [intOf]; omega
        · obtain rfl : j = nv := by omega
          have i1 : ¬ (j : Int) < (j : Int) := by omega
          have h8 : depL (vs.take j) = depL vs := by rw [List.take_of_length_le (by obtain ⟨va, vc⟩ := HV.out; omega)]
          rw [h8]
          obtain ⟨X1, hX1⟩ : ∃ q, depL vs = q := ⟨_, rfl⟩
          rw [hX1] at hdp ⊢
          have HR : Hid (depN (.mk k9 n s ks vs) = X1 + 1) := by show _ = _; rw [HF.out, hX1]
          have hwr : IntKind.i64.wrap ((X1 : Int) + 1) = (X1 : Int) + 1 := by rw [IntKind.wrap_i64]; omega
          have hBf : Below n0 w wr := HBY.out.trans (hB.mono (by have := HBY.out.size; omega))
          clear h8 hX1
          go_wp2
          go_ret
          rw [HR.out]
          exact ⟨by simp, by first | exact hBf | (rw [hn0]; exact hBf)⟩
    · go_wp2_with fail
      go_loopw [3, 4] (fun mv iv wr => ∃ j : Nat, j ≤ nv ∧ mv = .int .i64 ((depL (vs.take j) : Nat) : Int) ∧ iv = .int .i64 j ∧ Below Y.heap.size Y wr) (fun _ iv _ => nv - (intOf iv).toNat)
      case atStart => exact ⟨0, by omega, rfl, rfl, Below.refl _ _⟩
      case round =>
        obtain ⟨j, hj, rfl, rfl, hB⟩ := hrel
        have q4 := cell_later hB a4
        by_cases hlt : j < nv
        · have i1 : (j : Int) < (nv : Int) := by omega
          have i0 : (0 : Int) ≤ (j : Int) := by omega
          obtain ⟨va, vc⟩ := HV.out
          obtain ⟨ra, hra⟩ : ∃ q, rs[j]? = some q := ⟨_, List.getElem?_eq_getElem (by omega)⟩
          obtain ⟨dd, hdd⟩ : ∃ q, vs[j]? = some q := ⟨_, List.getElem?_eq_getElem (by omega)⟩
          obtain ⟨ba, oa, rfl, -, ca⟩ := IsK.at HAV.out j ra hra
          have la := run_load_el (range_later ca hB)
          have hdl := depL_le vs j dd hdd
          have hC := ih dd (List.mem_of_getElem? hdd) wr F ra ((HAE.out j ra dd hra hdd).kept hB) (by omega)
          have hwr : IntKind.i64.wrap ((j : Int) + 1) = (j : Int) + 1 := by rw [IntKind.wrap_i64]; omega
          have l5 : ndE.k = 5 := rfl
          rw [l5] at la
          have HT : Hid (((depL (vs.take (j + 1)) : Nat) : Int) = max ((depL (vs.take j) : Nat) : Int) ((depN dd : Nat) : Int)) := by
            show _ = _
            rw [List.take_add_one, hdd, depL_app]
            simp [depL]
            omega
          obtain ⟨X1, hX1⟩ : ∃ q, ((depL (vs.take j) : Nat) : Int) = q := ⟨_, rfl⟩
          obtain ⟨X2, hX2⟩ : ∃ q, ((depN dd : Nat) : Int) = q := ⟨_, rfl⟩
          rw [hX1, hX2] at HT
          rw [hX2] at hC
          rw [hX1]
          clear ca hra hdd va vc hX1 hX2 hdl
          go_wp2_with fail
          refine hC.mono ?_
          rintro e w1 ⟨rfl, hb1⟩
          clear hC la
          have hB1 := hB.trans (hb1.mono hB.size)
          clear hB hb1 q4
          by_cases hmx : X1 < X2
          · have e9 : max X1 X2 = X2 := by omega
            rw [e9] at HT
            clear e9
            go_wp2
            go_roundw
            case rel => first | exact ⟨j + 1, by omega, by rw [HT.out], by go_num, hB1⟩ | ((repeat apply Exists.intro); refine ⟨⟨j + 1, by omega, by rw [HT.out], ?_, hB1⟩, rfl⟩; go_num)
            case measure => simp [intOf]; omega
          · have e9 : max X1 X2 = X1 := by omega
            rw [e9] at HT
            clear e9
            go_wp2
            go_roundw
            case rel => first | exact ⟨j + 1, by omega, by rw [HT.out], by go_num, hB1⟩ | ((repeat apply Exists.intro); refine ⟨⟨j + 1, by omega, by rw [HT.out], ?_, hB1⟩, rfl⟩; go_num)
            case measure => simp [intOf]; omega
        · obtain rfl : j = nv := by omega
          have i1 : ¬ (j : Int) < (j : Int) := by omega
          have h8 : depL (vs.take j) = depL vs := by rw [List.take_of_length_le (by obtain ⟨va, vc⟩ := HV.out; omega)]
          rw [h8]
          obtain ⟨X1, hX1⟩ : ∃ q, depL vs = q := ⟨_, rfl⟩
          rw [hX1] at hdp ⊢
          have HR : Hid (depN (.mk k9 n s ks vs) = X1 + 1) := by show _ = _; rw [HF.out, hX1]
          have hwr : IntKind.i64.wrap ((X1 : Int) + 1) = (X1 : Int) + 1 := by rw [IntKind.wrap_i64]; omega
          have hBf : Below n0 w wr := HBY.out.trans (hB.mono (by have := HBY.out.size; omega))
          clear h8 hX1
          go_wp2
          go_ret
          rw [HR.out]
          exact ⟨by simp, by first | exact hBf | (rw [hn0]; exact hBf)⟩
  · have HR : Hid (depN (.mk k9 n s ks vs) = 0) := by show _ = _; rw [HFR.out, if_neg hk]
    have f5 : (k9 != 5) = true := bne_iff_ne.2 (fun e => hk (.inl e))
    have f6 : (k9 != 6) = true := bne_iff_ne.2 (fun e => hk (.inr e))
    clear hk
    go_wp2
    go_ret
    rw [HR.out]
    exact ⟨rfl, by first | exact HBY.out | (rw [hn0]; exact HBY.out)⟩
theorem deep15_any : ∀ d, DepOk d := Nd.ind fun k n s ks vs ih => deep15_step k n s ks vs ih
end Go.Proofs.YtddmmmfpdmejbaaGreatDoor
