import Derived.Test.YtddmmmfpdmejbaaGreatDoorQJok
namespace Go.Proofs.YtddmmmfpdmejbaaGreatDoor
open Go.RowKit

/-! assayref15.Node: twice -/
theorem twcL_app : ∀ a b : List Nd, twcL (a ++ b) = (twcL a || twcL b)
  | [], b => by simp [twcL]
  | d :: r, b => by rw [List.cons_append, twcL, twcL, twcL_app r b, Bool.or_assoc]
theorem twcL_yes (vs : List Nd) (j : Nat) (d : Nd) (hd : vs[j]? = some d) (h : twcN d = true) : twcL vs = true := by
  have hj := (List.getElem?_eq_some_iff.1 hd).1
  have e : vs = vs.take j ++ (d :: vs.drop (j + 1)) := by
    have h1 : vs.drop j = d :: vs.drop (j + 1) := by
      rw [List.drop_eq_getElem_cons hj]
      rw [(List.getElem?_eq_some_iff.1 hd).2]
    rw [← h1, List.take_append_drop]
  rw [e, twcL_app, twcL, h]
  simp
theorem dupK_iff : ∀ ks : List (List UInt8), dupK ks = true ↔ ∃ (i k : Nat) (x : List UInt8), k < i ∧ ks[i]? = some x ∧ ks[k]? = some x
  | [] => by simp [dupK]
  | a :: r => by
    rw [dupK, Bool.or_eq_true, dupK_iff r]
    constructor
    · rintro (h | ⟨i, k, x, h1, h2, h3⟩)
      · have hm : a ∈ r := by simpa using h
        obtain ⟨i, hi⟩ := List.mem_iff_getElem?.1 hm
        exact ⟨i + 1, 0, a, by omega, by simpa using hi, by simp⟩
      · exact ⟨i + 1, k + 1, x, by omega, by simpa using h2, by simpa using h3⟩
    · rintro ⟨i, k, x, h1, h2, h3⟩
      obtain ⟨i', rfl⟩ : ∃ i', i = i' + 1 := ⟨i - 1, by omega⟩
      cases k with
      | zero =>
        simp at h2 h3
        subst h3
        exact .inl (by simpa using List.mem_of_getElem? h2)
      | succ k =>
        simp at h2 h3
        exact .inr ⟨i', k, x, by omega, h2, h3⟩
def TwcOk (d : Nd) : Prop := ∀ (w : World) (F : Nat → Prop) (a : Rn), NdF w F a d → Calls Tryz.prog 38 #[.agg (rnA a)] w fun e w' => e = .returned (.bool (twcN d)) ∧ Below w.heap.size w w'
set_option linter.unusedSimpArgs false in
set_option maxRecDepth 100000 in
set_option maxHeartbeats 16000000 in
theorem twice15_step (k n : Int) (s : List UInt8) (ks : List (List UInt8)) (vs : List Nd) (ih : ∀ d ∈ vs, TwcOk d) : TwcOk (.mk k n s ks vs) := fun w F a ha => by
  obtain ⟨-, -, -, kb, rs, ak, -, akk, av, -, al, ⟨hmk, hmv⟩, ae⟩ := ha.inv
  have na := ak.num
  have va := av.num
  have hst : (strs kb).length = kb.length := by simp [strs]
  rw [hst] at na
  have bY := below_alloc w (.cells (rnA a) 41)
  have rA := RowC.new w (rnA a) 41
  have HFR : Hid (twcN (.mk k n s ks vs) = (dupK ks || twcL vs)) := by show _ = _; rw [twcN_mk]
  obtain ⟨n0, hn0⟩ : ∃ q, w.heap.size = q := ⟨_, rfl⟩
  rw [hn0] at rA
  go_enter Tryz.func38, Tryz.ntmps38
  go_upto_region 1 with fail
  have avY := av.kept bY
  have akY := ak.kept bY
  have HAE : Hid (∀ (i : Nat) u d, rs[i]? = some u → vs[i]? = some d → NdF (w.alloc (.cells (rnA a) 41)) F u d) := fun i u d h1 h2 => (ae i u d h1 h2).kept bY
  rw [hn0] at bY
  generalize w.alloc (.cells (rnA a) 41) = Y at rA bY avY akY HAE ⊢
  obtain ⟨k9, n9, s9, ⟨xk, nk, ck⟩, ⟨xv, nv, cv⟩⟩ := a
  simp only at na va hmk hmv
  have a3' : Y.cell? ⟨n0, 3, none⟩ = some (.slice xk nk ck) := rA.cell 3
  have a4 : Y.cell? ⟨n0, 4, none⟩ = some (.slice xv nv cv) := rA.cell 4
  have HV : Hid (nv = rs.length ∧ nv = vs.length) := ⟨va, by omega⟩
  have HK : Hid (nk = kb.length ∧ kb.map lS = ks) := ⟨na, akk⟩
  have HAV : Hid (IsK ndE Y (.slice xv nv cv) rs) := avY
  have HAK : Hid (IsG Y (.slice xk nk ck) (strs kb)) := akY
  have HBY : Hid (Below n0 w Y) := bY
  clear ak av ae akk ha avY akY rA bY hst al na va
  go_wp2_with fail
  go_loopw [3] (fun iv wr => ∃ j : Nat, j ≤ nk ∧ iv = .int .i64 j ∧ Hid (∀ i p x, p < i → i < j → ks[i]? = some x → ks[p]? ≠ some x) ∧ Below Y.heap.size Y wr) (fun iv _ => nk - (intOf iv).toNat)
  case atStart => exact ⟨0, by omega, rfl, fun i p x h1 h2 => by omega, Below.refl _ _⟩
  case round =>
    obtain ⟨j, hj, rfl, HJ, hB⟩ := hrel
    have q3 := cell_later hB a3'
    by_cases hlt : j < nk
    · have i1 : (j : Int) < (nk : Int) := by omega
      have i0 : (0 : Int) ≤ (j : Int) := by omega
      have hwj : IntKind.i64.wrap ((j : Int) + 1) = (j : Int) + 1 := by rw [IntKind.wrap_i64]; omega
      obtain ⟨ba, oa, rfl, -, ca⟩ := IsG.spot HAK.out j (by obtain ⟨kl, kk⟩ := HK.out; simp [strs]; omega)
      obtain ⟨S, hS0⟩ : ∃ S, kb[j]? = some S := ⟨_, List.getElem?_eq_getElem (by obtain ⟨kl, kk⟩ := HK.out; omega)⟩
      have HCA : Hid (∀ i u, (strs kb)[i]? = some u → Y.cell? ⟨ba, oa + i, none⟩ = some u) := ca
      have qS := ca j _ (by simp [strs, hS0] : (strs kb)[j]? = some (.string S))
      have HKS : Hid (ks[j]? = some (lS S)) := by obtain ⟨kl, kk⟩ := HK.out; show _ = _; rw [← kk]; simp [hS0]
      have hB0 := hB
      clear ca hS0 hB
      go_wp2_with fail
      go_loopw [4] (fun iv wr2 => ∃ p : Nat, p ≤ j ∧ iv = .int .i64 p ∧ Hid (∀ p', p' < p → ks[p']? ≠ some (lS S)) ∧ Below Y.heap.size Y wr2) (fun iv _ => j - (intOf iv).toNat)
      case atStart => exact ⟨0, by omega, rfl, fun p' h => by omega, hB0⟩
      case round =>
        clear hB0 q3
        obtain ⟨p, hp, rfl, HP, hB⟩ := hrel
        have q3 := cell_later hB a3'
        have q1 := cell_later hB qS
        by_cases hlp : p < j
        · have i2 : (p : Int) < (j : Int) := by omega
          have i3 : (0 : Int) ≤ (p : Int) := by omega
          have i4 : (p : Int) < (nk : Int) := by omega
          have hwp : IntKind.i64.wrap ((p : Int) + 1) = (p : Int) + 1 := by rw [IntKind.wrap_i64]; omega
          obtain ⟨T, hT0⟩ : ∃ T, kb[p]? = some T := ⟨_, List.getElem?_eq_getElem (by obtain ⟨kl, kk⟩ := HK.out; omega)⟩
          have q2 := cell_later hB (HCA.out p _ (by simp [strs, hT0] : (strs kb)[p]? = some (.string T)))
          have HKT : Hid (ks[p]? = some (lS T)) := by obtain ⟨kl, kk⟩ := HK.out; show _ = _; rw [← kk]; simp [hT0]
          clear hT0
          by_cases hq : lS S = lS T
          · have hqe : (S.toList == T.toList) = true := sEq14 hq
            have HR : Hid (twcN (.mk k n s ks vs) = true) := by
              show _ = _
              rw [HFR.out, (dupK_iff ks).2 ⟨j, p, lS S, hlp, HKS.out, by rw [HKT.out, hq]⟩]; rfl
            clear hq
            go_upto_region 7 with fail
            refine wp_relies [Fx (.pointer (some ⟨n0, 3, none⟩)), Fx (.slice (some ⟨ba, oa, none⟩) nk ck), Fx (.int .i64 (j : Int)), Fx (.pointer (some ⟨ba, oa + j, none⟩)), Fx (.string S), Fx (.pointer (some ⟨n0, 3, none⟩)), Fx (.slice (some ⟨ba, oa, none⟩) nk ck), Fx (.int .i64 (p : Int)), Fx (.pointer (some ⟨ba, oa + p, none⟩)), Fx (.string T), Fx (.bool true)] (by kernel_rfl) (by kernel_rfl) ?_ ?_ ?_
            · repeat' (first | exact all_nil | apply all_cons)
              all_goals intro v y y' hv hb
              all_goals first | exact Fx_mono _ _ _ _ hv hb
            · refine ⟨?_, ?_, ?_, ?_, ?_, ?_, ?_, ?_, ?_, ?_, ?_, trivial⟩
              all_goals
                intro ρ y9 hp ρc ρg ρf ho hd
                have o1 : ρ (.tmp 1) = .pointer (some ⟨n0, 0, none⟩) := ho 1 rfl
                have o3 : ρ (.tmp 3) = .int .i64 (j : Int) := ho 3 rfl
                have o4 : ρ (.tmp 4) = .int .i64 (p : Int) := ho 4 rfl
                clear ho
                replace q1 := cell_later hp q1
                replace q2 := cell_later hp q2
                replace q3 := cell_later hp q3
                simp only [depsR, depR, slotR, Fx, List.getElem?_cons_succ, List.getElem?_cons_zero, Region.binds, forall_const] at hd
                simp only [guardR]
                go_split_ands
              · go_simp
              · go_simp
              · go_simp
              · go_simp
              · go_simp
              · go_simp
              · go_simp
              · go_simp
              · go_simp
              · go_simp
              · go_simp
            · intro us x1 hp1 hw
              simp only [owed, Fx] at hw
              obtain ⟨e0, e1, e2, e3, e4, e5, e6, e7, e8, e9, e10, -⟩ := hw
              simp only [List.length_cons, List.length_nil, List.take_succ_cons, List.take_nil, List.drop_succ_cons, List.drop_nil, asg, List.cons_append, List.nil_append, e0, e1, e2, e3, e4, e5, e6, e7, e8, e9, e10]
              clear e0 e1 e2 e3 e4 e5 e6 e7 e8 e9 e10
              have hBf : Below n0 w x1 := HBY.out.trans ((hB.trans (hp1.mono hB.size)).mono (by have := HBY.out.size; omega))
              go_wp2
              go_ret
              rw [HR.out]
              exact ⟨rfl, by first | exact hBf | (rw [hn0]; exact hBf)⟩
          · have hqe : (S.toList == T.toList) = false := sNe14 hq
            have HP1 : Hid (∀ p', p' < p + 1 → ks[p']? ≠ some (lS S)) := fun p' h9 e9 => by
              rcases (by omega : p' < p ∨ p' = p) with h8 | h8
              · exact HP.out p' h8 e9
              · subst h8
                rw [HKT.out] at e9
                exact hq (Option.some.inj e9).symm
            clear hq
            go_upto_region 7 with fail
            refine wp_relies [Fx (.pointer (some ⟨n0, 3, none⟩)), Fx (.slice (some ⟨ba, oa, none⟩) nk ck), Fx (.int .i64 (j : Int)), Fx (.pointer (some ⟨ba, oa + j, none⟩)), Fx (.string S), Fx (.pointer (some ⟨n0, 3, none⟩)), Fx (.slice (some ⟨ba, oa, none⟩) nk ck), Fx (.int .i64 (p : Int)), Fx (.pointer (some ⟨ba, oa + p, none⟩)), Fx (.string T), Fx (.bool false)] (by kernel_rfl) (by kernel_rfl) ?_ ?_ ?_
            · repeat' (first | exact all_nil | apply all_cons)
              all_goals intro v y y' hv hb
              all_goals first | exact Fx_mono _ _ _ _ hv hb
            · refine ⟨?_, ?_, ?_, ?_, ?_, ?_, ?_, ?_, ?_, ?_, ?_, trivial⟩
              all_goals
                intro ρ y9 hp ρc ρg ρf ho hd
                have o1 : ρ (.tmp 1) = .pointer (some ⟨n0, 0, none⟩) := ho 1 rfl
                have o3 : ρ (.tmp 3) = .int .i64 (j : Int) := ho 3 rfl
                have o4 : ρ (.tmp 4) = .int .i64 (p : Int) := ho 4 rfl
                clear ho
                replace q1 := cell_later hp q1
                replace q2 := cell_later hp q2
                replace q3 := cell_later hp q3
                simp only [depsR, depR, slotR, Fx, List.getElem?_cons_succ, List.getElem?_cons_zero, Region.binds, forall_const] at hd
                simp only [guardR]
                go_split_ands
              · go_simp
              · go_simp
              · go_simp
              · go_simp
              · go_simp
              · go_simp
              · go_simp
              · go_simp
              · go_simp
              · go_simp
              · go_simp
            · intro us x1 hp1 hw
              simp only [owed, Fx] at hw
              obtain ⟨e0, e1, e2, e3, e4, e5, e6, e7, e8, e9, e10, -⟩ := hw
              simp only [List.length_cons, List.length_nil, List.take_succ_cons, List.take_nil, List.drop_succ_cons, List.drop_nil, asg, List.cons_append, List.nil_append, e0, e1, e2, e3, e4, e5, e6, e7, e8, e9, e10]
              clear e0 e1 e2 e3 e4 e5 e6 e7 e8 e9 e10
              have hB2 := hB.trans (hp1.mono hB.size)
              clear q1 q2 q3 hB hp1
              go_wp2
              go_roundw
              case rel => first | exact ⟨p + 1, by omega, by go_num, HP1, hB2⟩ | ((repeat apply Exists.intro); refine ⟨⟨p + 1, by omega, ?_, HP1, hB2⟩, rfl⟩; go_num)
              case measure => simp [intOf]; omega
        · obtain rfl : p = j := by omega
          have i2 : ¬ (p : Int) < (p : Int) := by omega
          have HJ1 : Hid (∀ i p' x, p' < i → i < p + 1 → ks[i]? = some x → ks[p']? ≠ some x) := fun i p' x h1 h2 h3 => by
            rcases (by omega : i < p ∨ i = p) with h8 | h8
            · exact HJ.out i p' x h1 h8 h3
            · subst h8
              rw [HKS.out] at h3
              rw [← h3]
              exact HP.out p' h1
          clear q1 q3
          go_wp2
          go_roundw
          case rel => first | exact ⟨p + 1, by omega, by go_num, HJ1, hB⟩ | ((repeat apply Exists.intro); refine ⟨⟨p + 1, by omega, ?_, HJ1, hB⟩, rfl⟩; go_num)
          case measure => simp [intOf]; omega
    · obtain rfl : j = nk := by omega
      have i1 : ¬ (j : Int) < (j : Int) := by omega
      have HF : Hid (twcN (.mk k n s ks vs) = twcL vs) := by
        show _ = _
        rw [HFR.out]
        have h9 : dupK ks = false := by
          cases hd : dupK ks with
          | false => rfl
          | true =>
            obtain ⟨i, p, x, h1, h2, h3⟩ := (dupK_iff ks).1 hd
            obtain ⟨kl, kk⟩ := HK.out
            have hi : i < j := by have := (List.getElem?_eq_some_iff.1 h2).1; rw [← kk] at this; simp at this; omega
            exact absurd h3 (HJ.out i p x h1 hi h2)
        rw [h9]; rfl
      replace a4 := cell_later hB a4
      have hB0 := hB
      clear hB HJ
      go_wp2_with fail
      clear q3
      generalize wr = Z at hB0 a4 ⊢
      have HAV2 : Hid (IsK ndE Z (.slice xv nv cv) rs) := IsK.kept HAV.out hB0
      have HAE2 : Hid (∀ (i : Nat) u d, rs[i]? = some u → vs[i]? = some d → NdF Z F u d) := fun i u d h1 h2 => NdF.kept (HAE.out i u d h1 h2) hB0
      have HB2 : Hid (Below n0 w Z) := HBY.out.trans (hB0.mono (by have := HBY.out.size; omega))
      clear HAV HAE HBY hB0
      go_loopw [5] (fun iv wr => ∃ p : Nat, p ≤ nv ∧ iv = .int .i64 p ∧ Hid (twcL (vs.take p) = false) ∧ Below Z.heap.size Z wr) (fun iv _ => nv - (intOf iv).toNat)
      case atStart => exact ⟨0, by omega, rfl, rfl, Below.refl _ _⟩
      case round =>
        obtain ⟨p, hp, rfl, HJ, hB⟩ := hrel
        have q4 := cell_later hB a4
        by_cases hlt : p < nv
        · have i1 : (p : Int) < (nv : Int) := by omega
          have i0 : (0 : Int) ≤ (p : Int) := by omega
          obtain ⟨va, vc⟩ := HV.out
          obtain ⟨ra, hra⟩ : ∃ q, rs[p]? = some q := ⟨_, List.getElem?_eq_getElem (by omega)⟩
          obtain ⟨dd, hdd⟩ : ∃ q, vs[p]? = some q := ⟨_, List.getElem?_eq_getElem (by omega)⟩
          obtain ⟨ba, oa, rfl, -, ca⟩ := IsK.at HAV2.out p ra hra
          have la := run_load_el (range_later ca hB)
          have hC := ih dd (List.mem_of_getElem? hdd) wr F ra ((HAE2.out p ra dd hra hdd).kept hB)
          have hwr : IntKind.i64.wrap ((p : Int) + 1) = (p : Int) + 1 := by rw [IntKind.wrap_i64]; omega
          have l5 : ndE.k = 5 := rfl
          rw [l5] at la
          have HT : Hid (twcL (vs.take (p + 1)) = twcN dd) := by
            show _ = _
            rw [List.take_add_one, hdd, twcL_app, HJ.out]
            simp [twcL]
          have HN : Hid (twcN dd = true → twcL vs = true) := fun h9 => twcL_yes vs p dd hdd h9
          clear ca hra hdd va vc
          go_wp2_with fail
          refine hC.mono ?_
          rintro e w2 ⟨rfl, hb2⟩
          clear hC la
          have hB3 := hB.trans (hb2.mono hB.size)
          clear hB hb2 q4
          cases hf : twcN dd with
          | false =>
            have HT1 : Hid (twcL (vs.take (p + 1)) = false) := by show _ = _; rw [HT.out]; exact hf
            clear hf
            go_wp2
            go_roundw
            case rel => first | exact ⟨p + 1, by omega, by go_num, HT1, hB3⟩ | ((repeat apply Exists.intro); refine ⟨⟨p + 1, by omega, ?_, HT1, hB3⟩, rfl⟩; go_num)
            case measure => simp [intOf]; omega
          | true =>
            have HR : Hid (twcN (.mk k n s ks vs) = true) := by show _ = _; rw [HF.out, HN.out hf]
            have hBf : Below n0 w w2 := HB2.out.trans (hB3.mono (by have := HB2.out.size; omega))
            clear hf
            go_wp2
            go_ret
            rw [HR.out]
            exact ⟨rfl, by first | exact hBf | (rw [hn0]; exact hBf)⟩
        · obtain rfl : p = nv := by omega
          have i1 : ¬ (p : Int) < (p : Int) := by omega
          have HR : Hid (twcN (.mk k n s ks vs) = false) := by
            show _ = _
            have h9 : twcL (vs.take p) = false := HJ.out
            rw [List.take_of_length_le (by obtain ⟨va, vc⟩ := HV.out; omega)] at h9
            rw [HF.out, h9]
          have hBf : Below n0 w wr := HB2.out.trans (hB.mono (by have := HB2.out.size; omega))
          go_wp2
          go_ret
          rw [HR.out]
          exact ⟨rfl, by first | exact hBf | (rw [hn0]; exact hBf)⟩
theorem twice15_any : ∀ d, TwcOk d := Nd.ind fun k n s ks vs ih => twice15_step k n s ks vs ih
end Go.Proofs.YtddmmmfpdmejbaaGreatDoor
