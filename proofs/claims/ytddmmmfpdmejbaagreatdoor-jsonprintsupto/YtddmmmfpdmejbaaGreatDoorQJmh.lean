import Derived.Test.YtddmmmfpdmejbaaGreatDoorQJok
import Derived.Test.YtddmmmfpdmejbaaGreatDoorQJpt
import Derived.Test.YtddmmmfpdmejbaaGreatDoorQJfd
import Derived.Test.YtddmmmfpdmejbaaGreatDoorQJkr
namespace Go.Proofs.YtddmmmfpdmejbaaGreatDoor
open Go.RowKit

/-! What made and meant make: its size, its depth -/
theorem szL_md : ∀ (vs : List Nd), (∀ d ∈ vs, ∀ dep, szN (mdN d dep) ≤ szN d) → ∀ dep, szL (mdL vs dep) ≤ szL vs
  | [], _, _ => by rw [mdL]; exact Nat.le_refl _
  | d :: r, h, dep => by
    rw [mdL, szL, szL]
    have h1 := h d (by simp) dep
    have h2 := szL_md r (fun e he => h e (by simp [he])) dep
    omega
set_option linter.unusedSimpArgs false in
theorem mdN_sz : ∀ (d : Nd) (dep : Nat), szN (mdN d dep) ≤ szN d := Nd.ind fun k n s ks vs ih => fun dep => by
  have hL : szL (if dep < 12 then mdL vs (dep + 1) else []) ≤ szL vs := by
    split
    · exact szL_md vs ih (dep + 1)
    · rw [szL]; exact Nat.zero_le _
  rw [mdN_mk]
  generalize (if dep < 12 then mdL vs (dep + 1) else []) = L at hL ⊢
  unfold mdK
  split
  · simp only [szN_mk, szL, List.map_nil, List.sum_nil, List.length_nil]; omega
  split
  · simp only [szN_mk, szL, List.map_nil, List.sum_nil, List.length_nil]; omega
  split
  · simp only [szN_mk, szL, List.map_nil, List.sum_nil, List.length_nil]; omega
  split
  · simp only [szN_mk, szL, List.map_nil, List.sum_nil, List.length_nil]; omega
  split
  · simp only [szN_mk, szL, List.map_nil, List.sum_nil, List.length_nil]; omega
  · simp only [szN_mk, szL, List.map_nil, List.sum_nil, List.length_nil]; omega
theorem depL_md : ∀ (vs : List Nd) (m dep : Nat), (∀ d ∈ vs, depN (mdN d dep) ≤ m) → depL (mdL vs dep) ≤ m
  | [], m, dep, _ => by rw [mdL, depL]; exact Nat.zero_le _
  | d :: r, m, dep, h => by
    rw [mdL, depL]
    have h1 := h d (by simp)
    have h2 := depL_md r m dep (fun e he => h e (by simp [he]))
    omega
set_option linter.unusedSimpArgs false in
theorem mdN_dep : ∀ (d : Nd) (dep : Nat), dep ≤ 12 → depN (mdN d dep) ≤ 13 - dep := Nd.ind fun k n s ks vs ih => fun dep hd => by
  have hL : depL (if dep < 12 then mdL vs (dep + 1) else []) ≤ 12 - dep := by
    split
    · exact depL_md vs _ _ (fun d hm => by have := ih d hm (dep + 1) (by omega); omega)
    · rw [depL]; exact Nat.zero_le _
  rw [mdN_mk]
  generalize (if dep < 12 then mdL vs (dep + 1) else []) = L at hL ⊢
  unfold mdK
  have h0 : depL [] = 0 := rfl
  split
  · simp only [depN_mk, h0]; split <;> omega
  split
  · simp only [depN_mk, h0]; split <;> omega
  split
  · simp only [depN_mk, h0]; split <;> omega
  split
  · simp only [depN_mk]; split <;> omega
  split
  · simp only [depN_mk]; split <;> omega
  · simp only [depN_mk, h0]; split <;> omega
theorem rgL_of : ∀ (us : List Value) (ds : List Nd), us.length = ds.length → (∀ (i : Nat) u d, us[i]? = some u → ds[i]? = some d → rgN d = true) → rgL ds = true
  | [], [], _, _ => rfl
  | u :: us, d :: ds, hl, h => by
    rw [rgL, h 0 u d rfl rfl, rgL_of us ds (by simpa using hl) (fun i a b h1 h2 => h (i + 1) a b (by simpa using h1) (by simpa using h2))]; rfl
  | [], _ :: _, hl, _ => by simp at hl
  | _ :: _, [], hl, _ => by simp at hl
theorem VlG.rg {w : World} {F : Nat → Prop} {v : Value} {d : Nd} (h : VlG w F v d) : rgN d = true := by
  induction h using VlG.rc with
  | nil k hk => rw [rgN_mk, rgL]; rfl
  | null => rw [rgN_mk, rgL]; rfl
  | bool b => rw [rgN_mk, rgL]; cases b <;> rfl
  | num n hn => rw [rgN_mk, rgL, decide_eq_true hn.2]; rfl
  | str s => rw [rgN_mk, rgL]; rfl
  | list a us ds hv hF hl hz he ih => rw [rgN_mk, rgL_of us ds hl ih]; rfl
  | obj ks a kb us ds hk hkF hv hF hl hz he ih => rw [rgN_mk, rgL_of us ds hl ih]; rfl
end Go.Proofs.YtddmmmfpdmejbaaGreatDoor
namespace Go.Proofs.YtddmmmfpdmejbaaGreatDoor
open Go.RowKit

/-! JsonPrints -/
set_option linter.unusedSimpArgs false in
set_option maxRecDepth 100000 in
set_option maxHeartbeats 16000000 in
theorem lawJsonPrints_any {V : World → Prop} (O : JsOk V) (d : Nd) (a : Rn) (w : World) (hVw : V w) (ha : LnF w a d) (hz : szN d ≤ 1099511627776) :
    Calls Tryz.prog 6 #[.agg (rnA a)] w fun e w' => e = .returned (.bool true) ∧ Below w.heap.size w w' := by
  obtain ⟨n0, hn0⟩ : ∃ q, w.heap.size = q := ⟨_, rfl⟩
  have HN0W : Hid (w.heap.size = n0) := hn0
  have HKV : Hid (∀ x, Below n0 w x → V x) := fun x hb => O.keep w x hVw (by rw [hn0]; exact hb)
  have bY := below_alloc w (.cells (rnA a) 25)
  have rY := RowC.new w (rnA a) 25
  have hLY := ha.kept bY
  obtain ⟨D, hD⟩ : ∃ q, mdN d 0 = q := ⟨_, rfl⟩
  have HSZ : Hid (szN D ≤ 1099511627776) := by show _ ≤ _; have := mdN_sz d 0; rw [hD] at this; omega
  have HDP : Hid (depN D ≤ 13) := by show _ ≤ _; have := mdN_dep d 0 (by omega); rw [hD] at this; omega
  have HMD : Hid (∀ x, LnF x a d → Calls Tryz.prog 8 #[.agg (rnA a), .int .i64 0] x fun e w' => ∃ v, e = .returned v ∧ VlS w' (x.heap.size ≤ ·) v D ∧ Below x.heap.size x w') := fun x hx => by
    have h9 := made15_any d 0 x a (by omega) hx
    rw [hD] at h9; exact h9
  have HMT : Hid (∀ x, LnF x a d → Calls Tryz.prog 15 #[.agg (rnA a), .int .i64 0] x fun e w' => ∃ r', e = .returned (.agg (rnA r')) ∧ NdF w' (x.heap.size ≤ ·) r' D ∧ Below x.heap.size x w') := fun x hx => by
    have h9 := meant15_any d 0 x a (by omega) hx
    rw [hD] at h9; exact h9
  rw [hn0] at rY bY
  clear ha hz hD
  go_enter Tryz.func6, Tryz.ntmps6
  go_upto_region 1 with fail
  generalize w.alloc (.cells (rnA a) 25) = Y at bY rY hLY ⊢
  obtain ⟨p1, p2⟩ := id rY
  have p3 : (rowAt Y n0).size = 5 := by rw [p2]; rfl
  have hC1 := HMD.out Y hLY
  go_wp2_with fail
  refine hC1.mono ?_
  rintro e w1 ⟨v, rfl, hS1, hb1⟩
  clear hC1 p1 p2 p3
  have hB1 : Below n0 w w1 := bY.trans (hb1.mono (by have := bY.size; omega))
  have r1 := rY.kept hb1
  have hL1 := hLY.kept hb1
  have hN0 : n0 ≤ Y.heap.size := by have := bY.size; omega
  have hrg := hS1.g.rg
  have hP1 := O.prt D _ v w1 hS1.g HSZ.out (Nat.le_trans HDP.out (by omega)) (HKV.out w1 hB1)
  clear bY rY hLY hb1
  go_wp2_with fail
  refine hP1.mono ?_
  rintro e w2 ⟨rfl, hb2⟩
  clear hP1
  have hB2 : Below n0 w w2 := hB1.trans (hb2.mono (by have := hB1.size; omega))
  have r2 := r1.kept hb2
  have hL2 := hL1.kept hb2
  have hS2 := hS1.kept hb2
  clear r1 hL1 hS1 hb2 hB1
  go_upto_region 3 with fail
  obtain ⟨p1, p2⟩ := id r2
  have p3 : (rowAt w2 n0).size = 5 := by rw [p2]; rfl
  have hC2 := HMT.out w2 hL2
  go_wp2_with fail
  refine hC2.mono ?_
  rintro e w3 ⟨rm, rfl, hN3, hb3⟩
  clear hC2 p1 p2 p3
  have hR3 := refPrint_any D w3 _ rm hN3 hrg (by have := HSZ.out; omega) (by have := HDP.out; omega)
  have r3 := r2.kept hb3
  have hL3 := hL2.kept hb3
  have hS3 := hS2.kept hb3
  have hB3 : Below n0 w w3 := hB2.trans (hb3.mono (by have := hB2.size; omega))
  clear r2 hL2 hS2 hb3 hB2 hN3
  go_wp2_with fail
  refine hR3.mono ?_
  rintro e w4 ⟨⟨S, rfl, hSe⟩, hb4⟩
  clear hR3
  obtain rfl : S = ⟨(prtS D).toArray⟩ := by
    rw [← hSe]
    cases S
    rfl
  have r4 := r3.kept hb4
  have hL4 := hL3.kept hb4
  have hS4 := hS3.kept hb4
  have hB4 : Below n0 w w4 := hB3.trans (hb4.mono (by have := hB3.size; omega))
  clear r3 hL3 hS3 hb4 hB3 hSe
  obtain ⟨TS, hTS⟩ : ∃ q : ByteArray, ⟨(prtS D).toArray⟩ = q := ⟨_, rfl⟩
  obtain ⟨E, hE⟩ : ∃ q, prtE D = q := ⟨_, rfl⟩
  have HPT : Hid ((⟨(prtS D).toArray⟩ : ByteArray) = TS ∧ prtE D = E) := ⟨hTS, hE⟩
  have hO2 : ∀ x, VlG x (Y.heap.size ≤ ·) v D → V x → Calls Tryz.prog 9 #[v] x fun e w' => e = .returned (.tuple #[.string TS, .int .i64 E]) ∧ Below x.heap.size x w' := fun x h1 h2 => by
    have h9 := O.prt D _ v x h1 HSZ.out (Nat.le_trans HDP.out (by omega)) h2
    unfold PtP at h9
    rw [hTS, hE] at h9; exact h9
  simp only [hTS, hE]
  have hee : (E == E) = true := beq_self_eq_true _
  clear hTS hE
  by_cases hw9 : whlN D = true
  · have hC5 := plain15_any D w4 _ v (hS4.g.f hw9)
    go_wp2_with fail
    refine hC5.mono ?_
    rintro e w5 ⟨m9, rfl, hN5, hb5⟩
    clear hC5
    have b6 := below_alloc w5 (.cells (rnA m9) 41)
    have hb6 := hb5.trans (b6.mono hb5.size)
    have rX := r4.kept hb6
    have hLX := hL4.kept hb6
    have hSX := hS4.kept hb6
    have hBX : Below n0 w (w5.alloc (.cells (rnA m9) 41)) := hB4.trans (hb6.mono (by have := hB4.size; omega))
    have hNX := hN5.kept b6
    have rM := RowC.new w5 (rnA m9) 41
    clear r4 hL4 hS4 hB4 hb5 b6 hb6 hN5
    go_upto_region 7 with fail
    obtain ⟨g8, hg8⟩ : ∃ q, w5.heap.size = q := ⟨_, rfl⟩
    rw [hg8] at rM ⊢
    generalize w5.alloc (.cells (rnA m9) 41) = X at rX hLX hSX hBX hNX rM ⊢
    have HBX : Hid (Below n0 w X) := hBX
    have HSX : Hid (VlS X (Y.heap.size ≤ ·) v D) := hSX
    have HLX : Hid (LnF X a d) := hLX
    have HNM : Hid (NdF X (w4.heap.size ≤ ·) m9 D) := hNX
    have HN0X : Hid (n0 ≤ X.heap.size) := by show _ ≤ _; have := hBX.size; omega
    clear hBX hSX hLX hNX hg8
    refine wp_relies [Fx (.bool true), Fx (.bool true), Fx (.agg (rnA m9)), Fx (.agg (rnA a)), (fun v x => ∃ r, v = .agg (rnA r) ∧ NdF x (n0 ≤ ·) r D), Fx (.bool true), Fx (.bool false), Fx (.bool false)] (by kernel_rfl) (by kernel_rfl) ?_ ?_ ?_
    · repeat' (first | exact all_nil | apply all_cons)
      all_goals intro v y y' hv hb
      all_goals first | exact Fx_mono _ _ _ _ hv hb | (obtain ⟨r9, e9, h9⟩ := hv; exact ⟨r9, e9, h9.kept hb⟩)
    · refine ⟨?_, ?_, ?_, ?_, ?_, ?_, ?_, ?_, trivial⟩
      all_goals
        intro ρ x hp ρc ρg ρf ho hd
        have o8 : ρ (.tmp 8) = .pointer (some ⟨g8, 0, none⟩) := ho 8 rfl
        have o1 : ρ (.tmp 1) = .pointer (some ⟨n0, 0, none⟩) := ho 1 rfl
        have o9 : ρ (.tmp 9) = .bool true := ho 9 rfl
        clear ho
        simp only [depsR, depR, slotR, Fx, List.getElem?_cons_succ, List.getElem?_cons_zero, Region.binds, forall_const] at hd
        simp only [guardR]
        go_split_ands
      · go_simp
      · go_simp
      · refine ⟨fun _ => ?_, fun hy => absurd (by simp [yieldR, slotR, *]) hy⟩
        obtain ⟨p1, p2⟩ := id (rM.kept hp)
        have p3 : (rowAt x g8).size = 5 := by rw [p2]; rfl
        go_simp
      · refine ⟨fun _ => ?_, fun hy => absurd (by simp [yieldR, slotR, *]) hy⟩
        obtain ⟨p1, p2⟩ := id (rX.kept hp)
        have p3 : (rowAt x n0).size = 5 := by rw [p2]; rfl
        go_simp
      · refine ⟨fun _ => ?_, fun hy => absurd (by simp [yieldR, slotR, *]) hy⟩
        go_simp
        refine (HMT.out x (LnF.kept HLX.out hp)).mono ?_
        rintro e x' ⟨r9, rfl, hN9, hb9⟩
        exact ⟨_, rfl, ⟨r9, rfl, hN9.mono fun b hb => by have h8 := HN0X.out; have h7 := hp.size; omega⟩, hb9⟩
      · refine ⟨fun _ => ?_, fun hy => absurd (by simp [yieldR, slotR, *]) hy⟩
        obtain ⟨r9, e9, hN9⟩ : (fun v x => ∃ r, v = .agg (rnA r) ∧ NdF x (n0 ≤ ·) r D) (ρ (.tmp 42)) x := by first | exact hd | exact hd.1 | exact hd.2 | exact hd.2.1 | assumption
        go_simp
        refine (same15_any D x _ _ m9 r9 (NdF.kept HNM.out hp) hN9).mono ?_
        rintro e x' ⟨rfl, hb9⟩
        exact ⟨_, rfl, rfl, hb9⟩
      · refine ⟨fun _ => ?_, fun hy => absurd (by simp [yieldR, slotR, *]) hy⟩
        go_simp
      · go_simp
    · intro us9 x hp hw
      simp only [owed, Fx] at hw
      obtain ⟨e0, e1, e2, e3, e4, e5, e6, e7, -⟩ := hw
      simp only [List.length_cons, List.length_nil, List.take_succ_cons, List.take_nil, List.drop_succ_cons, List.drop_nil, asg, List.cons_append, List.nil_append, e0, e1, e2, e3, e5, e6, e7]
      clear e0 e1 e2 e3 e5 e6 e7 e4
      have hBx : Below n0 w x := HBX.out.trans (hp.mono (by have := HN0X.out; omega))
      have hSx := VlS.kept HSX.out hp
      have hVx := HKV.out x hBx
      have hP2 := hO2 x hSx.g hVx
      clear hp
      go_wp2_with fail
      refine hP2.mono ?_
      rintro e w8 ⟨rfl, hb8⟩
      clear hP2
      have hS8 := hSx.kept hb8
      have hB8 : Below n0 w w8 := hBx.trans (hb8.mono (by have := hBx.size; have := HN0W.out; omega))
      have hC8 := spare15_any D w8 _ v hS8
      clear hSx hVx hBx hb8
      go_wp2_with fail
      refine hC8.mono ?_
      rintro e wa ⟨rfl, hba⟩
      clear hC8 hS8
      have hBa : Below n0 w wa := hB8.trans (hba.mono (by have := hB8.size; have := HN0W.out; omega))
      have hKa := known15_any O wa (HKV.out wa hBa)
      go_wp2_with fail
      refine hKa.mono ?_
      rintro e wb ⟨rfl, hbb⟩
      clear hKa
      have hBb : Below n0 w wb := hBa.trans (hbb.mono (by have := hBa.size; have := HN0W.out; omega))
      go_wp2
      go_ret
      exact ⟨rfl, by first | exact hBb | (rw [HN0W.out]; exact hBb)⟩
  · have hC5 := plainNo15_any D w4 _ v hS4.g (by simpa using hw9)
    go_wp2_with fail
    refine hC5.mono ?_
    rintro e w5 ⟨rfl, hb5⟩
    clear hC5
    have b6 := below_alloc w5 (.cells (rnA rnZ) 41)
    have hb6 := hb5.trans (b6.mono hb5.size)
    have hSX := hS4.kept hb6
    have hBX : Below n0 w (w5.alloc (.cells (rnA rnZ) 41)) := hB4.trans (hb6.mono (by have := hB4.size; omega))
    clear r4 hL4 hS4 hB4 hb5 b6 hb6
    go_upto_region 7 with fail
    generalize w5.alloc (.cells (rnA rnZ) 41) = X at hSX hBX ⊢
    have HBX : Hid (Below n0 w X) := hBX
    have HSX : Hid (VlS X (Y.heap.size ≤ ·) v D) := hSX
    have HN0X : Hid (n0 ≤ X.heap.size) := by show _ ≤ _; have := hBX.size; omega
    clear hBX hSX
    refine wp_relies [Fx (.bool false), Fx (.bool false), Fx (undef), Fx (undef), Fx (undef), Fx (undef), Fx (undef), Fx (.bool false)] (by kernel_rfl) (by kernel_rfl) ?_ ?_ ?_
    · repeat' (first | exact all_nil | apply all_cons)
      all_goals intro v y y' hv hb
      all_goals first | exact Fx_mono _ _ _ _ hv hb
    · refine ⟨?_, ?_, ?_, ?_, ?_, ?_, ?_, ?_, trivial⟩
      all_goals
        intro ρ x hp ρc ρg ρf ho hd
        have o9 : ρ (.tmp 9) = .bool false := ho 9 rfl
        clear ho
        simp only [depsR, depR, slotR, Fx, List.getElem?_cons_succ, List.getElem?_cons_zero, Region.binds, forall_const] at hd
        simp only [guardR]
        go_split_ands
      · go_simp
      · go_simp
      · refine ⟨fun hy => ?_, fun _ => rfl⟩
        exfalso; simp [yieldR, slotR, undef, *] at hy
      · refine ⟨fun hy => ?_, fun _ => rfl⟩
        exfalso; simp [yieldR, slotR, undef, *] at hy
      · refine ⟨fun hy => ?_, fun _ => rfl⟩
        exfalso; simp [yieldR, slotR, undef, *] at hy
      · refine ⟨fun hy => ?_, fun _ => rfl⟩
        exfalso; simp [yieldR, slotR, undef, *] at hy
      · refine ⟨fun hy => ?_, fun _ => rfl⟩
        exfalso; simp [yieldR, slotR, undef, *] at hy
      · go_simp
    · intro us9 x hp hw
      simp only [owed, Fx] at hw
      obtain ⟨e0, e1, e2, e3, e4, e5, e6, e7, -⟩ := hw
      simp only [List.length_cons, List.length_nil, List.take_succ_cons, List.take_nil, List.drop_succ_cons, List.drop_nil, asg, List.cons_append, List.nil_append, e0, e1, e2, e3, e4, e5, e6, e7]
      clear e0 e1 e2 e3 e4 e5 e6 e7
      have hBx : Below n0 w x := HBX.out.trans (hp.mono (by have := HN0X.out; omega))
      have hSx := VlS.kept HSX.out hp
      have hVx := HKV.out x hBx
      have hP2 := hO2 x hSx.g hVx
      clear hp
      go_wp2_with fail
      refine hP2.mono ?_
      rintro e w8 ⟨rfl, hb8⟩
      clear hP2
      have hS8 := hSx.kept hb8
      have hB8 : Below n0 w w8 := hBx.trans (hb8.mono (by have := hBx.size; have := HN0W.out; omega))
      have hC8 := spare15_any D w8 _ v hS8
      clear hSx hVx hBx hb8
      go_wp2_with fail
      refine hC8.mono ?_
      rintro e wa ⟨rfl, hba⟩
      clear hC8 hS8
      have hBa : Below n0 w wa := hB8.trans (hba.mono (by have := hB8.size; have := HN0W.out; omega))
      have hKa := known15_any O wa (HKV.out wa hBa)
      go_wp2_with fail
      refine hKa.mono ?_
      rintro e wb ⟨rfl, hbb⟩
      clear hKa
      have hBb : Below n0 w wb := hBa.trans (hbb.mono (by have := hBa.size; have := HN0W.out; omega))
      go_wp2
      go_ret
      exact ⟨rfl, by first | exact hBb | (rw [HN0W.out]; exact hBb)⟩
end Go.Proofs.YtddmmmfpdmejbaaGreatDoor
