
import Derived.Test.YtligjfofnafjeaaFor9
namespace Go.Proofs.Ytligjfofnafjeaa
open Go.RowKit

/-! assaylaw21.ForestKeeps -/
/-- Is there a lower one with a layer with that id, among the first k? -/
def lowL (l : List Rw) (i : Nat) : Nat → Bool
  | 0 => false
  | k + 1 => lowL l i k || (match l[k]?, l[i]? with | some r, some s => r.th && r.la && (r.sn.id == s.sn.id) | _, _ => false)
theorem lowL_succ {l : List Rw} {i k : Nat} {r s : Rw} (hk : l[k]? = some r) (hi : l[i]? = some s) : lowL l i (k + 1) = (lowL l i k || (r.th && r.la && (r.sn.id == s.sn.id))) := by
  conv => lhs; unfold lowL
  rw [hk, hi]
theorem lowL_iff {l : List Rw} {i : Nat} {s : Rw} (hi : l[i]? = some s) : ∀ {k : Nat}, k ≤ l.length → (lowL l i k = true ↔ ∃ j r, j < k ∧ l[j]? = some r ∧ r.th = true ∧ r.la = true ∧ r.sn.id = s.sn.id)
  | 0, _ => by simp [lowL]
  | k + 1, hk => by
    obtain ⟨r, hr⟩ : ∃ r, l[k]? = some r := ⟨_, List.getElem?_eq_getElem (by omega)⟩
    rw [lowL_succ hr hi, Bool.or_eq_true, lowL_iff hi (by omega)]
    simp only [Bool.and_eq_true, beq_iff_eq]
    constructor
    · rintro (⟨j, r', h1, h2⟩ | ⟨⟨h1, h2⟩, h3⟩)
      · exact ⟨j, r', by omega, h2⟩
      · exact ⟨k, r, by omega, hr, h1, h2, h3⟩
    · rintro ⟨j, r', h1, h2, h3, h4, h5⟩
      by_cases e : j = k
      · subst e
        rw [hr] at h2
        cases h2
        exact .inr ⟨⟨h3, h4⟩, h5⟩
      · exact .inl ⟨j, r', by omega, h2, h3, h4, h5⟩
/-- A row is kept just if it is there with a layer, its id is not 0, and no lower one has it. -/
theorem kp_low21 {l : List Rw} (hs : ∀ r ∈ l, r.sn.ok) {i : Nat} {r : Rw} (hi : l[i]? = some r) : (frO l).kp i = (r.th && r.la && !(r.sn.id == 0) && !lowL l i i) := by
  have hlt := (List.getElem?_eq_some_iff.1 hi).1
  unfold Fr.kp Fr.cd
  rw [frO_ok hi, frO_la hi]
  cases hth : r.th
  · rfl
  cases hla : r.la
  · simp
  by_cases h0 : r.sn.id = 0
  · rw [h0]; rfl
  · have hz : (r.sn.id == 0) = false := beq_eq_false_iff_ne.2 h0
    rw [hz]
    have : (frO l).lower i = lowL l i i := by
      rw [Bool.eq_iff_iff, Fr.lower_iff, lowL_iff hi (by omega)]
      constructor
      · rintro ⟨k, k1, k2, k3⟩
        obtain ⟨r2, hr2⟩ : ∃ r, l[k]? = some r := ⟨_, List.getElem?_eq_getElem (by omega)⟩
        unfold Fr.cd at k2
        rw [frO_ok hr2, frO_la hr2] at k2
        simp at k2
        rw [frO_id hr2, frO_id hi] at k3
        have a := hs r2 (List.mem_of_getElem? hr2)
        have b := hs r (List.mem_of_getElem? hi)
        unfold Sn.ok at a b
        exact ⟨k, r2, k1, hr2, k2.1.1, k2.2, by omega⟩
      · rintro ⟨k, r2, k1, hr2, k3, k4, k5⟩
        refine ⟨k, k1, ?_, by rw [frO_id hr2, frO_id hi, k5]⟩
        unfold Fr.cd
        rw [frO_ok hr2, frO_la hr2, k3, k4, k5, hz]; rfl
    rw [this]; rfl
/-- Parents that go. -/
def gone (F : Fr) (i : Nat) : Bool := F.kp i && !(F.par i == F.pa i)
theorem gone_sum (F : Fr) (n : Nat) : (Fr.sel (gone F) n).length = (Fr.sel F.noPa n).length + (Fr.sel F.cyc n).length := by
  refine Fr.sel_sum n (fun i _ => ?_) (fun i _ => Fr.noPa_cyc i)
  unfold gone
  cases hk : F.kp i
  · unfold Fr.noPa Fr.cyc Fr.want; rw [hk]; rfl
  · rw [Bool.true_and, Fr.par_goes hk]
theorem par_zero {F : Fr} {i : Nat} (h : F.par i ≠ F.pa i) : F.par i = 0 := by
  unfold Fr.par at h ⊢
  cases hb : (F.want i && !decide (F.nx i < 0) && !F.least i)
  · rfl
  · rw [hb] at h; exact absurd rfl h
set_option linter.unusedSimpArgs false in
set_option maxRecDepth 100000 in
set_option maxHeartbeats 8000000 in
theorem lawForestKeeps_any (O : ForOk) (l : List Rw) (x : Option Addr) (n c : Nat) (w : World) (hn : l.length = n) (h41 : n ≤ 3198579280801) (hs : ∀ r ∈ l, r.sn.ok) (hl : IsK rwE w (.slice x n c) l) :
    Calls Try.prog 4 #[.slice x n c] w fun e w' => e = .returned (.bool true) ∧ Below w.heap.size w w' := by
  have kK := fun W => known21 O W
  go_enter Try.func4, Try.ntmps4
  go_wp2_with fail
  refine (kK _).mono ?_
  rintro e X0 ⟨rfl, hB0⟩
  clear kK
  have kR := rows21 l x n c X0 hn (by omega) (hl.kept hB0)
  go_wp2_with fail
  refine kR.mono ?_
  rintro e X1 ⟨gr, cr, rfl, hO1, hb1⟩
  rw [hn] at hO1 ⊢
  have hB1 := hB0.trans (hb1.mono hB0.size)
  have hI1 := (hO1.cut rwF_ok n (by omega)).isK rwF_ok
  have etk : (l ++ [ex77]).take n = l := by rw [← hn, List.take_left]
  rw [etk] at hI1
  have kO := O.of l (some ⟨gr, 0, none⟩) n cr X1 hn (by omega) hs hI1
  clear kR hb1 hB0 hI1 etk
  go_wp2_with fail
  refine kO.mono ?_
  rintro e X2 ⟨V, rfl, hF⟩
  rw [hn] at hF
  have bC := below_alloc X2 (.cells (foA V) 28)
  have hR := RowC.new X2 (foA V) 28
  have hB2 := hB1.trans (hF.be.mono hB1.size)
  have hBY := hB2.trans (bC.mono hB2.size)
  have hD := hF.rd.kept bC
  have hon := foA_one' hF
  have zV : (foA V).size = 6 := foA_size _
  clear kO bC
  go_upto_region 4 with fail
  generalize hY : X2.alloc (.cells (foA V) 28) = Y at hR hBY hD ⊢
  obtain ⟨g3, hg3⟩ : ∃ q, X2.heap.size = q := ⟨_, rfl⟩
  rw [hg3] at hR
  simp only [hg3]
  clear hO1 hB1 hB2 hF hY hg3 hon zV
  obtain ⟨xk, ck, ek⟩ := hD.k.len
  obtain ⟨xp, cp, ep⟩ := hD.p.len
  obtain ⟨x4, c4, e4⟩ := (hD.l 4 (by omega) (by omega)).len
  obtain ⟨x5, c5, e5⟩ := (hD.l 5 (by omega) (by omega)).len
  rw [bF_len] at ek
  rw [uF_len] at ep
  rw [iF_len] at e4 e5
  have rowk : ∀ W, Below Y.heap.size Y W → W.cell? ⟨g3, 0, none⟩ = some (.slice xk n ck) ∧ W.cell? ⟨g3, 1, none⟩ = some (.slice xp n cp) ∧ W.cell? ⟨g3, 4, none⟩ = some (V 4) ∧ W.cell? ⟨g3, 5, none⟩ = some (V 5) := fun W hb => by
    have h9 := hR.kept hb
    refine ⟨?_, ?_, ?_, ?_⟩
    · rw [h9.cell, foA_get V 0 (by omega), ek]
    · rw [h9.cell, foA_get V 1 (by omega), ep]
    · rw [h9.cell, foA_get V 4 (by omega)]
    · rw [h9.cell, foA_get V 5 (by omega)]
  have HRK : Hid _ := rowk
  obtain ⟨ra, rb, -, -⟩ := rowk Y (Below.refl _ _)
  clear rowk
  go_wp2_with fail
  clear ra rb
  go_loopw [4, 5] (fun tv iv wr => ∃ i : Nat, i ≤ n ∧ iv = .int .i64 i ∧ tv = .int .i64 (((Fr.sel (gone (frO l)) i).length : Nat) : Int) ∧ Below Y.heap.size Y wr) (fun _ iv _ => n - (intOf iv).toNat)
  case atStart => exact ⟨0, by omega, rfl, rfl, Below.refl _ _⟩
  case round =>
    obtain ⟨i, hi, rfl, rfl, hBw⟩ := hrel
    obtain ⟨T, hT⟩ : ∃ q, (Fr.sel (gone (frO l)) i).length = q := ⟨_, rfl⟩
    rw [hT]
    by_cases hlt : i < n
    · obtain ⟨r, hr⟩ : ∃ r, l[i]? = some r := ⟨_, List.getElem?_eq_getElem (by omega)⟩
      have hlY := hl.kept hBY
      obtain ⟨g, o, e9, -, -, -, -, -⟩ := rwE_cells hlY i r hr
      subst e9
      have i0 : (i : Int) < (n : Int) := by omega
      have HI : Hid (i < n) := hlt
      have HLY : Hid (IsK rwE Y (.slice (some ⟨g, o, none⟩) n c) l) := hlY
      have HT : Hid ((Fr.sel (gone (frO l)) i).length = T ∧ T ≤ i) := ⟨hT, by rw [← hT]; exact sel_le _ _⟩
      have HR9 : Hid (l[i]? = some r) := hr
      obtain ⟨wo, hwo⟩ : ∃ wo, wo = wr := ⟨_, rfl⟩
      rw [← hwo] at hBw ⊢
      clear hwo hi hT hlY
      go_wp2_with fail
      go_loopw [6, 7] (fun lv kv wr => ∃ k : Nat, k ≤ i ∧ kv = .int .i64 k ∧ lv = .bool (lowL l i k) ∧ Below Y.heap.size Y wr) (fun _ kv _ => i - (intOf kv).toNat)
      case atStart => exact ⟨0, by omega, rfl, rfl, hBw⟩
      case round =>
        clear hBw
        obtain ⟨k, hk, rfl, rfl, hB⟩ := hrel
        by_cases hki : k < i
        · obtain ⟨s, hsk⟩ : ∃ r, l[k]? = some r := ⟨_, List.getElem?_eq_getElem (by omega)⟩
          obtain ⟨g9, o9, e9, -, d0, d1, d2, -⟩ := rwE_cells (HLY.out.kept hB) k s hsk
          cases e9
          obtain ⟨g9, o9, e9, -, -, -, c2, -⟩ := rwE_cells (HLY.out.kept hB) i r hr
          cases e9
          have FK : Hid ((0 : Int) ≤ (k : Int) ∧ (k : Int) < (n : Int) ∧ (0 : Int) ≤ (i : Int) ∧ (i : Int) < (n : Int)) := ⟨by omega, by omega, by omega, i0⟩
          have k0 : (k : Int) < (i : Int) := by omega
          have HKI : Hid (k < i) := hki
          have hnx := lowL_succ hsk hr
          obtain ⟨D, hD9⟩ : ∃ q, r.sn.id = q := ⟨_, rfl⟩
          obtain ⟨D2, hD2⟩ : ∃ q, s.sn.id = q := ⟨_, rfl⟩
          rw [hD9] at c2 hnx
          rw [hD2] at d2 hnx
          obtain ⟨b, hb⟩ : ∃ q, lowL l i k = q := ⟨_, rfl⟩
          rw [hb] at hnx ⊢
          clear hsk hD9 hD2 hb hki hk
          cases b
          · cases hth : s.th
            · rw [hth] at d0 hnx
              have HNX : Hid (lowL l i (k + 1) = false) := hnx
              clear hnx hth i0
              go_upto_region 14 with fail
              refine wp_reliesT [Fx (.bool false), Fx (.bool false), Fx (.slice (some ⟨g, o, none⟩) n c), Fx (.int .i64 (k : Int)), Fx (.pointer (some ⟨g, o + k * 36, none⟩)), Fx (.pointer (some ⟨g, o + k * 36, none⟩)), Fx (.bool false), Fx (.bool false), Fx (undef), Fx (undef), Fx (undef), Fx (undef), Fx (undef), Fx (.bool false), Fx (.bool false), Fx (undef), Fx (undef), Fx (undef), Fx (undef), Fx (undef), Fx (undef), Fx (undef), Fx (undef), Fx (undef), Fx (undef), Fx (undef), Fx (undef), Fx (undef), Fx (.bool false), Fx (.bool false)] (by kernel_rfl) (by kernel_rfl) ?_ ?_ ?_
              · repeat' (first | exact all_nil | apply all_cons)
                all_goals intro v y y' hv hb
                all_goals first | exact Fx_mono _ _ _ _ hv hb
              · refine ⟨?_, ?_, ?_, ?_, ?_, ?_, ?_, ?_, ?_, ?_, ?_, ?_, ?_, ?_, ?_, ?_, ?_, ?_, ?_, ?_, ?_, ?_, ?_, ?_, ?_, ?_, ?_, ?_, ?_, ?_, trivial⟩
                all_goals
                  intro ρ y9 hp ρc ρg ρf ho hd
                  have o0 : ρ (.tmp 0) = .slice (some ⟨g, o, none⟩) n c := ho 0 rfl
                  have o6 : ρ (.tmp 6) = .bool false := ho 6 rfl
                  have o7 : ρ (.tmp 7) = .int .i64 (k : Int) := ho 7 rfl
                  clear ho
                  replace d0 := cell_later hp d0
                  replace d1 := cell_later hp d1
                  replace d2 := cell_later hp d2
                  replace c2 := cell_later hp c2
                  simp only [depsR, depR, slotR, Fx, List.getElem?_cons_succ, List.getElem?_cons_zero, Region.binds, forall_const] at hd
                  simp only [guardR]
                  go_split_ands
                · go_simp
                · go_simp
                · refine ⟨fun _ => ?_, fun hy => absurd (by simp [yieldR, slotR, *]) hy⟩
                  go_simp
                · refine ⟨fun _ => ?_, fun hy => absurd (by simp [yieldR, slotR, *]) hy⟩
                  go_simp
                · refine ⟨fun _ => ?_, fun hy => absurd (by simp [yieldR, slotR, *]) hy⟩
                  obtain ⟨z1, z2, z3, z4⟩ := FK.out
                  go_simp
                · refine ⟨fun _ => ?_, fun hy => absurd (by simp [yieldR, slotR, *]) hy⟩
                  go_simp
                · refine ⟨fun _ => ?_, fun hy => absurd (by simp [yieldR, slotR, *]) hy⟩
                  go_simp
                · refine ⟨fun _ => ?_, fun hy => absurd (by simp [yieldR, slotR, *]) hy⟩
                  go_simp
                · refine ⟨fun hy => ?_, fun _ => rfl⟩
                  exfalso; simp [yieldR, slotR, undef, *] at hy
                · refine ⟨fun hy => ?_, fun _ => rfl⟩
                  exfalso; simp [yieldR, slotR, undef, *] at hy
                · refine ⟨fun hy => ?_, fun _ => rfl⟩
                  exfalso; simp [yieldR, slotR, undef, *] at hy
                · refine ⟨fun hy => ?_, fun _ => rfl⟩
                  exfalso; simp [yieldR, slotR, undef, *] at hy
                · refine ⟨fun hy => ?_, fun _ => rfl⟩
                  exfalso; simp [yieldR, slotR, undef, *] at hy
                · refine ⟨fun _ => ?_, fun hy => absurd (by simp [yieldR, slotR, *]) hy⟩
                  go_simp
                · refine ⟨fun _ => ?_, fun hy => absurd (by simp [yieldR, slotR, *]) hy⟩
                  go_simp
                · refine ⟨fun hy => ?_, fun _ => rfl⟩
                  exfalso; simp [yieldR, slotR, undef, *] at hy
                · refine ⟨fun hy => ?_, fun _ => rfl⟩
                  exfalso; simp [yieldR, slotR, undef, *] at hy
                · refine ⟨fun hy => ?_, fun _ => rfl⟩
                  exfalso; simp [yieldR, slotR, undef, *] at hy
                · refine ⟨fun hy => ?_, fun _ => rfl⟩
                  exfalso; simp [yieldR, slotR, undef, *] at hy
                · refine ⟨fun hy => ?_, fun _ => rfl⟩
                  exfalso; simp [yieldR, slotR, undef, *] at hy
                · refine ⟨fun hy => ?_, fun _ => rfl⟩
                  exfalso; simp [yieldR, slotR, undef, *] at hy
                · refine ⟨fun hy => ?_, fun _ => rfl⟩
                  exfalso; simp [yieldR, slotR, undef, *] at hy
                · refine ⟨fun hy => ?_, fun _ => rfl⟩
                  exfalso; simp [yieldR, slotR, undef, *] at hy
                · refine ⟨fun hy => ?_, fun _ => rfl⟩
                  exfalso; simp [yieldR, slotR, undef, *] at hy
                · refine ⟨fun hy => ?_, fun _ => rfl⟩
                  exfalso; simp [yieldR, slotR, undef, *] at hy
                · refine ⟨fun hy => ?_, fun _ => rfl⟩
                  exfalso; simp [yieldR, slotR, undef, *] at hy
                · refine ⟨fun hy => ?_, fun _ => rfl⟩
                  exfalso; simp [yieldR, slotR, undef, *] at hy
                · refine ⟨fun hy => ?_, fun _ => rfl⟩
                  exfalso; simp [yieldR, slotR, undef, *] at hy
                · refine ⟨fun _ => ?_, fun hy => absurd (by simp [yieldR, slotR, *]) hy⟩
                  go_simp
                · go_simp
              · intro us x2 hp hw
                simp only [owed, Fx] at hw
                obtain ⟨e0, e1, e2, e3, e4, e5, e6, e7, e8, e9, e10, e11, e12, e13, e14, e15, e16, e17, e18, e19, e20, e21, e22, e23, e24, e25, e26, e27, e28, e29, -⟩ := hw
                simp only [List.length_cons, List.length_nil, List.take_succ_cons, List.take_zero, List.drop_succ_cons, List.drop_zero, asg, List.cons_append, List.nil_append, e0, e1, e2, e3, e4, e5, e6, e7, e8, e9, e10, e11, e12, e13, e14, e15, e16, e17, e18, e19, e20, e21, e22, e23, e24, e25, e26, e27, e28, e29]
                clear e0 e1 e2 e3 e4 e5 e6 e7 e8 e9 e10 e11 e12 e13 e14 e15 e16 e17 e18 e19 e20 e21 e22 e23 e24 e25 e26 e27 e28 e29
                have HB : Hid _ := hB.trans (hp.mono hB.size)
                have i0' : (i : Int) < (n : Int) := FK.out.2.2.2
                clear hp hB c2 d0 d1 d2
                go_wp2
                go_roundw
                case rel => first | exact ⟨k + 1, by have := HKI.out; omega, by go_num, by rw [HNX.out], HB.out⟩ | ((repeat apply Exists.intro); refine ⟨⟨k + 1, by have := HKI.out; omega, ?_, by rw [HNX.out], HB.out⟩, rfl⟩; go_num)
                case measure => have := HKI.out; simp [intOf]; omega
            · rw [hth] at d0 hnx
              cases hla : s.la
              · rw [hla] at d1 hnx
                have HNX : Hid (lowL l i (k + 1) = false) := hnx
                clear hnx hth hla i0
                go_upto_region 14 with fail
                refine wp_reliesT [Fx (.bool false), Fx (.bool false), Fx (.slice (some ⟨g, o, none⟩) n c), Fx (.int .i64 (k : Int)), Fx (.pointer (some ⟨g, o + k * 36, none⟩)), Fx (.pointer (some ⟨g, o + k * 36, none⟩)), Fx (.bool true), Fx (.bool true), Fx (.slice (some ⟨g, o, none⟩) n c), Fx (.int .i64 (k : Int)), Fx (.pointer (some ⟨g, o + k * 36, none⟩)), Fx (.pointer (some ⟨g, o + k * 36 + 1, none⟩)), Fx (.bool false), Fx (.bool false), Fx (.bool false), Fx (undef), Fx (undef), Fx (undef), Fx (undef), Fx (undef), Fx (undef), Fx (undef), Fx (undef), Fx (undef), Fx (undef), Fx (undef), Fx (undef), Fx (undef), Fx (.bool false), Fx (.bool false)] (by kernel_rfl) (by kernel_rfl) ?_ ?_ ?_
                · repeat' (first | exact all_nil | apply all_cons)
                  all_goals intro v y y' hv hb
                  all_goals first | exact Fx_mono _ _ _ _ hv hb
                · refine ⟨?_, ?_, ?_, ?_, ?_, ?_, ?_, ?_, ?_, ?_, ?_, ?_, ?_, ?_, ?_, ?_, ?_, ?_, ?_, ?_, ?_, ?_, ?_, ?_, ?_, ?_, ?_, ?_, ?_, ?_, trivial⟩
                  all_goals
                    intro ρ y9 hp ρc ρg ρf ho hd
                    have o0 : ρ (.tmp 0) = .slice (some ⟨g, o, none⟩) n c := ho 0 rfl
                    have o6 : ρ (.tmp 6) = .bool false := ho 6 rfl
                    have o7 : ρ (.tmp 7) = .int .i64 (k : Int) := ho 7 rfl
                    clear ho
                    replace d0 := cell_later hp d0
                    replace d1 := cell_later hp d1
                    replace d2 := cell_later hp d2
                    replace c2 := cell_later hp c2
                    simp only [depsR, depR, slotR, Fx, List.getElem?_cons_succ, List.getElem?_cons_zero, Region.binds, forall_const] at hd
                    simp only [guardR]
                    go_split_ands
                  · go_simp
                  · go_simp
                  · refine ⟨fun _ => ?_, fun hy => absurd (by simp [yieldR, slotR, *]) hy⟩
                    go_simp
                  · refine ⟨fun _ => ?_, fun hy => absurd (by simp [yieldR, slotR, *]) hy⟩
                    go_simp
                  · refine ⟨fun _ => ?_, fun hy => absurd (by simp [yieldR, slotR, *]) hy⟩
                    obtain ⟨z1, z2, z3, z4⟩ := FK.out
                    go_simp
                  · refine ⟨fun _ => ?_, fun hy => absurd (by simp [yieldR, slotR, *]) hy⟩
                    go_simp
                  · refine ⟨fun _ => ?_, fun hy => absurd (by simp [yieldR, slotR, *]) hy⟩
                    go_simp
                  · refine ⟨fun _ => ?_, fun hy => absurd (by simp [yieldR, slotR, *]) hy⟩
                    go_simp
                  · refine ⟨fun _ => ?_, fun hy => absurd (by simp [yieldR, slotR, *]) hy⟩
                    go_simp
                  · refine ⟨fun _ => ?_, fun hy => absurd (by simp [yieldR, slotR, *]) hy⟩
                    go_simp
                  · refine ⟨fun _ => ?_, fun hy => absurd (by simp [yieldR, slotR, *]) hy⟩
                    obtain ⟨z1, z2, z3, z4⟩ := FK.out
                    go_simp
                  · refine ⟨fun _ => ?_, fun hy => absurd (by simp [yieldR, slotR, *]) hy⟩
                    go_simp
                  · refine ⟨fun _ => ?_, fun hy => absurd (by simp [yieldR, slotR, *]) hy⟩
                    go_simp
                  · refine ⟨fun _ => ?_, fun hy => absurd (by simp [yieldR, slotR, *]) hy⟩
                    go_simp
                  · refine ⟨fun _ => ?_, fun hy => absurd (by simp [yieldR, slotR, *]) hy⟩
                    go_simp
                  · refine ⟨fun hy => ?_, fun _ => rfl⟩
                    exfalso; simp [yieldR, slotR, undef, *] at hy
                  · refine ⟨fun hy => ?_, fun _ => rfl⟩
                    exfalso; simp [yieldR, slotR, undef, *] at hy
                  · refine ⟨fun hy => ?_, fun _ => rfl⟩
                    exfalso; simp [yieldR, slotR, undef, *] at hy
                  · refine ⟨fun hy => ?_, fun _ => rfl⟩
                    exfalso; simp [yieldR, slotR, undef, *] at hy
                  · refine ⟨fun hy => ?_, fun _ => rfl⟩
                    exfalso; simp [yieldR, slotR, undef, *] at hy
                  · refine ⟨fun hy => ?_, fun _ => rfl⟩
                    exfalso; simp [yieldR, slotR, undef, *] at hy
                  · refine ⟨fun hy => ?_, fun _ => rfl⟩
                    exfalso; simp [yieldR, slotR, undef, *] at hy
                  · refine ⟨fun hy => ?_, fun _ => rfl⟩
                    exfalso; simp [yieldR, slotR, undef, *] at hy
                  · refine ⟨fun hy => ?_, fun _ => rfl⟩
                    exfalso; simp [yieldR, slotR, undef, *] at hy
                  · refine ⟨fun hy => ?_, fun _ => rfl⟩
                    exfalso; simp [yieldR, slotR, undef, *] at hy
                  · refine ⟨fun hy => ?_, fun _ => rfl⟩
                    exfalso; simp [yieldR, slotR, undef, *] at hy
                  · refine ⟨fun hy => ?_, fun _ => rfl⟩
                    exfalso; simp [yieldR, slotR, undef, *] at hy
                  · refine ⟨fun hy => ?_, fun _ => rfl⟩
                    exfalso; simp [yieldR, slotR, undef, *] at hy
                  · refine ⟨fun _ => ?_, fun hy => absurd (by simp [yieldR, slotR, *]) hy⟩
                    go_simp
                  · go_simp
                · intro us x2 hp hw
                  simp only [owed, Fx] at hw
                  obtain ⟨e0, e1, e2, e3, e4, e5, e6, e7, e8, e9, e10, e11, e12, e13, e14, e15, e16, e17, e18, e19, e20, e21, e22, e23, e24, e25, e26, e27, e28, e29, -⟩ := hw
                  simp only [List.length_cons, List.length_nil, List.take_succ_cons, List.take_zero, List.drop_succ_cons, List.drop_zero, asg, List.cons_append, List.nil_append, e0, e1, e2, e3, e4, e5, e6, e7, e8, e9, e10, e11, e12, e13, e14, e15, e16, e17, e18, e19, e20, e21, e22, e23, e24, e25, e26, e27, e28, e29]
                  clear e0 e1 e2 e3 e4 e5 e6 e7 e8 e9 e10 e11 e12 e13 e14 e15 e16 e17 e18 e19 e20 e21 e22 e23 e24 e25 e26 e27 e28 e29
                  have HB : Hid _ := hB.trans (hp.mono hB.size)
                  have i0' : (i : Int) < (n : Int) := FK.out.2.2.2
                  clear hp hB c2 d0 d1 d2
                  go_wp2
                  go_roundw
                  case rel => first | exact ⟨k + 1, by have := HKI.out; omega, by go_num, by rw [HNX.out], HB.out⟩ | ((repeat apply Exists.intro); refine ⟨⟨k + 1, by have := HKI.out; omega, ?_, by rw [HNX.out], HB.out⟩, rfl⟩; go_num)
                  case measure => have := HKI.out; simp [intOf]; omega
              · rw [hla] at d1 hnx
                obtain ⟨eb, heb⟩ : ∃ q, (D2 == D) = q := ⟨_, rfl⟩
                have HEQ : Hid ((D2 == D) = eb) := heb
                have HNX : Hid (lowL l i (k + 1) = eb) := by rw [heb] at hnx; exact hnx
                clear hnx hth hla heb i0
                go_upto_region 14 with fail
                refine wp_reliesT [Fx (.bool false), Fx (.bool false), Fx (.slice (some ⟨g, o, none⟩) n c), Fx (.int .i64 (k : Int)), Fx (.pointer (some ⟨g, o + k * 36, none⟩)), Fx (.pointer (some ⟨g, o + k * 36, none⟩)), Fx (.bool true), Fx (.bool true), Fx (.slice (some ⟨g, o, none⟩) n c), Fx (.int .i64 (k : Int)), Fx (.pointer (some ⟨g, o + k * 36, none⟩)), Fx (.pointer (some ⟨g, o + k * 36 + 1, none⟩)), Fx (.bool true), Fx (.bool true), Fx (.bool true), Fx (.slice (some ⟨g, o, none⟩) n c), Fx (.int .i64 (k : Int)), Fx (.pointer (some ⟨g, o + k * 36, none⟩)), Fx (.pointer (some ⟨g, o + k * 36 + 2, none⟩)), Fx (.pointer (some ⟨g, o + k * 36 + 2, none⟩)), Fx (.int .u32 D2), Fx (.slice (some ⟨g, o, none⟩) n c), Fx (.int .i64 (i : Int)), Fx (.pointer (some ⟨g, o + i * 36, none⟩)), Fx (.pointer (some ⟨g, o + i * 36 + 2, none⟩)), Fx (.pointer (some ⟨g, o + i * 36 + 2, none⟩)), Fx (.int .u32 D), Fx (.bool eb), Fx (.bool eb), Fx (.bool eb)] (by kernel_rfl) (by kernel_rfl) ?_ ?_ ?_
                · repeat' (first | exact all_nil | apply all_cons)
                  all_goals intro v y y' hv hb
                  all_goals first | exact Fx_mono _ _ _ _ hv hb
                · refine ⟨?_, ?_, ?_, ?_, ?_, ?_, ?_, ?_, ?_, ?_, ?_, ?_, ?_, ?_, ?_, ?_, ?_, ?_, ?_, ?_, ?_, ?_, ?_, ?_, ?_, ?_, ?_, ?_, ?_, ?_, trivial⟩
                  all_goals
                    intro ρ y9 hp ρc ρg ρf ho hd
                    have o0 : ρ (.tmp 0) = .slice (some ⟨g, o, none⟩) n c := ho 0 rfl
                    have o5 : ρ (.tmp 5) = .int .i64 (i : Int) := ho 5 rfl
                    have o6 : ρ (.tmp 6) = .bool false := ho 6 rfl
                    have o7 : ρ (.tmp 7) = .int .i64 (k : Int) := ho 7 rfl
                    clear ho
                    replace d0 := cell_later hp d0
                    replace d1 := cell_later hp d1
                    replace d2 := cell_later hp d2
                    replace c2 := cell_later hp c2
                    simp only [depsR, depR, slotR, Fx, List.getElem?_cons_succ, List.getElem?_cons_zero, Region.binds, forall_const] at hd
                    simp only [guardR]
                    go_split_ands
                  · go_simp
                  · go_simp
                  · refine ⟨fun _ => ?_, fun hy => absurd (by simp [yieldR, slotR, *]) hy⟩
                    go_simp
                  · refine ⟨fun _ => ?_, fun hy => absurd (by simp [yieldR, slotR, *]) hy⟩
                    go_simp
                  · refine ⟨fun _ => ?_, fun hy => absurd (by simp [yieldR, slotR, *]) hy⟩
                    obtain ⟨z1, z2, z3, z4⟩ := FK.out
                    go_simp
                  · refine ⟨fun _ => ?_, fun hy => absurd (by simp [yieldR, slotR, *]) hy⟩
                    go_simp
                  · refine ⟨fun _ => ?_, fun hy => absurd (by simp [yieldR, slotR, *]) hy⟩
                    go_simp
                  · refine ⟨fun _ => ?_, fun hy => absurd (by simp [yieldR, slotR, *]) hy⟩
                    go_simp
                  · refine ⟨fun _ => ?_, fun hy => absurd (by simp [yieldR, slotR, *]) hy⟩
                    go_simp
                  · refine ⟨fun _ => ?_, fun hy => absurd (by simp [yieldR, slotR, *]) hy⟩
                    go_simp
                  · refine ⟨fun _ => ?_, fun hy => absurd (by simp [yieldR, slotR, *]) hy⟩
                    obtain ⟨z1, z2, z3, z4⟩ := FK.out
                    go_simp
                  · refine ⟨fun _ => ?_, fun hy => absurd (by simp [yieldR, slotR, *]) hy⟩
                    go_simp
                  · refine ⟨fun _ => ?_, fun hy => absurd (by simp [yieldR, slotR, *]) hy⟩
                    go_simp
                  · refine ⟨fun _ => ?_, fun hy => absurd (by simp [yieldR, slotR, *]) hy⟩
                    go_simp
                  · refine ⟨fun _ => ?_, fun hy => absurd (by simp [yieldR, slotR, *]) hy⟩
                    go_simp
                  · refine ⟨fun _ => ?_, fun hy => absurd (by simp [yieldR, slotR, *]) hy⟩
                    go_simp
                  · refine ⟨fun _ => ?_, fun hy => absurd (by simp [yieldR, slotR, *]) hy⟩
                    go_simp
                  · refine ⟨fun _ => ?_, fun hy => absurd (by simp [yieldR, slotR, *]) hy⟩
                    obtain ⟨z1, z2, z3, z4⟩ := FK.out
                    go_simp
                  · refine ⟨fun _ => ?_, fun hy => absurd (by simp [yieldR, slotR, *]) hy⟩
                    go_simp
                  · refine ⟨fun _ => ?_, fun hy => absurd (by simp [yieldR, slotR, *]) hy⟩
                    go_simp
                  · refine ⟨fun _ => ?_, fun hy => absurd (by simp [yieldR, slotR, *]) hy⟩
                    go_simp
                  · refine ⟨fun _ => ?_, fun hy => absurd (by simp [yieldR, slotR, *]) hy⟩
                    go_simp
                  · refine ⟨fun _ => ?_, fun hy => absurd (by simp [yieldR, slotR, *]) hy⟩
                    go_simp
                  · refine ⟨fun _ => ?_, fun hy => absurd (by simp [yieldR, slotR, *]) hy⟩
                    obtain ⟨z1, z2, z3, z4⟩ := FK.out
                    go_simp
                  · refine ⟨fun _ => ?_, fun hy => absurd (by simp [yieldR, slotR, *]) hy⟩
                    go_simp
                  · refine ⟨fun _ => ?_, fun hy => absurd (by simp [yieldR, slotR, *]) hy⟩
                    go_simp
                  · refine ⟨fun _ => ?_, fun hy => absurd (by simp [yieldR, slotR, *]) hy⟩
                    go_simp
                  · refine ⟨fun _ => ?_, fun hy => absurd (by simp [yieldR, slotR, *]) hy⟩
                    have z := HEQ.out
                    go_simp
                  · refine ⟨fun _ => ?_, fun hy => absurd (by simp [yieldR, slotR, *]) hy⟩
                    go_simp
                  · go_simp
                · intro us x2 hp hw
                  simp only [owed, Fx] at hw
                  obtain ⟨e0, e1, e2, e3, e4, e5, e6, e7, e8, e9, e10, e11, e12, e13, e14, e15, e16, e17, e18, e19, e20, e21, e22, e23, e24, e25, e26, e27, e28, e29, -⟩ := hw
                  simp only [List.length_cons, List.length_nil, List.take_succ_cons, List.take_zero, List.drop_succ_cons, List.drop_zero, asg, List.cons_append, List.nil_append, e0, e1, e2, e3, e4, e5, e6, e7, e8, e9, e10, e11, e12, e13, e14, e15, e16, e17, e18, e19, e20, e21, e22, e23, e24, e25, e26, e27, e28, e29]
                  clear e0 e1 e2 e3 e4 e5 e6 e7 e8 e9 e10 e11 e12 e13 e14 e15 e16 e17 e18 e19 e20 e21 e22 e23 e24 e25 e26 e27 e28 e29
                  have HB : Hid _ := hB.trans (hp.mono hB.size)
                  have i0' : (i : Int) < (n : Int) := FK.out.2.2.2
                  clear hp hB c2 d0 d1 d2
                  go_wp2
                  go_roundw
                  case rel => first | exact ⟨k + 1, by have := HKI.out; omega, by go_num, by rw [HNX.out], HB.out⟩ | ((repeat apply Exists.intro); refine ⟨⟨k + 1, by have := HKI.out; omega, ?_, by rw [HNX.out], HB.out⟩, rfl⟩; go_num)
                  case measure => have := HKI.out; simp [intOf]; omega
          · have HNX : Hid (lowL l i (k + 1) = true) := by rw [Bool.true_or] at hnx; exact hnx
            clear hnx i0
            go_upto_region 14 with fail
            refine wp_reliesT [Fx (.bool true), Fx (.bool true), Fx (undef), Fx (undef), Fx (undef), Fx (undef), Fx (undef), Fx (undef), Fx (undef), Fx (undef), Fx (undef), Fx (undef), Fx (undef), Fx (undef), Fx (undef), Fx (undef), Fx (undef), Fx (undef), Fx (undef), Fx (undef), Fx (undef), Fx (undef), Fx (undef), Fx (undef), Fx (undef), Fx (undef), Fx (undef), Fx (undef), Fx (undef), Fx (.bool true)] (by kernel_rfl) (by kernel_rfl) ?_ ?_ ?_
            · repeat' (first | exact all_nil | apply all_cons)
              all_goals intro v y y' hv hb
              all_goals first | exact Fx_mono _ _ _ _ hv hb
            · refine ⟨?_, ?_, ?_, ?_, ?_, ?_, ?_, ?_, ?_, ?_, ?_, ?_, ?_, ?_, ?_, ?_, ?_, ?_, ?_, ?_, ?_, ?_, ?_, ?_, ?_, ?_, ?_, ?_, ?_, ?_, trivial⟩
              all_goals
                intro ρ y9 hp ρc ρg ρf ho hd
                have o6 : ρ (.tmp 6) = .bool true := ho 6 rfl
                clear ho
                replace d0 := cell_later hp d0
                replace d1 := cell_later hp d1
                replace d2 := cell_later hp d2
                replace c2 := cell_later hp c2
                simp only [depsR, depR, slotR, Fx, List.getElem?_cons_succ, List.getElem?_cons_zero, Region.binds, forall_const] at hd
                simp only [guardR]
                go_split_ands
              · go_simp
              · go_simp
              · refine ⟨fun hy => ?_, fun _ => rfl⟩
                exfalso; simp [yieldR, slotR, undef, *] at hy
              · refine ⟨fun hy => ?_, fun _ => rfl⟩
                exfalso; simp [yieldR, slotR, undef, *] at hy
              · refine ⟨fun hy => ?_, fun _ => rfl⟩
                exfalso; simp [yieldR, slotR, undef, *] at hy
              · refine ⟨fun hy => ?_, fun _ => rfl⟩
                exfalso; simp [yieldR, slotR, undef, *] at hy
              · refine ⟨fun hy => ?_, fun _ => rfl⟩
                exfalso; simp [yieldR, slotR, undef, *] at hy
              · refine ⟨fun hy => ?_, fun _ => rfl⟩
                exfalso; simp [yieldR, slotR, undef, *] at hy
              · refine ⟨fun hy => ?_, fun _ => rfl⟩
                exfalso; simp [yieldR, slotR, undef, *] at hy
              · refine ⟨fun hy => ?_, fun _ => rfl⟩
                exfalso; simp [yieldR, slotR, undef, *] at hy
              · refine ⟨fun hy => ?_, fun _ => rfl⟩
                exfalso; simp [yieldR, slotR, undef, *] at hy
              · refine ⟨fun hy => ?_, fun _ => rfl⟩
                exfalso; simp [yieldR, slotR, undef, *] at hy
              · refine ⟨fun hy => ?_, fun _ => rfl⟩
                exfalso; simp [yieldR, slotR, undef, *] at hy
              · refine ⟨fun hy => ?_, fun _ => rfl⟩
                exfalso; simp [yieldR, slotR, undef, *] at hy
              · refine ⟨fun hy => ?_, fun _ => rfl⟩
                exfalso; simp [yieldR, slotR, undef, *] at hy
              · refine ⟨fun hy => ?_, fun _ => rfl⟩
                exfalso; simp [yieldR, slotR, undef, *] at hy
              · refine ⟨fun hy => ?_, fun _ => rfl⟩
                exfalso; simp [yieldR, slotR, undef, *] at hy
              · refine ⟨fun hy => ?_, fun _ => rfl⟩
                exfalso; simp [yieldR, slotR, undef, *] at hy
              · refine ⟨fun hy => ?_, fun _ => rfl⟩
                exfalso; simp [yieldR, slotR, undef, *] at hy
              · refine ⟨fun hy => ?_, fun _ => rfl⟩
                exfalso; simp [yieldR, slotR, undef, *] at hy
              · refine ⟨fun hy => ?_, fun _ => rfl⟩
                exfalso; simp [yieldR, slotR, undef, *] at hy
              · refine ⟨fun hy => ?_, fun _ => rfl⟩
                exfalso; simp [yieldR, slotR, undef, *] at hy
              · refine ⟨fun hy => ?_, fun _ => rfl⟩
                exfalso; simp [yieldR, slotR, undef, *] at hy
              · refine ⟨fun hy => ?_, fun _ => rfl⟩
                exfalso; simp [yieldR, slotR, undef, *] at hy
              · refine ⟨fun hy => ?_, fun _ => rfl⟩
                exfalso; simp [yieldR, slotR, undef, *] at hy
              · refine ⟨fun hy => ?_, fun _ => rfl⟩
                exfalso; simp [yieldR, slotR, undef, *] at hy
              · refine ⟨fun hy => ?_, fun _ => rfl⟩
                exfalso; simp [yieldR, slotR, undef, *] at hy
              · refine ⟨fun hy => ?_, fun _ => rfl⟩
                exfalso; simp [yieldR, slotR, undef, *] at hy
              · refine ⟨fun hy => ?_, fun _ => rfl⟩
                exfalso; simp [yieldR, slotR, undef, *] at hy
              · go_simp
            · intro us x2 hp hw
              simp only [owed, Fx] at hw
              obtain ⟨e0, e1, e2, e3, e4, e5, e6, e7, e8, e9, e10, e11, e12, e13, e14, e15, e16, e17, e18, e19, e20, e21, e22, e23, e24, e25, e26, e27, e28, e29, -⟩ := hw
              simp only [List.length_cons, List.length_nil, List.take_succ_cons, List.take_zero, List.drop_succ_cons, List.drop_zero, asg, List.cons_append, List.nil_append, e0, e1, e2, e3, e4, e5, e6, e7, e8, e9, e10, e11, e12, e13, e14, e15, e16, e17, e18, e19, e20, e21, e22, e23, e24, e25, e26, e27, e28, e29]
              clear e0 e1 e2 e3 e4 e5 e6 e7 e8 e9 e10 e11 e12 e13 e14 e15 e16 e17 e18 e19 e20 e21 e22 e23 e24 e25 e26 e27 e28 e29
              have HB : Hid _ := hB.trans (hp.mono hB.size)
              have i0' : (i : Int) < (n : Int) := FK.out.2.2.2
              clear hp hB c2 d0 d1 d2
              go_wp2
              go_roundw
              case rel => first | exact ⟨k + 1, by have := HKI.out; omega, by go_num, by rw [HNX.out], HB.out⟩ | ((repeat apply Exists.intro); refine ⟨⟨k + 1, by have := HKI.out; omega, ?_, by rw [HNX.out], HB.out⟩, rfl⟩; go_num)
              case measure => have := HKI.out; simp [intOf]; omega
        · obtain rfl : i = k := by omega
          have k0 : ¬ (i : Int) < (i : Int) := by omega
          clear hki hk
          have hlk := HLY.out.kept hB
          obtain ⟨g9, o9, e9, -, c0, c1, c2, c3⟩ := rwE_cells hlk i r hr
          cases e9
          obtain ⟨ra, rb, -, -⟩ := HRK.out wr hB
          have hk9 := (hD.kept hB).k
          have hp9 := (hD.kept hB).p
          rw [ek] at hk9
          rw [ep] at hp9
          obtain ⟨gk, ok, f1, -, kc9⟩ := hk9.spot i (by rw [bF_len]; omega)
          obtain ⟨gp, op, f2, -, pc9⟩ := hp9.spot i (by rw [uF_len]; omega)
          subst f1
          subst f2
          have kc := kc9 i _ (bF_get _ n i hlt)
          have pc := pc9 i _ (uF_get _ n i hlt)
          have hkl := kp_low21 hs hr
          have FI : Hid ((0 : Int) ≤ (i : Int) ∧ (i : Int) < (n : Int)) := ⟨by omega, i0⟩
          have tb : (T : Int) ≤ 3198579280801 := by have := HT.out.2; omega
          have hpa := frO_pa hr
          have hrs := hs r (List.mem_of_getElem? hr)
          unfold Sn.ok at hrs
          obtain ⟨A9, hA9⟩ : ∃ q, r.sn.pa = q := ⟨_, rfl⟩
          obtain ⟨D, hD9⟩ : ∃ q, r.sn.id = q := ⟨_, rfl⟩
          obtain ⟨Pv, hPv⟩ : ∃ q : Int, ((frO l).par i : Int) = q := ⟨_, rfl⟩
          rw [hA9] at c3 hpa hrs
          rw [hD9] at c2 hkl
          rw [hPv] at pc
          obtain ⟨low, hlow⟩ : ∃ q, lowL l i i = q := ⟨_, rfl⟩
          rw [hlow] at hkl ⊢
          have hno : (frO l).kp i = false → Hid ((Fr.sel (gone (frO l)) (i + 1)).length = T) := fun h => by
            show _ = _
            rw [sel_no (by unfold gone; rw [h]; rfl)]
            exact HT.out.1
          clear hk9 hp9 kc9 pc9 hlk hr HLY hD9 hlow
          cases hth : r.th
          · rw [hth] at c0 hkl
            have HNT := hno hkl
            rw [hkl] at kc
            clear hno hkl hth hrs hpa hPv
            go_upto_region 15 with fail
            refine wp_relies [Fx (.pointer (some ⟨g3, 0, none⟩)), Fx (.slice (some ⟨gk, ok, none⟩) n ck), Fx (.int .i64 (i : Int)), Fx (.pointer (some ⟨gk, ok + i, none⟩)), Fx (.bool false), Fx (.slice (some ⟨g, o, none⟩) n c), Fx (.int .i64 (i : Int)), Fx (.pointer (some ⟨g, o + i * 36, none⟩)), Fx (.pointer (some ⟨g, o + i * 36, none⟩)), Fx (.bool false), Fx (.bool false), Fx (undef), Fx (undef), Fx (undef), Fx (undef), Fx (undef), Fx (.bool false), Fx (.bool false), Fx (undef), Fx (undef), Fx (undef), Fx (undef), Fx (undef), Fx (undef), Fx (undef), Fx (.bool false), Fx (.bool false), Fx (undef), Fx (undef), Fx (.bool false), Fx (.bool false)] (by kernel_rfl) (by kernel_rfl) ?_ ?_ ?_
            · repeat' (first | exact all_nil | apply all_cons)
              all_goals intro v y y' hv hb
              all_goals first | exact Fx_mono _ _ _ _ hv hb
            · refine ⟨?_, ?_, ?_, ?_, ?_, ?_, ?_, ?_, ?_, ?_, ?_, ?_, ?_, ?_, ?_, ?_, ?_, ?_, ?_, ?_, ?_, ?_, ?_, ?_, ?_, ?_, ?_, ?_, ?_, ?_, ?_, trivial⟩
              all_goals
                intro ρ y9 hp ρc ρg ρf ho hd
                have o0 : ρ (.tmp 0) = .slice (some ⟨g, o, none⟩) n c := ho 0 rfl
                have o3 : ρ (.tmp 3) = .pointer (some ⟨g3, 0, none⟩) := ho 3 rfl
                have o5 : ρ (.tmp 5) = .int .i64 (i : Int) := ho 5 rfl
                clear ho
                replace ra := cell_later hp ra
                replace rb := cell_later hp rb
                replace kc := cell_later hp kc
                replace pc := cell_later hp pc
                replace c0 := cell_later hp c0
                replace c1 := cell_later hp c1
                replace c2 := cell_later hp c2
                replace c3 := cell_later hp c3
                simp only [depsR, depR, slotR, Fx, List.getElem?_cons_succ, List.getElem?_cons_zero, Region.binds, forall_const] at hd
                simp only [guardR]
                go_split_ands
              · go_simp
              · go_simp
              · go_simp
              · obtain ⟨z1, z2⟩ := FI.out
                go_simp
              · go_simp
              · go_simp
              · go_simp
              · obtain ⟨z1, z2⟩ := FI.out
                go_simp
              · go_simp
              · go_simp
              · go_simp
              · refine ⟨fun hy => ?_, fun _ => rfl⟩
                exfalso; simp [yieldR, slotR, undef, *] at hy
              · refine ⟨fun hy => ?_, fun _ => rfl⟩
                exfalso; simp [yieldR, slotR, undef, *] at hy
              · refine ⟨fun hy => ?_, fun _ => rfl⟩
                exfalso; simp [yieldR, slotR, undef, *] at hy
              · refine ⟨fun hy => ?_, fun _ => rfl⟩
                exfalso; simp [yieldR, slotR, undef, *] at hy
              · refine ⟨fun hy => ?_, fun _ => rfl⟩
                exfalso; simp [yieldR, slotR, undef, *] at hy
              · go_simp
              · go_simp
              · refine ⟨fun hy => ?_, fun _ => rfl⟩
                exfalso; simp [yieldR, slotR, undef, *] at hy
              · refine ⟨fun hy => ?_, fun _ => rfl⟩
                exfalso; simp [yieldR, slotR, undef, *] at hy
              · refine ⟨fun hy => ?_, fun _ => rfl⟩
                exfalso; simp [yieldR, slotR, undef, *] at hy
              · refine ⟨fun hy => ?_, fun _ => rfl⟩
                exfalso; simp [yieldR, slotR, undef, *] at hy
              · refine ⟨fun hy => ?_, fun _ => rfl⟩
                exfalso; simp [yieldR, slotR, undef, *] at hy
              · refine ⟨fun hy => ?_, fun _ => rfl⟩
                exfalso; simp [yieldR, slotR, undef, *] at hy
              · refine ⟨fun hy => ?_, fun _ => rfl⟩
                exfalso; simp [yieldR, slotR, undef, *] at hy
              · go_simp
              · go_simp
              · refine ⟨fun hy => ?_, fun _ => rfl⟩
                exfalso; simp [yieldR, slotR, undef, *] at hy
              · refine ⟨fun hy => ?_, fun _ => rfl⟩
                exfalso; simp [yieldR, slotR, undef, *] at hy
              · go_simp
              · go_simp
            · intro us x2 hp2 hw
              simp only [owed, Fx] at hw
              obtain ⟨e0, e1, e2, e3, e4, e5, e6, e7, e8, e9, e10, e11, e12, e13, e14, e15, e16, e17, e18, e19, e20, e21, e22, e23, e24, e25, e26, e27, e28, e29, e30, -⟩ := hw
              simp only [List.length_cons, List.length_nil, List.take_succ_cons, List.take_nil, List.drop_succ_cons, List.drop_nil, asg, List.cons_append, List.nil_append, e0, e1, e2, e3, e4, e5, e6, e7, e8, e9, e10, e11, e12, e13, e14, e15, e16, e17, e18, e19, e20, e21, e22, e23, e24, e25, e26, e27, e28, e29, e30]
              clear e0 e1 e2 e3 e4 e5 e6 e7 e8 e9 e10 e11 e12 e13 e14 e15 e16 e17 e18 e19 e20 e21 e22 e23 e24 e25 e26 e27 e28 e29 e30
              have hB2 := hB.trans (hp2.mono hB.size)
              replace ra := cell_later hp2 ra
              replace rb := cell_later hp2 rb
              replace kc := cell_later hp2 kc
              replace pc := cell_later hp2 pc
              replace c0 := cell_later hp2 c0
              replace c1 := cell_later hp2 c1
              replace c2 := cell_later hp2 c2
              replace c3 := cell_later hp2 c3
              clear hp2 hB
              go_upto_region 17 with fail
              refine wp_relies [Fx (.pointer (some ⟨g3, 0, none⟩)), Fx (.slice (some ⟨gk, ok, none⟩) n ck), Fx (.int .i64 (i : Int)), Fx (.pointer (some ⟨gk, ok + i, none⟩)), Fx (.bool false), Fx (.bool false), Fx (undef), Fx (undef), Fx (undef), Fx (undef), Fx (undef), Fx (undef), Fx (undef), Fx (undef), Fx (undef), Fx (undef), Fx (undef), Fx (undef), Fx (.bool false)] (by kernel_rfl) (by kernel_rfl) ?_ ?_ ?_
              · repeat' (first | exact all_nil | apply all_cons)
                all_goals intro v y y' hv hb
                all_goals first | exact Fx_mono _ _ _ _ hv hb
              · refine ⟨?_, ?_, ?_, ?_, ?_, ?_, ?_, ?_, ?_, ?_, ?_, ?_, ?_, ?_, ?_, ?_, ?_, ?_, ?_, trivial⟩
                all_goals
                  intro ρ y9 hp ρc ρg ρf ho hd
                  have o3 : ρ (.tmp 3) = .pointer (some ⟨g3, 0, none⟩) := ho 3 rfl
                  have o5 : ρ (.tmp 5) = .int .i64 (i : Int) := ho 5 rfl
                  clear ho
                  replace ra := cell_later hp ra
                  replace rb := cell_later hp rb
                  replace kc := cell_later hp kc
                  replace pc := cell_later hp pc
                  replace c0 := cell_later hp c0
                  replace c1 := cell_later hp c1
                  replace c2 := cell_later hp c2
                  replace c3 := cell_later hp c3
                  simp only [depsR, depR, slotR, Fx, List.getElem?_cons_succ, List.getElem?_cons_zero, Region.binds, forall_const] at hd
                  simp only [guardR]
                  go_split_ands
                · go_simp
                · go_simp
                · go_simp
                · obtain ⟨z1, z2⟩ := FI.out
                  go_simp
                · go_simp
                · go_simp
                · refine ⟨fun hy => ?_, fun _ => rfl⟩
                  exfalso; simp [yieldR, slotR, undef, *] at hy
                · refine ⟨fun hy => ?_, fun _ => rfl⟩
                  exfalso; simp [yieldR, slotR, undef, *] at hy
                · refine ⟨fun hy => ?_, fun _ => rfl⟩
                  exfalso; simp [yieldR, slotR, undef, *] at hy
                · refine ⟨fun hy => ?_, fun _ => rfl⟩
                  exfalso; simp [yieldR, slotR, undef, *] at hy
                · refine ⟨fun hy => ?_, fun _ => rfl⟩
                  exfalso; simp [yieldR, slotR, undef, *] at hy
                · refine ⟨fun hy => ?_, fun _ => rfl⟩
                  exfalso; simp [yieldR, slotR, undef, *] at hy
                · refine ⟨fun hy => ?_, fun _ => rfl⟩
                  exfalso; simp [yieldR, slotR, undef, *] at hy
                · refine ⟨fun hy => ?_, fun _ => rfl⟩
                  exfalso; simp [yieldR, slotR, undef, *] at hy
                · refine ⟨fun hy => ?_, fun _ => rfl⟩
                  exfalso; simp [yieldR, slotR, undef, *] at hy
                · refine ⟨fun hy => ?_, fun _ => rfl⟩
                  exfalso; simp [yieldR, slotR, undef, *] at hy
                · refine ⟨fun hy => ?_, fun _ => rfl⟩
                  exfalso; simp [yieldR, slotR, undef, *] at hy
                · refine ⟨fun hy => ?_, fun _ => rfl⟩
                  exfalso; simp [yieldR, slotR, undef, *] at hy
                · go_simp
              · intro us x3 hp3 hw
                simp only [owed, Fx] at hw
                obtain ⟨e0, e1, e2, e3, e4, e5, e6, e7, e8, e9, e10, e11, e12, e13, e14, e15, e16, e17, e18, -⟩ := hw
                simp only [List.length_cons, List.length_nil, List.take_succ_cons, List.take_nil, List.drop_succ_cons, List.drop_nil, asg, List.cons_append, List.nil_append, e0, e1, e2, e3, e4, e5, e6, e7, e8, e9, e10, e11, e12, e13, e14, e15, e16, e17, e18]
                clear e0 e1 e2 e3 e4 e5 e6 e7 e8 e9 e10 e11 e12 e13 e14 e15 e16 e17 e18
                have HB : Hid _ := hB2.trans (hp3.mono hB2.size)
                clear hp3 hB2 ra rb kc pc c0 c1 c2 c3
                go_wp2
                go_roundw
                case rel => first | exact ⟨i + 1, by have := HI.out; omega, by go_num, by rw [HNT.out]; rfl, HB.out⟩ | exact ⟨i + 1, by have := HI.out; omega, by go_num, by rw [HNT.out], HB.out⟩ | ((repeat apply Exists.intro); refine ⟨⟨i + 1, by have := HI.out; omega, ?_, by rw [HNT.out], HB.out⟩, rfl⟩; go_num) | ((repeat apply Exists.intro); refine ⟨⟨i + 1, by have := HI.out; omega, ?_, by rw [HNT.out]; rfl, HB.out⟩, rfl⟩; go_num)
                case measure => have := HI.out; simp [intOf]; omega
          · rw [hth] at c0 hkl
            cases hla : r.la
            · rw [hla] at c1 hkl
              have HNT := hno hkl
              rw [hkl] at kc
              clear hno hkl hth hla hrs hpa hPv
              go_upto_region 15 with fail
              refine wp_relies [Fx (.pointer (some ⟨g3, 0, none⟩)), Fx (.slice (some ⟨gk, ok, none⟩) n ck), Fx (.int .i64 (i : Int)), Fx (.pointer (some ⟨gk, ok + i, none⟩)), Fx (.bool false), Fx (.slice (some ⟨g, o, none⟩) n c), Fx (.int .i64 (i : Int)), Fx (.pointer (some ⟨g, o + i * 36, none⟩)), Fx (.pointer (some ⟨g, o + i * 36, none⟩)), Fx (.bool true), Fx (.bool true), Fx (.slice (some ⟨g, o, none⟩) n c), Fx (.int .i64 (i : Int)), Fx (.pointer (some ⟨g, o + i * 36, none⟩)), Fx (.pointer (some ⟨g, o + i * 36 + 1, none⟩)), Fx (.bool false), Fx (.bool false), Fx (.bool false), Fx (undef), Fx (undef), Fx (undef), Fx (undef), Fx (undef), Fx (undef), Fx (undef), Fx (.bool false), Fx (.bool false), Fx (undef), Fx (undef), Fx (.bool false), Fx (.bool false)] (by kernel_rfl) (by kernel_rfl) ?_ ?_ ?_
              · repeat' (first | exact all_nil | apply all_cons)
                all_goals intro v y y' hv hb
                all_goals first | exact Fx_mono _ _ _ _ hv hb
              · refine ⟨?_, ?_, ?_, ?_, ?_, ?_, ?_, ?_, ?_, ?_, ?_, ?_, ?_, ?_, ?_, ?_, ?_, ?_, ?_, ?_, ?_, ?_, ?_, ?_, ?_, ?_, ?_, ?_, ?_, ?_, ?_, trivial⟩
                all_goals
                  intro ρ y9 hp ρc ρg ρf ho hd
                  have o0 : ρ (.tmp 0) = .slice (some ⟨g, o, none⟩) n c := ho 0 rfl
                  have o3 : ρ (.tmp 3) = .pointer (some ⟨g3, 0, none⟩) := ho 3 rfl
                  have o5 : ρ (.tmp 5) = .int .i64 (i : Int) := ho 5 rfl
                  clear ho
                  replace ra := cell_later hp ra
                  replace rb := cell_later hp rb
                  replace kc := cell_later hp kc
                  replace pc := cell_later hp pc
                  replace c0 := cell_later hp c0
                  replace c1 := cell_later hp c1
                  replace c2 := cell_later hp c2
                  replace c3 := cell_later hp c3
                  simp only [depsR, depR, slotR, Fx, List.getElem?_cons_succ, List.getElem?_cons_zero, Region.binds, forall_const] at hd
                  simp only [guardR]
                  go_split_ands
                · go_simp
                · go_simp
                · go_simp
                · obtain ⟨z1, z2⟩ := FI.out
                  go_simp
                · go_simp
                · go_simp
                · go_simp
                · obtain ⟨z1, z2⟩ := FI.out
                  go_simp
                · go_simp
                · go_simp
                · go_simp
                · refine ⟨fun _ => ?_, fun hy => absurd (by simp [yieldR, slotR, *]) hy⟩
                  go_simp
                · refine ⟨fun _ => ?_, fun hy => absurd (by simp [yieldR, slotR, *]) hy⟩
                  go_simp
                · refine ⟨fun _ => ?_, fun hy => absurd (by simp [yieldR, slotR, *]) hy⟩
                  obtain ⟨z1, z2⟩ := FI.out
                  go_simp
                · refine ⟨fun _ => ?_, fun hy => absurd (by simp [yieldR, slotR, *]) hy⟩
                  go_simp
                · refine ⟨fun _ => ?_, fun hy => absurd (by simp [yieldR, slotR, *]) hy⟩
                  go_simp
                · go_simp
                · go_simp
                · refine ⟨fun hy => ?_, fun _ => rfl⟩
                  exfalso; simp [yieldR, slotR, undef, *] at hy
                · refine ⟨fun hy => ?_, fun _ => rfl⟩
                  exfalso; simp [yieldR, slotR, undef, *] at hy
                · refine ⟨fun hy => ?_, fun _ => rfl⟩
                  exfalso; simp [yieldR, slotR, undef, *] at hy
                · refine ⟨fun hy => ?_, fun _ => rfl⟩
                  exfalso; simp [yieldR, slotR, undef, *] at hy
                · refine ⟨fun hy => ?_, fun _ => rfl⟩
                  exfalso; simp [yieldR, slotR, undef, *] at hy
                · refine ⟨fun hy => ?_, fun _ => rfl⟩
                  exfalso; simp [yieldR, slotR, undef, *] at hy
                · refine ⟨fun hy => ?_, fun _ => rfl⟩
                  exfalso; simp [yieldR, slotR, undef, *] at hy
                · go_simp
                · go_simp
                · refine ⟨fun hy => ?_, fun _ => rfl⟩
                  exfalso; simp [yieldR, slotR, undef, *] at hy
                · refine ⟨fun hy => ?_, fun _ => rfl⟩
                  exfalso; simp [yieldR, slotR, undef, *] at hy
                · go_simp
                · go_simp
              · intro us x2 hp2 hw
                simp only [owed, Fx] at hw
                obtain ⟨e0, e1, e2, e3, e4, e5, e6, e7, e8, e9, e10, e11, e12, e13, e14, e15, e16, e17, e18, e19, e20, e21, e22, e23, e24, e25, e26, e27, e28, e29, e30, -⟩ := hw
                simp only [List.length_cons, List.length_nil, List.take_succ_cons, List.take_nil, List.drop_succ_cons, List.drop_nil, asg, List.cons_append, List.nil_append, e0, e1, e2, e3, e4, e5, e6, e7, e8, e9, e10, e11, e12, e13, e14, e15, e16, e17, e18, e19, e20, e21, e22, e23, e24, e25, e26, e27, e28, e29, e30]
                clear e0 e1 e2 e3 e4 e5 e6 e7 e8 e9 e10 e11 e12 e13 e14 e15 e16 e17 e18 e19 e20 e21 e22 e23 e24 e25 e26 e27 e28 e29 e30
                have hB2 := hB.trans (hp2.mono hB.size)
                replace ra := cell_later hp2 ra
                replace rb := cell_later hp2 rb
                replace kc := cell_later hp2 kc
                replace pc := cell_later hp2 pc
                replace c0 := cell_later hp2 c0
                replace c1 := cell_later hp2 c1
                replace c2 := cell_later hp2 c2
                replace c3 := cell_later hp2 c3
                clear hp2 hB
                go_upto_region 17 with fail
                refine wp_relies [Fx (.pointer (some ⟨g3, 0, none⟩)), Fx (.slice (some ⟨gk, ok, none⟩) n ck), Fx (.int .i64 (i : Int)), Fx (.pointer (some ⟨gk, ok + i, none⟩)), Fx (.bool false), Fx (.bool false), Fx (undef), Fx (undef), Fx (undef), Fx (undef), Fx (undef), Fx (undef), Fx (undef), Fx (undef), Fx (undef), Fx (undef), Fx (undef), Fx (undef), Fx (.bool false)] (by kernel_rfl) (by kernel_rfl) ?_ ?_ ?_
                · repeat' (first | exact all_nil | apply all_cons)
                  all_goals intro v y y' hv hb
                  all_goals first | exact Fx_mono _ _ _ _ hv hb
                · refine ⟨?_, ?_, ?_, ?_, ?_, ?_, ?_, ?_, ?_, ?_, ?_, ?_, ?_, ?_, ?_, ?_, ?_, ?_, ?_, trivial⟩
                  all_goals
                    intro ρ y9 hp ρc ρg ρf ho hd
                    have o3 : ρ (.tmp 3) = .pointer (some ⟨g3, 0, none⟩) := ho 3 rfl
                    have o5 : ρ (.tmp 5) = .int .i64 (i : Int) := ho 5 rfl
                    clear ho
                    replace ra := cell_later hp ra
                    replace rb := cell_later hp rb
                    replace kc := cell_later hp kc
                    replace pc := cell_later hp pc
                    replace c0 := cell_later hp c0
                    replace c1 := cell_later hp c1
                    replace c2 := cell_later hp c2
                    replace c3 := cell_later hp c3
                    simp only [depsR, depR, slotR, Fx, List.getElem?_cons_succ, List.getElem?_cons_zero, Region.binds, forall_const] at hd
                    simp only [guardR]
                    go_split_ands
                  · go_simp
                  · go_simp
                  · go_simp
                  · obtain ⟨z1, z2⟩ := FI.out
                    go_simp
                  · go_simp
                  · go_simp
                  · refine ⟨fun hy => ?_, fun _ => rfl⟩
                    exfalso; simp [yieldR, slotR, undef, *] at hy
                  · refine ⟨fun hy => ?_, fun _ => rfl⟩
                    exfalso; simp [yieldR, slotR, undef, *] at hy
                  · refine ⟨fun hy => ?_, fun _ => rfl⟩
                    exfalso; simp [yieldR, slotR, undef, *] at hy
                  · refine ⟨fun hy => ?_, fun _ => rfl⟩
                    exfalso; simp [yieldR, slotR, undef, *] at hy
                  · refine ⟨fun hy => ?_, fun _ => rfl⟩
                    exfalso; simp [yieldR, slotR, undef, *] at hy
                  · refine ⟨fun hy => ?_, fun _ => rfl⟩
                    exfalso; simp [yieldR, slotR, undef, *] at hy
                  · refine ⟨fun hy => ?_, fun _ => rfl⟩
                    exfalso; simp [yieldR, slotR, undef, *] at hy
                  · refine ⟨fun hy => ?_, fun _ => rfl⟩
                    exfalso; simp [yieldR, slotR, undef, *] at hy
                  · refine ⟨fun hy => ?_, fun _ => rfl⟩
                    exfalso; simp [yieldR, slotR, undef, *] at hy
                  · refine ⟨fun hy => ?_, fun _ => rfl⟩
                    exfalso; simp [yieldR, slotR, undef, *] at hy
                  · refine ⟨fun hy => ?_, fun _ => rfl⟩
                    exfalso; simp [yieldR, slotR, undef, *] at hy
                  · refine ⟨fun hy => ?_, fun _ => rfl⟩
                    exfalso; simp [yieldR, slotR, undef, *] at hy
                  · go_simp
                · intro us x3 hp3 hw
                  simp only [owed, Fx] at hw
                  obtain ⟨e0, e1, e2, e3, e4, e5, e6, e7, e8, e9, e10, e11, e12, e13, e14, e15, e16, e17, e18, -⟩ := hw
                  simp only [List.length_cons, List.length_nil, List.take_succ_cons, List.take_nil, List.drop_succ_cons, List.drop_nil, asg, List.cons_append, List.nil_append, e0, e1, e2, e3, e4, e5, e6, e7, e8, e9, e10, e11, e12, e13, e14, e15, e16, e17, e18]
                  clear e0 e1 e2 e3 e4 e5 e6 e7 e8 e9 e10 e11 e12 e13 e14 e15 e16 e17 e18
                  have HB : Hid _ := hB2.trans (hp3.mono hB2.size)
                  clear hp3 hB2 ra rb kc pc c0 c1 c2 c3
                  go_wp2
                  go_roundw
                  case rel => first | exact ⟨i + 1, by have := HI.out; omega, by go_num, by rw [HNT.out]; rfl, HB.out⟩ | exact ⟨i + 1, by have := HI.out; omega, by go_num, by rw [HNT.out], HB.out⟩ | ((repeat apply Exists.intro); refine ⟨⟨i + 1, by have := HI.out; omega, ?_, by rw [HNT.out], HB.out⟩, rfl⟩; go_num) | ((repeat apply Exists.intro); refine ⟨⟨i + 1, by have := HI.out; omega, ?_, by rw [HNT.out]; rfl, HB.out⟩, rfl⟩; go_num)
                  case measure => have := HI.out; simp [intOf]; omega
            · rw [hla] at c1 hkl
              by_cases hz : D = 0
              · have HZ : Hid ((D != 0) = false) := by show _ = _; rw [hz]; rfl
                have hk0 : (frO l).kp i = false := by rw [hkl, hz]; rfl
                have HNT := hno hk0
                rw [hk0] at kc
                clear hno hkl hth hla hrs hpa hPv hk0 hz
                go_upto_region 15 with fail
                refine wp_relies [Fx (.pointer (some ⟨g3, 0, none⟩)), Fx (.slice (some ⟨gk, ok, none⟩) n ck), Fx (.int .i64 (i : Int)), Fx (.pointer (some ⟨gk, ok + i, none⟩)), Fx (.bool false), Fx (.slice (some ⟨g, o, none⟩) n c), Fx (.int .i64 (i : Int)), Fx (.pointer (some ⟨g, o + i * 36, none⟩)), Fx (.pointer (some ⟨g, o + i * 36, none⟩)), Fx (.bool true), Fx (.bool true), Fx (.slice (some ⟨g, o, none⟩) n c), Fx (.int .i64 (i : Int)), Fx (.pointer (some ⟨g, o + i * 36, none⟩)), Fx (.pointer (some ⟨g, o + i * 36 + 1, none⟩)), Fx (.bool true), Fx (.bool true), Fx (.bool true), Fx (.slice (some ⟨g, o, none⟩) n c), Fx (.int .i64 (i : Int)), Fx (.pointer (some ⟨g, o + i * 36, none⟩)), Fx (.pointer (some ⟨g, o + i * 36 + 2, none⟩)), Fx (.pointer (some ⟨g, o + i * 36 + 2, none⟩)), Fx (.int .u32 D), Fx (.bool false), Fx (.bool false), Fx (.bool false), Fx (undef), Fx (undef), Fx (.bool false), Fx (.bool false)] (by kernel_rfl) (by kernel_rfl) ?_ ?_ ?_
                · repeat' (first | exact all_nil | apply all_cons)
                  all_goals intro v y y' hv hb
                  all_goals first | exact Fx_mono _ _ _ _ hv hb
                · refine ⟨?_, ?_, ?_, ?_, ?_, ?_, ?_, ?_, ?_, ?_, ?_, ?_, ?_, ?_, ?_, ?_, ?_, ?_, ?_, ?_, ?_, ?_, ?_, ?_, ?_, ?_, ?_, ?_, ?_, ?_, ?_, trivial⟩
                  all_goals
                    intro ρ y9 hp ρc ρg ρf ho hd
                    have o0 : ρ (.tmp 0) = .slice (some ⟨g, o, none⟩) n c := ho 0 rfl
                    have o3 : ρ (.tmp 3) = .pointer (some ⟨g3, 0, none⟩) := ho 3 rfl
                    have o5 : ρ (.tmp 5) = .int .i64 (i : Int) := ho 5 rfl
                    clear ho
                    replace ra := cell_later hp ra
                    replace rb := cell_later hp rb
                    replace kc := cell_later hp kc
                    replace pc := cell_later hp pc
                    replace c0 := cell_later hp c0
                    replace c1 := cell_later hp c1
                    replace c2 := cell_later hp c2
                    replace c3 := cell_later hp c3
                    simp only [depsR, depR, slotR, Fx, List.getElem?_cons_succ, List.getElem?_cons_zero, Region.binds, forall_const] at hd
                    simp only [guardR]
                    go_split_ands
                  · go_simp
                  · go_simp
                  · go_simp
                  · obtain ⟨z1, z2⟩ := FI.out
                    go_simp
                  · go_simp
                  · go_simp
                  · go_simp
                  · obtain ⟨z1, z2⟩ := FI.out
                    go_simp
                  · go_simp
                  · go_simp
                  · go_simp
                  · refine ⟨fun _ => ?_, fun hy => absurd (by simp [yieldR, slotR, *]) hy⟩
                    go_simp
                  · refine ⟨fun _ => ?_, fun hy => absurd (by simp [yieldR, slotR, *]) hy⟩
                    go_simp
                  · refine ⟨fun _ => ?_, fun hy => absurd (by simp [yieldR, slotR, *]) hy⟩
                    obtain ⟨z1, z2⟩ := FI.out
                    go_simp
                  · refine ⟨fun _ => ?_, fun hy => absurd (by simp [yieldR, slotR, *]) hy⟩
                    go_simp
                  · refine ⟨fun _ => ?_, fun hy => absurd (by simp [yieldR, slotR, *]) hy⟩
                    go_simp
                  · go_simp
                  · go_simp
                  · refine ⟨fun _ => ?_, fun hy => absurd (by simp [yieldR, slotR, *]) hy⟩
                    go_simp
                  · refine ⟨fun _ => ?_, fun hy => absurd (by simp [yieldR, slotR, *]) hy⟩
                    go_simp
                  · refine ⟨fun _ => ?_, fun hy => absurd (by simp [yieldR, slotR, *]) hy⟩
                    obtain ⟨z1, z2⟩ := FI.out
                    go_simp
                  · refine ⟨fun _ => ?_, fun hy => absurd (by simp [yieldR, slotR, *]) hy⟩
                    go_simp
                  · refine ⟨fun _ => ?_, fun hy => absurd (by simp [yieldR, slotR, *]) hy⟩
                    go_simp
                  · refine ⟨fun _ => ?_, fun hy => absurd (by simp [yieldR, slotR, *]) hy⟩
                    go_simp
                  · refine ⟨fun _ => ?_, fun hy => absurd (by simp [yieldR, slotR, *]) hy⟩
                    have z := HZ.out
                    go_simp
                  · go_simp
                  · go_simp
                  · refine ⟨fun hy => ?_, fun _ => rfl⟩
                    exfalso; simp [yieldR, slotR, undef, *] at hy
                  · refine ⟨fun hy => ?_, fun _ => rfl⟩
                    exfalso; simp [yieldR, slotR, undef, *] at hy
                  · go_simp
                  · go_simp
                · intro us x2 hp2 hw
                  simp only [owed, Fx] at hw
                  obtain ⟨e0, e1, e2, e3, e4, e5, e6, e7, e8, e9, e10, e11, e12, e13, e14, e15, e16, e17, e18, e19, e20, e21, e22, e23, e24, e25, e26, e27, e28, e29, e30, -⟩ := hw
                  simp only [List.length_cons, List.length_nil, List.take_succ_cons, List.take_nil, List.drop_succ_cons, List.drop_nil, asg, List.cons_append, List.nil_append, e0, e1, e2, e3, e4, e5, e6, e7, e8, e9, e10, e11, e12, e13, e14, e15, e16, e17, e18, e19, e20, e21, e22, e23, e24, e25, e26, e27, e28, e29, e30]
                  clear e0 e1 e2 e3 e4 e5 e6 e7 e8 e9 e10 e11 e12 e13 e14 e15 e16 e17 e18 e19 e20 e21 e22 e23 e24 e25 e26 e27 e28 e29 e30
                  have hB2 := hB.trans (hp2.mono hB.size)
                  replace ra := cell_later hp2 ra
                  replace rb := cell_later hp2 rb
                  replace kc := cell_later hp2 kc
                  replace pc := cell_later hp2 pc
                  replace c0 := cell_later hp2 c0
                  replace c1 := cell_later hp2 c1
                  replace c2 := cell_later hp2 c2
                  replace c3 := cell_later hp2 c3
                  clear hp2 hB
                  go_upto_region 17 with fail
                  refine wp_relies [Fx (.pointer (some ⟨g3, 0, none⟩)), Fx (.slice (some ⟨gk, ok, none⟩) n ck), Fx (.int .i64 (i : Int)), Fx (.pointer (some ⟨gk, ok + i, none⟩)), Fx (.bool false), Fx (.bool false), Fx (undef), Fx (undef), Fx (undef), Fx (undef), Fx (undef), Fx (undef), Fx (undef), Fx (undef), Fx (undef), Fx (undef), Fx (undef), Fx (undef), Fx (.bool false)] (by kernel_rfl) (by kernel_rfl) ?_ ?_ ?_
                  · repeat' (first | exact all_nil | apply all_cons)
                    all_goals intro v y y' hv hb
                    all_goals first | exact Fx_mono _ _ _ _ hv hb
                  · refine ⟨?_, ?_, ?_, ?_, ?_, ?_, ?_, ?_, ?_, ?_, ?_, ?_, ?_, ?_, ?_, ?_, ?_, ?_, ?_, trivial⟩
                    all_goals
                      intro ρ y9 hp ρc ρg ρf ho hd
                      have o3 : ρ (.tmp 3) = .pointer (some ⟨g3, 0, none⟩) := ho 3 rfl
                      have o5 : ρ (.tmp 5) = .int .i64 (i : Int) := ho 5 rfl
                      clear ho
                      replace ra := cell_later hp ra
                      replace rb := cell_later hp rb
                      replace kc := cell_later hp kc
                      replace pc := cell_later hp pc
                      replace c0 := cell_later hp c0
                      replace c1 := cell_later hp c1
                      replace c2 := cell_later hp c2
                      replace c3 := cell_later hp c3
                      simp only [depsR, depR, slotR, Fx, List.getElem?_cons_succ, List.getElem?_cons_zero, Region.binds, forall_const] at hd
                      simp only [guardR]
                      go_split_ands
                    · go_simp
                    · go_simp
                    · go_simp
                    · obtain ⟨z1, z2⟩ := FI.out
                      go_simp
                    · go_simp
                    · go_simp
                    · refine ⟨fun hy => ?_, fun _ => rfl⟩
                      exfalso; simp [yieldR, slotR, undef, *] at hy
                    · refine ⟨fun hy => ?_, fun _ => rfl⟩
                      exfalso; simp [yieldR, slotR, undef, *] at hy
                    · refine ⟨fun hy => ?_, fun _ => rfl⟩
                      exfalso; simp [yieldR, slotR, undef, *] at hy
                    · refine ⟨fun hy => ?_, fun _ => rfl⟩
                      exfalso; simp [yieldR, slotR, undef, *] at hy
                    · refine ⟨fun hy => ?_, fun _ => rfl⟩
                      exfalso; simp [yieldR, slotR, undef, *] at hy
                    · refine ⟨fun hy => ?_, fun _ => rfl⟩
                      exfalso; simp [yieldR, slotR, undef, *] at hy
                    · refine ⟨fun hy => ?_, fun _ => rfl⟩
                      exfalso; simp [yieldR, slotR, undef, *] at hy
                    · refine ⟨fun hy => ?_, fun _ => rfl⟩
                      exfalso; simp [yieldR, slotR, undef, *] at hy
                    · refine ⟨fun hy => ?_, fun _ => rfl⟩
                      exfalso; simp [yieldR, slotR, undef, *] at hy
                    · refine ⟨fun hy => ?_, fun _ => rfl⟩
                      exfalso; simp [yieldR, slotR, undef, *] at hy
                    · refine ⟨fun hy => ?_, fun _ => rfl⟩
                      exfalso; simp [yieldR, slotR, undef, *] at hy
                    · refine ⟨fun hy => ?_, fun _ => rfl⟩
                      exfalso; simp [yieldR, slotR, undef, *] at hy
                    · go_simp
                  · intro us x3 hp3 hw
                    simp only [owed, Fx] at hw
                    obtain ⟨e0, e1, e2, e3, e4, e5, e6, e7, e8, e9, e10, e11, e12, e13, e14, e15, e16, e17, e18, -⟩ := hw
                    simp only [List.length_cons, List.length_nil, List.take_succ_cons, List.take_nil, List.drop_succ_cons, List.drop_nil, asg, List.cons_append, List.nil_append, e0, e1, e2, e3, e4, e5, e6, e7, e8, e9, e10, e11, e12, e13, e14, e15, e16, e17, e18]
                    clear e0 e1 e2 e3 e4 e5 e6 e7 e8 e9 e10 e11 e12 e13 e14 e15 e16 e17 e18
                    have HB : Hid _ := hB2.trans (hp3.mono hB2.size)
                    clear hp3 hB2 ra rb kc pc c0 c1 c2 c3
                    go_wp2
                    go_roundw
                    case rel => first | exact ⟨i + 1, by have := HI.out; omega, by go_num, by rw [HNT.out]; rfl, HB.out⟩ | exact ⟨i + 1, by have := HI.out; omega, by go_num, by rw [HNT.out], HB.out⟩ | ((repeat apply Exists.intro); refine ⟨⟨i + 1, by have := HI.out; omega, ?_, by rw [HNT.out], HB.out⟩, rfl⟩; go_num) | ((repeat apply Exists.intro); refine ⟨⟨i + 1, by have := HI.out; omega, ?_, by rw [HNT.out]; rfl, HB.out⟩, rfl⟩; go_num)
                    case measure => have := HI.out; simp [intOf]; omega
              · have HZ : Hid ((D != 0) = true) := by show _ = _; exact bne_iff_ne.2 hz
                have hz9 : (D == 0) = false := beq_eq_false_iff_ne.2 hz
                cases low
                · have hk1 : (frO l).kp i = true := by rw [hkl, hz9]; rfl
                  rw [hk1] at kc
                  clear hno hkl hth hla hz hz9
                  go_upto_region 15 with fail
                  refine wp_relies [Fx (.pointer (some ⟨g3, 0, none⟩)), Fx (.slice (some ⟨gk, ok, none⟩) n ck), Fx (.int .i64 (i : Int)), Fx (.pointer (some ⟨gk, ok + i, none⟩)), Fx (.bool true), Fx (.slice (some ⟨g, o, none⟩) n c), Fx (.int .i64 (i : Int)), Fx (.pointer (some ⟨g, o + i * 36, none⟩)), Fx (.pointer (some ⟨g, o + i * 36, none⟩)), Fx (.bool true), Fx (.bool true), Fx (.slice (some ⟨g, o, none⟩) n c), Fx (.int .i64 (i : Int)), Fx (.pointer (some ⟨g, o + i * 36, none⟩)), Fx (.pointer (some ⟨g, o + i * 36 + 1, none⟩)), Fx (.bool true), Fx (.bool true), Fx (.bool true), Fx (.slice (some ⟨g, o, none⟩) n c), Fx (.int .i64 (i : Int)), Fx (.pointer (some ⟨g, o + i * 36, none⟩)), Fx (.pointer (some ⟨g, o + i * 36 + 2, none⟩)), Fx (.pointer (some ⟨g, o + i * 36 + 2, none⟩)), Fx (.int .u32 D), Fx (.bool true), Fx (.bool true), Fx (.bool true), Fx (.bool false), Fx (.bool true), Fx (.bool true), Fx (.bool false)] (by kernel_rfl) (by kernel_rfl) ?_ ?_ ?_
                  · repeat' (first | exact all_nil | apply all_cons)
                    all_goals intro v y y' hv hb
                    all_goals first | exact Fx_mono _ _ _ _ hv hb
                  · refine ⟨?_, ?_, ?_, ?_, ?_, ?_, ?_, ?_, ?_, ?_, ?_, ?_, ?_, ?_, ?_, ?_, ?_, ?_, ?_, ?_, ?_, ?_, ?_, ?_, ?_, ?_, ?_, ?_, ?_, ?_, ?_, trivial⟩
                    all_goals
                      intro ρ y9 hp ρc ρg ρf ho hd
                      have o0 : ρ (.tmp 0) = .slice (some ⟨g, o, none⟩) n c := ho 0 rfl
                      have o3 : ρ (.tmp 3) = .pointer (some ⟨g3, 0, none⟩) := ho 3 rfl
                      have o5 : ρ (.tmp 5) = .int .i64 (i : Int) := ho 5 rfl
                      have o6 : ρ (.tmp 6) = .bool false := ho 6 rfl
                      clear ho
                      replace ra := cell_later hp ra
                      replace rb := cell_later hp rb
                      replace kc := cell_later hp kc
                      replace pc := cell_later hp pc
                      replace c0 := cell_later hp c0
                      replace c1 := cell_later hp c1
                      replace c2 := cell_later hp c2
                      replace c3 := cell_later hp c3
                      simp only [depsR, depR, slotR, Fx, List.getElem?_cons_succ, List.getElem?_cons_zero, Region.binds, forall_const] at hd
                      simp only [guardR]
                      go_split_ands
                    · go_simp
                    · go_simp
                    · go_simp
                    · obtain ⟨z1, z2⟩ := FI.out
                      go_simp
                    · go_simp
                    · go_simp
                    · go_simp
                    · obtain ⟨z1, z2⟩ := FI.out
                      go_simp
                    · go_simp
                    · go_simp
                    · go_simp
                    · refine ⟨fun _ => ?_, fun hy => absurd (by simp [yieldR, slotR, *]) hy⟩
                      go_simp
                    · refine ⟨fun _ => ?_, fun hy => absurd (by simp [yieldR, slotR, *]) hy⟩
                      go_simp
                    · refine ⟨fun _ => ?_, fun hy => absurd (by simp [yieldR, slotR, *]) hy⟩
                      obtain ⟨z1, z2⟩ := FI.out
                      go_simp
                    · refine ⟨fun _ => ?_, fun hy => absurd (by simp [yieldR, slotR, *]) hy⟩
                      go_simp
                    · refine ⟨fun _ => ?_, fun hy => absurd (by simp [yieldR, slotR, *]) hy⟩
                      go_simp
                    · go_simp
                    · go_simp
                    · refine ⟨fun _ => ?_, fun hy => absurd (by simp [yieldR, slotR, *]) hy⟩
                      go_simp
                    · refine ⟨fun _ => ?_, fun hy => absurd (by simp [yieldR, slotR, *]) hy⟩
                      go_simp
                    · refine ⟨fun _ => ?_, fun hy => absurd (by simp [yieldR, slotR, *]) hy⟩
                      obtain ⟨z1, z2⟩ := FI.out
                      go_simp
                    · refine ⟨fun _ => ?_, fun hy => absurd (by simp [yieldR, slotR, *]) hy⟩
                      go_simp
                    · refine ⟨fun _ => ?_, fun hy => absurd (by simp [yieldR, slotR, *]) hy⟩
                      go_simp
                    · refine ⟨fun _ => ?_, fun hy => absurd (by simp [yieldR, slotR, *]) hy⟩
                      go_simp
                    · refine ⟨fun _ => ?_, fun hy => absurd (by simp [yieldR, slotR, *]) hy⟩
                      have z := HZ.out
                      go_simp
                    · go_simp
                    · go_simp
                    · refine ⟨fun _ => ?_, fun hy => absurd (by simp [yieldR, slotR, *]) hy⟩
                      go_simp
                    · refine ⟨fun _ => ?_, fun hy => absurd (by simp [yieldR, slotR, *]) hy⟩
                      go_simp
                    · go_simp
                    · go_simp
                  · intro us x2 hp2 hw
                    simp only [owed, Fx] at hw
                    obtain ⟨e0, e1, e2, e3, e4, e5, e6, e7, e8, e9, e10, e11, e12, e13, e14, e15, e16, e17, e18, e19, e20, e21, e22, e23, e24, e25, e26, e27, e28, e29, e30, -⟩ := hw
                    simp only [List.length_cons, List.length_nil, List.take_succ_cons, List.take_nil, List.drop_succ_cons, List.drop_nil, asg, List.cons_append, List.nil_append, e0, e1, e2, e3, e4, e5, e6, e7, e8, e9, e10, e11, e12, e13, e14, e15, e16, e17, e18, e19, e20, e21, e22, e23, e24, e25, e26, e27, e28, e29, e30]
                    clear e0 e1 e2 e3 e4 e5 e6 e7 e8 e9 e10 e11 e12 e13 e14 e15 e16 e17 e18 e19 e20 e21 e22 e23 e24 e25 e26 e27 e28 e29 e30
                    have hB2 := hB.trans (hp2.mono hB.size)
                    replace ra := cell_later hp2 ra
                    replace rb := cell_later hp2 rb
                    replace kc := cell_later hp2 kc
                    replace pc := cell_later hp2 pc
                    replace c0 := cell_later hp2 c0
                    replace c1 := cell_later hp2 c1
                    replace c2 := cell_later hp2 c2
                    replace c3 := cell_later hp2 c3
                    clear hp2 hB
                    by_cases hne : Pv = A9
                    · have HNE : Hid ((Pv != A9) = false) := by show _ = _; rw [hne]; simp
                      have HNT : Hid ((Fr.sel (gone (frO l)) (i + 1)).length = T) := by
                        show _ = _
                        rw [sel_no (by
                          unfold gone
                          rw [hk1, Bool.true_and, beq_iff_eq.2 (by omega)]; rfl)]
                        exact HT.out.1
                      clear hrs hpa hPv hk1 hne
                      go_upto_region 17 with fail
                      refine wp_relies [Fx (.pointer (some ⟨g3, 0, none⟩)), Fx (.slice (some ⟨gk, ok, none⟩) n ck), Fx (.int .i64 (i : Int)), Fx (.pointer (some ⟨gk, ok + i, none⟩)), Fx (.bool true), Fx (.bool true), Fx (.pointer (some ⟨g3, 1, none⟩)), Fx (.slice (some ⟨gp, op, none⟩) n cp), Fx (.int .i64 (i : Int)), Fx (.pointer (some ⟨gp, op + i, none⟩)), Fx (.int .u32 Pv), Fx (.slice (some ⟨g, o, none⟩) n c), Fx (.int .i64 (i : Int)), Fx (.pointer (some ⟨g, o + i * 36, none⟩)), Fx (.pointer (some ⟨g, o + i * 36 + 2, none⟩)), Fx (.pointer (some ⟨g, o + i * 36 + 3, none⟩)), Fx (.int .u32 A9), Fx (.bool false), Fx (.bool false)] (by kernel_rfl) (by kernel_rfl) ?_ ?_ ?_
                      · repeat' (first | exact all_nil | apply all_cons)
                        all_goals intro v y y' hv hb
                        all_goals first | exact Fx_mono _ _ _ _ hv hb
                      · refine ⟨?_, ?_, ?_, ?_, ?_, ?_, ?_, ?_, ?_, ?_, ?_, ?_, ?_, ?_, ?_, ?_, ?_, ?_, ?_, trivial⟩
                        all_goals
                          intro ρ y9 hp ρc ρg ρf ho hd
                          have o0 : ρ (.tmp 0) = .slice (some ⟨g, o, none⟩) n c := ho 0 rfl
                          have o3 : ρ (.tmp 3) = .pointer (some ⟨g3, 0, none⟩) := ho 3 rfl
                          have o5 : ρ (.tmp 5) = .int .i64 (i : Int) := ho 5 rfl
                          clear ho
                          replace ra := cell_later hp ra
                          replace rb := cell_later hp rb
                          replace kc := cell_later hp kc
                          replace pc := cell_later hp pc
                          replace c0 := cell_later hp c0
                          replace c1 := cell_later hp c1
                          replace c2 := cell_later hp c2
                          replace c3 := cell_later hp c3
                          simp only [depsR, depR, slotR, Fx, List.getElem?_cons_succ, List.getElem?_cons_zero, Region.binds, forall_const] at hd
                          simp only [guardR]
                          go_split_ands
                        · go_simp
                        · go_simp
                        · go_simp
                        · obtain ⟨z1, z2⟩ := FI.out
                          go_simp
                        · go_simp
                        · go_simp
                        · refine ⟨fun _ => ?_, fun hy => absurd (by simp [yieldR, slotR, *]) hy⟩
                          go_simp
                        · refine ⟨fun _ => ?_, fun hy => absurd (by simp [yieldR, slotR, *]) hy⟩
                          go_simp
                        · refine ⟨fun _ => ?_, fun hy => absurd (by simp [yieldR, slotR, *]) hy⟩
                          go_simp
                        · refine ⟨fun _ => ?_, fun hy => absurd (by simp [yieldR, slotR, *]) hy⟩
                          obtain ⟨z1, z2⟩ := FI.out
                          go_simp
                        · refine ⟨fun _ => ?_, fun hy => absurd (by simp [yieldR, slotR, *]) hy⟩
                          go_simp
                        · refine ⟨fun _ => ?_, fun hy => absurd (by simp [yieldR, slotR, *]) hy⟩
                          go_simp
                        · refine ⟨fun _ => ?_, fun hy => absurd (by simp [yieldR, slotR, *]) hy⟩
                          go_simp
                        · refine ⟨fun _ => ?_, fun hy => absurd (by simp [yieldR, slotR, *]) hy⟩
                          obtain ⟨z1, z2⟩ := FI.out
                          go_simp
                        · refine ⟨fun _ => ?_, fun hy => absurd (by simp [yieldR, slotR, *]) hy⟩
                          go_simp
                        · refine ⟨fun _ => ?_, fun hy => absurd (by simp [yieldR, slotR, *]) hy⟩
                          go_simp
                        · refine ⟨fun _ => ?_, fun hy => absurd (by simp [yieldR, slotR, *]) hy⟩
                          go_simp
                        · refine ⟨fun _ => ?_, fun hy => absurd (by simp [yieldR, slotR, *]) hy⟩
                          have z := HNE.out
                          go_simp
                        · go_simp
                      · intro us x3 hp3 hw
                        simp only [owed, Fx] at hw
                        obtain ⟨e0, e1, e2, e3, e4, e5, e6, e7, e8, e9, e10, e11, e12, e13, e14, e15, e16, e17, e18, -⟩ := hw
                        simp only [List.length_cons, List.length_nil, List.take_succ_cons, List.take_nil, List.drop_succ_cons, List.drop_nil, asg, List.cons_append, List.nil_append, e0, e1, e2, e3, e4, e5, e6, e7, e8, e9, e10, e11, e12, e13, e14, e15, e16, e17, e18]
                        clear e0 e1 e2 e3 e4 e5 e6 e7 e8 e9 e10 e11 e12 e13 e14 e15 e16 e17 e18
                        have hB3 := hB2.trans (hp3.mono hB2.size)
                        replace ra := cell_later hp3 ra
                        replace rb := cell_later hp3 rb
                        replace kc := cell_later hp3 kc
                        replace pc := cell_later hp3 pc
                        replace c0 := cell_later hp3 c0
                        replace c1 := cell_later hp3 c1
                        replace c2 := cell_later hp3 c2
                        replace c3 := cell_later hp3 c3
                        have HB : Hid _ := hB3
                        clear hp3 hB2 hB3 kc c0 c1 c2 c3 pc ra rb
                        go_wp2
                        go_roundw
                        case rel => first | exact ⟨i + 1, by have := HI.out; omega, by go_num, by rw [HNT.out]; rfl, HB.out⟩ | exact ⟨i + 1, by have := HI.out; omega, by go_num, by rw [HNT.out], HB.out⟩ | ((repeat apply Exists.intro); refine ⟨⟨i + 1, by have := HI.out; omega, ?_, by rw [HNT.out], HB.out⟩, rfl⟩; go_num) | ((repeat apply Exists.intro); refine ⟨⟨i + 1, by have := HI.out; omega, ?_, by rw [HNT.out]; rfl, HB.out⟩, rfl⟩; go_num)
                        case measure => have := HI.out; simp [intOf]; omega
                    · have HNE : Hid ((Pv != A9) = true) := by show _ = _; exact bne_iff_ne.2 hne
                      have hgo : (frO l).par i ≠ (frO l).pa i := by omega
                      have hp0 := par_zero hgo
                      have HNT : Hid ((Fr.sel (gone (frO l)) (i + 1)).length = T + 1) := by
                        show _ = _
                        rw [sel_yes (by
                          unfold gone
                          rw [hk1, Bool.true_and, beq_eq_false_iff_ne.2 hgo]; rfl), List.length_append, HT.out.1]; rfl
                      have hPz : Pv = 0 := by rw [← hPv, hp0]; rfl
                      subst hPz
                      clear hrs hpa hPv hk1 hne hgo hp0
                      go_upto_region 17 with fail
                      refine wp_relies [Fx (.pointer (some ⟨g3, 0, none⟩)), Fx (.slice (some ⟨gk, ok, none⟩) n ck), Fx (.int .i64 (i : Int)), Fx (.pointer (some ⟨gk, ok + i, none⟩)), Fx (.bool true), Fx (.bool true), Fx (.pointer (some ⟨g3, 1, none⟩)), Fx (.slice (some ⟨gp, op, none⟩) n cp), Fx (.int .i64 (i : Int)), Fx (.pointer (some ⟨gp, op + i, none⟩)), Fx (.int .u32 0), Fx (.slice (some ⟨g, o, none⟩) n c), Fx (.int .i64 (i : Int)), Fx (.pointer (some ⟨g, o + i * 36, none⟩)), Fx (.pointer (some ⟨g, o + i * 36 + 2, none⟩)), Fx (.pointer (some ⟨g, o + i * 36 + 3, none⟩)), Fx (.int .u32 A9), Fx (.bool true), Fx (.bool true)] (by kernel_rfl) (by kernel_rfl) ?_ ?_ ?_
                      · repeat' (first | exact all_nil | apply all_cons)
                        all_goals intro v y y' hv hb
                        all_goals first | exact Fx_mono _ _ _ _ hv hb
                      · refine ⟨?_, ?_, ?_, ?_, ?_, ?_, ?_, ?_, ?_, ?_, ?_, ?_, ?_, ?_, ?_, ?_, ?_, ?_, ?_, trivial⟩
                        all_goals
                          intro ρ y9 hp ρc ρg ρf ho hd
                          have o0 : ρ (.tmp 0) = .slice (some ⟨g, o, none⟩) n c := ho 0 rfl
                          have o3 : ρ (.tmp 3) = .pointer (some ⟨g3, 0, none⟩) := ho 3 rfl
                          have o5 : ρ (.tmp 5) = .int .i64 (i : Int) := ho 5 rfl
                          clear ho
                          replace ra := cell_later hp ra
                          replace rb := cell_later hp rb
                          replace kc := cell_later hp kc
                          replace pc := cell_later hp pc
                          replace c0 := cell_later hp c0
                          replace c1 := cell_later hp c1
                          replace c2 := cell_later hp c2
                          replace c3 := cell_later hp c3
                          simp only [depsR, depR, slotR, Fx, List.getElem?_cons_succ, List.getElem?_cons_zero, Region.binds, forall_const] at hd
                          simp only [guardR]
                          go_split_ands
                        · go_simp
                        · go_simp
                        · go_simp
                        · obtain ⟨z1, z2⟩ := FI.out
                          go_simp
                        · go_simp
                        · go_simp
                        · refine ⟨fun _ => ?_, fun hy => absurd (by simp [yieldR, slotR, *]) hy⟩
                          go_simp
                        · refine ⟨fun _ => ?_, fun hy => absurd (by simp [yieldR, slotR, *]) hy⟩
                          go_simp
                        · refine ⟨fun _ => ?_, fun hy => absurd (by simp [yieldR, slotR, *]) hy⟩
                          go_simp
                        · refine ⟨fun _ => ?_, fun hy => absurd (by simp [yieldR, slotR, *]) hy⟩
                          obtain ⟨z1, z2⟩ := FI.out
                          go_simp
                        · refine ⟨fun _ => ?_, fun hy => absurd (by simp [yieldR, slotR, *]) hy⟩
                          go_simp
                        · refine ⟨fun _ => ?_, fun hy => absurd (by simp [yieldR, slotR, *]) hy⟩
                          go_simp
                        · refine ⟨fun _ => ?_, fun hy => absurd (by simp [yieldR, slotR, *]) hy⟩
                          go_simp
                        · refine ⟨fun _ => ?_, fun hy => absurd (by simp [yieldR, slotR, *]) hy⟩
                          obtain ⟨z1, z2⟩ := FI.out
                          go_simp
                        · refine ⟨fun _ => ?_, fun hy => absurd (by simp [yieldR, slotR, *]) hy⟩
                          go_simp
                        · refine ⟨fun _ => ?_, fun hy => absurd (by simp [yieldR, slotR, *]) hy⟩
                          go_simp
                        · refine ⟨fun _ => ?_, fun hy => absurd (by simp [yieldR, slotR, *]) hy⟩
                          go_simp
                        · refine ⟨fun _ => ?_, fun hy => absurd (by simp [yieldR, slotR, *]) hy⟩
                          have z := HNE.out
                          go_simp
                        · go_simp
                      · intro us x3 hp3 hw
                        simp only [owed, Fx] at hw
                        obtain ⟨e0, e1, e2, e3, e4, e5, e6, e7, e8, e9, e10, e11, e12, e13, e14, e15, e16, e17, e18, -⟩ := hw
                        simp only [List.length_cons, List.length_nil, List.take_succ_cons, List.take_nil, List.drop_succ_cons, List.drop_nil, asg, List.cons_append, List.nil_append, e0, e1, e2, e3, e4, e5, e6, e7, e8, e9, e10, e11, e12, e13, e14, e15, e16, e17, e18]
                        clear e0 e1 e2 e3 e4 e5 e6 e7 e8 e9 e10 e11 e12 e13 e14 e15 e16 e17 e18
                        have hB3 := hB2.trans (hp3.mono hB2.size)
                        replace ra := cell_later hp3 ra
                        replace rb := cell_later hp3 rb
                        replace kc := cell_later hp3 kc
                        replace pc := cell_later hp3 pc
                        replace c0 := cell_later hp3 c0
                        replace c1 := cell_later hp3 c1
                        replace c2 := cell_later hp3 c2
                        replace c3 := cell_later hp3 c3
                        have HB : Hid _ := hB3
                        clear hp3 hB2 hB3 kc c0 c1 c2 c3 ra
                        go_wp2
                        go_roundw
                        case rel => first | exact ⟨i + 1, by have := HI.out; omega, by go_num, by rw [HNT.out]; rfl, HB.out⟩ | exact ⟨i + 1, by have := HI.out; omega, by go_num, by rw [HNT.out], HB.out⟩ | ((repeat apply Exists.intro); refine ⟨⟨i + 1, by have := HI.out; omega, ?_, by rw [HNT.out], HB.out⟩, rfl⟩; go_num) | ((repeat apply Exists.intro); refine ⟨⟨i + 1, by have := HI.out; omega, ?_, by rw [HNT.out]; rfl, HB.out⟩, rfl⟩; go_num)
                        case measure => have := HI.out; simp [intOf]; omega
                · have hk0 : (frO l).kp i = false := by rw [hkl, hz9]; rfl
                  have HNT := hno hk0
                  rw [hk0] at kc
                  clear hno hkl hth hla hrs hpa hPv hk0 hz hz9
                  go_upto_region 15 with fail
                  refine wp_relies [Fx (.pointer (some ⟨g3, 0, none⟩)), Fx (.slice (some ⟨gk, ok, none⟩) n ck), Fx (.int .i64 (i : Int)), Fx (.pointer (some ⟨gk, ok + i, none⟩)), Fx (.bool false), Fx (.slice (some ⟨g, o, none⟩) n c), Fx (.int .i64 (i : Int)), Fx (.pointer (some ⟨g, o + i * 36, none⟩)), Fx (.pointer (some ⟨g, o + i * 36, none⟩)), Fx (.bool true), Fx (.bool true), Fx (.slice (some ⟨g, o, none⟩) n c), Fx (.int .i64 (i : Int)), Fx (.pointer (some ⟨g, o + i * 36, none⟩)), Fx (.pointer (some ⟨g, o + i * 36 + 1, none⟩)), Fx (.bool true), Fx (.bool true), Fx (.bool true), Fx (.slice (some ⟨g, o, none⟩) n c), Fx (.int .i64 (i : Int)), Fx (.pointer (some ⟨g, o + i * 36, none⟩)), Fx (.pointer (some ⟨g, o + i * 36 + 2, none⟩)), Fx (.pointer (some ⟨g, o + i * 36 + 2, none⟩)), Fx (.int .u32 D), Fx (.bool true), Fx (.bool true), Fx (.bool true), Fx (.bool true), Fx (.bool false), Fx (.bool false), Fx (.bool false)] (by kernel_rfl) (by kernel_rfl) ?_ ?_ ?_
                  · repeat' (first | exact all_nil | apply all_cons)
                    all_goals intro v y y' hv hb
                    all_goals first | exact Fx_mono _ _ _ _ hv hb
                  · refine ⟨?_, ?_, ?_, ?_, ?_, ?_, ?_, ?_, ?_, ?_, ?_, ?_, ?_, ?_, ?_, ?_, ?_, ?_, ?_, ?_, ?_, ?_, ?_, ?_, ?_, ?_, ?_, ?_, ?_, ?_, ?_, trivial⟩
                    all_goals
                      intro ρ y9 hp ρc ρg ρf ho hd
                      have o0 : ρ (.tmp 0) = .slice (some ⟨g, o, none⟩) n c := ho 0 rfl
                      have o3 : ρ (.tmp 3) = .pointer (some ⟨g3, 0, none⟩) := ho 3 rfl
                      have o5 : ρ (.tmp 5) = .int .i64 (i : Int) := ho 5 rfl
                      have o6 : ρ (.tmp 6) = .bool true := ho 6 rfl
                      clear ho
                      replace ra := cell_later hp ra
                      replace rb := cell_later hp rb
                      replace kc := cell_later hp kc
                      replace pc := cell_later hp pc
                      replace c0 := cell_later hp c0
                      replace c1 := cell_later hp c1
                      replace c2 := cell_later hp c2
                      replace c3 := cell_later hp c3
                      simp only [depsR, depR, slotR, Fx, List.getElem?_cons_succ, List.getElem?_cons_zero, Region.binds, forall_const] at hd
                      simp only [guardR]
                      go_split_ands
                    · go_simp
                    · go_simp
                    · go_simp
                    · obtain ⟨z1, z2⟩ := FI.out
                      go_simp
                    · go_simp
                    · go_simp
                    · go_simp
                    · obtain ⟨z1, z2⟩ := FI.out
                      go_simp
                    · go_simp
                    · go_simp
                    · go_simp
                    · refine ⟨fun _ => ?_, fun hy => absurd (by simp [yieldR, slotR, *]) hy⟩
                      go_simp
                    · refine ⟨fun _ => ?_, fun hy => absurd (by simp [yieldR, slotR, *]) hy⟩
                      go_simp
                    · refine ⟨fun _ => ?_, fun hy => absurd (by simp [yieldR, slotR, *]) hy⟩
                      obtain ⟨z1, z2⟩ := FI.out
                      go_simp
                    · refine ⟨fun _ => ?_, fun hy => absurd (by simp [yieldR, slotR, *]) hy⟩
                      go_simp
                    · refine ⟨fun _ => ?_, fun hy => absurd (by simp [yieldR, slotR, *]) hy⟩
                      go_simp
                    · go_simp
                    · go_simp
                    · refine ⟨fun _ => ?_, fun hy => absurd (by simp [yieldR, slotR, *]) hy⟩
                      go_simp
                    · refine ⟨fun _ => ?_, fun hy => absurd (by simp [yieldR, slotR, *]) hy⟩
                      go_simp
                    · refine ⟨fun _ => ?_, fun hy => absurd (by simp [yieldR, slotR, *]) hy⟩
                      obtain ⟨z1, z2⟩ := FI.out
                      go_simp
                    · refine ⟨fun _ => ?_, fun hy => absurd (by simp [yieldR, slotR, *]) hy⟩
                      go_simp
                    · refine ⟨fun _ => ?_, fun hy => absurd (by simp [yieldR, slotR, *]) hy⟩
                      go_simp
                    · refine ⟨fun _ => ?_, fun hy => absurd (by simp [yieldR, slotR, *]) hy⟩
                      go_simp
                    · refine ⟨fun _ => ?_, fun hy => absurd (by simp [yieldR, slotR, *]) hy⟩
                      have z := HZ.out
                      go_simp
                    · go_simp
                    · go_simp
                    · refine ⟨fun _ => ?_, fun hy => absurd (by simp [yieldR, slotR, *]) hy⟩
                      go_simp
                    · refine ⟨fun _ => ?_, fun hy => absurd (by simp [yieldR, slotR, *]) hy⟩
                      go_simp
                    · go_simp
                    · go_simp
                  · intro us x2 hp2 hw
                    simp only [owed, Fx] at hw
                    obtain ⟨e0, e1, e2, e3, e4, e5, e6, e7, e8, e9, e10, e11, e12, e13, e14, e15, e16, e17, e18, e19, e20, e21, e22, e23, e24, e25, e26, e27, e28, e29, e30, -⟩ := hw
                    simp only [List.length_cons, List.length_nil, List.take_succ_cons, List.take_nil, List.drop_succ_cons, List.drop_nil, asg, List.cons_append, List.nil_append, e0, e1, e2, e3, e4, e5, e6, e7, e8, e9, e10, e11, e12, e13, e14, e15, e16, e17, e18, e19, e20, e21, e22, e23, e24, e25, e26, e27, e28, e29, e30]
                    clear e0 e1 e2 e3 e4 e5 e6 e7 e8 e9 e10 e11 e12 e13 e14 e15 e16 e17 e18 e19 e20 e21 e22 e23 e24 e25 e26 e27 e28 e29 e30
                    have hB2 := hB.trans (hp2.mono hB.size)
                    replace ra := cell_later hp2 ra
                    replace rb := cell_later hp2 rb
                    replace kc := cell_later hp2 kc
                    replace pc := cell_later hp2 pc
                    replace c0 := cell_later hp2 c0
                    replace c1 := cell_later hp2 c1
                    replace c2 := cell_later hp2 c2
                    replace c3 := cell_later hp2 c3
                    clear hp2 hB
                    go_upto_region 17 with fail
                    refine wp_relies [Fx (.pointer (some ⟨g3, 0, none⟩)), Fx (.slice (some ⟨gk, ok, none⟩) n ck), Fx (.int .i64 (i : Int)), Fx (.pointer (some ⟨gk, ok + i, none⟩)), Fx (.bool false), Fx (.bool false), Fx (undef), Fx (undef), Fx (undef), Fx (undef), Fx (undef), Fx (undef), Fx (undef), Fx (undef), Fx (undef), Fx (undef), Fx (undef), Fx (undef), Fx (.bool false)] (by kernel_rfl) (by kernel_rfl) ?_ ?_ ?_
                    · repeat' (first | exact all_nil | apply all_cons)
                      all_goals intro v y y' hv hb
                      all_goals first | exact Fx_mono _ _ _ _ hv hb
                    · refine ⟨?_, ?_, ?_, ?_, ?_, ?_, ?_, ?_, ?_, ?_, ?_, ?_, ?_, ?_, ?_, ?_, ?_, ?_, ?_, trivial⟩
                      all_goals
                        intro ρ y9 hp ρc ρg ρf ho hd
                        have o3 : ρ (.tmp 3) = .pointer (some ⟨g3, 0, none⟩) := ho 3 rfl
                        have o5 : ρ (.tmp 5) = .int .i64 (i : Int) := ho 5 rfl
                        clear ho
                        replace ra := cell_later hp ra
                        replace rb := cell_later hp rb
                        replace kc := cell_later hp kc
                        replace pc := cell_later hp pc
                        replace c0 := cell_later hp c0
                        replace c1 := cell_later hp c1
                        replace c2 := cell_later hp c2
                        replace c3 := cell_later hp c3
                        simp only [depsR, depR, slotR, Fx, List.getElem?_cons_succ, List.getElem?_cons_zero, Region.binds, forall_const] at hd
                        simp only [guardR]
                        go_split_ands
                      · go_simp
                      · go_simp
                      · go_simp
                      · obtain ⟨z1, z2⟩ := FI.out
                        go_simp
                      · go_simp
                      · go_simp
                      · refine ⟨fun hy => ?_, fun _ => rfl⟩
                        exfalso; simp [yieldR, slotR, undef, *] at hy
                      · refine ⟨fun hy => ?_, fun _ => rfl⟩
                        exfalso; simp [yieldR, slotR, undef, *] at hy
                      · refine ⟨fun hy => ?_, fun _ => rfl⟩
                        exfalso; simp [yieldR, slotR, undef, *] at hy
                      · refine ⟨fun hy => ?_, fun _ => rfl⟩
                        exfalso; simp [yieldR, slotR, undef, *] at hy
                      · refine ⟨fun hy => ?_, fun _ => rfl⟩
                        exfalso; simp [yieldR, slotR, undef, *] at hy
                      · refine ⟨fun hy => ?_, fun _ => rfl⟩
                        exfalso; simp [yieldR, slotR, undef, *] at hy
                      · refine ⟨fun hy => ?_, fun _ => rfl⟩
                        exfalso; simp [yieldR, slotR, undef, *] at hy
                      · refine ⟨fun hy => ?_, fun _ => rfl⟩
                        exfalso; simp [yieldR, slotR, undef, *] at hy
                      · refine ⟨fun hy => ?_, fun _ => rfl⟩
                        exfalso; simp [yieldR, slotR, undef, *] at hy
                      · refine ⟨fun hy => ?_, fun _ => rfl⟩
                        exfalso; simp [yieldR, slotR, undef, *] at hy
                      · refine ⟨fun hy => ?_, fun _ => rfl⟩
                        exfalso; simp [yieldR, slotR, undef, *] at hy
                      · refine ⟨fun hy => ?_, fun _ => rfl⟩
                        exfalso; simp [yieldR, slotR, undef, *] at hy
                      · go_simp
                    · intro us x3 hp3 hw
                      simp only [owed, Fx] at hw
                      obtain ⟨e0, e1, e2, e3, e4, e5, e6, e7, e8, e9, e10, e11, e12, e13, e14, e15, e16, e17, e18, -⟩ := hw
                      simp only [List.length_cons, List.length_nil, List.take_succ_cons, List.take_nil, List.drop_succ_cons, List.drop_nil, asg, List.cons_append, List.nil_append, e0, e1, e2, e3, e4, e5, e6, e7, e8, e9, e10, e11, e12, e13, e14, e15, e16, e17, e18]
                      clear e0 e1 e2 e3 e4 e5 e6 e7 e8 e9 e10 e11 e12 e13 e14 e15 e16 e17 e18
                      have HB : Hid _ := hB2.trans (hp3.mono hB2.size)
                      clear hp3 hB2 ra rb kc pc c0 c1 c2 c3
                      go_wp2
                      go_roundw
                      case rel => first | exact ⟨i + 1, by have := HI.out; omega, by go_num, by rw [HNT.out]; rfl, HB.out⟩ | exact ⟨i + 1, by have := HI.out; omega, by go_num, by rw [HNT.out], HB.out⟩ | ((repeat apply Exists.intro); refine ⟨⟨i + 1, by have := HI.out; omega, ?_, by rw [HNT.out], HB.out⟩, rfl⟩; go_num) | ((repeat apply Exists.intro); refine ⟨⟨i + 1, by have := HI.out; omega, ?_, by rw [HNT.out]; rfl, HB.out⟩, rfl⟩; go_num)
                      case measure => have := HI.out; simp [intOf]; omega
    · obtain rfl : n = i := by omega
      have i0 : ¬ (n : Int) < (n : Int) := by omega
      obtain ⟨-, -, r4, r5⟩ := HRK.out wr hBw
      rw [e4] at r4
      rw [e5] at r5
      have hsum := gone_sum (frO l) n
      rw [hT] at hsum
      have hsum' : T = (FL (frO l) n n 4).length + (FL (frO l) n n 5).length := hsum
      have l4 : (FL (frO l) n n 4).length ≤ n := FL_len _ _ _ _ _ (by omega) (by omega)
      have l5 : (FL (frO l) n n 5).length ≤ n := FL_len _ _ _ _ _ (by omega) (by omega)
      generalize (FL (frO l) n n 4).length = a4 at r4 hsum' l4
      generalize (FL (frO l) n n 5).length = a5 at r5 hsum' l5
      have HE : Hid (((T : Int) == (a4 : Int) + (a5 : Int)) = true) := by show _ = _; rw [hsum']; simp
      have HB : Hid _ := hBY.trans (hBw.mono hBY.size)
      clear hsum hT hBw hsum' hlt hi
      go_wp2
      go_ret
      exact ⟨by
        show Ending.returned (.bool ((T : Int) == (a4 : Int) + (a5 : Int))) = _
        rw [HE.out], HB.out⟩
end Go.Proofs.Ytligjfofnafjeaa
