import Derived.Test.YtfdigmlhjjdggaaQTab3
import Derived.Test.YtfdigmlhjjdggaaQGenA
import Derived.Test.YtfdigmlhjjdggaaQNum
namespace Go.Proofs.Ytfdigmlhjjdggaa
open Go.RowKit

/-! assayref17: PutCounts, GetCounts -/
def uV (l : List Nat) : List Value := l.map fun v : Nat => Value.int .u32 (v : Int)
theorem uV_len (l : List Nat) : (uV l).length = l.length := by simp [uV]
theorem uV_get (l : List Nat) (i v : Nat) (h : l[i]? = some v) : (uV l)[i]? = some (.int .u32 (v : Int)) := by simp [uV, h]
theorem uV_app (l m : List Nat) : uV (l ++ m) = uV l ++ uV m := by simp [uV]
/-- The first i numbers laid. -/
def cn1 (l : List Nat) (i : Nat) : Sc := fun j => if j < 4 * i then UInt8.ofNat ((l[j / 4]?.getD 0) / 256 ^ (j % 4)) else 0
theorem cn1_zero (l : List Nat) : cn1 l 0 = secZ := by funext j; unfold cn1 secZ; rw [if_neg (by omega)]
theorem cn1_succ (l : List Nat) (i : Nat) : putN (cn1 l i) (4 * i) (l[i]?.getD 0) 4 = cn1 l (i + 1) := by
  funext j
  unfold putN cn1
  by_cases h : 4 * i ≤ j ∧ j < 4 * i + 4
  · simp only [if_pos h, if_pos (show j < 4 * (i + 1) by omega), show j / 4 = i by omega, show j % 4 = j - 4 * i by omega]
  · by_cases h2 : j < 4 * i
    · simp only [if_neg h, if_pos h2, if_pos (show j < 4 * (i + 1) by omega)]
    · simp only [if_neg h, if_neg h2, if_neg (show ¬ j < 4 * (i + 1) by omega)]
theorem cn1_full (l : List Nat) (h : l.length ≤ 15) : cn1 l l.length = cnB l := by
  funext j
  unfold cn1 cnB
  by_cases h1 : j < 4 * l.length
  · rw [if_pos h1, if_pos (by omega)]
  · rw [if_neg h1]
    by_cases h2 : j < 60
    · rw [if_pos h2, List.getElem?_eq_none (by omega)]
      simp
    · rw [if_neg h2]
set_option linter.unusedSimpArgs false in
set_option maxRecDepth 100000 in
set_option maxHeartbeats 1600000 in
theorem rPutCounts_no (x : Option Addr) (n c : Nat) (w : World) (hn : 15 < n) (hn63 : n ≤ 9223372036854775807) :
    Calls Try.prog 19 #[.slice x n c] w fun r w' => r = .returned (.tuple #[.agg (secA secZ), .int .i64 2]) ∧ Below w.heap.size w w' := by
  have hB := below_alloc w (.cells (secA secZ) 35)
  have hR2 : ScR (w.alloc (.cells (secA secZ) 35)) w.heap.size secZ := ScR.new _ _ _
  have i0 : (15 : Int) < (n : Int) := by omega
  go_enter Try.func19, Try.ntmps19
  go_upto_region 1 with fail
  obtain ⟨g2, hg2⟩ : ∃ g, w.heap.size = g := ⟨_, rfl⟩
  have hl2 : w.heap.size ≤ g2 := by omega
  rw [hg2] at hR2
  simp only [hg2]
  generalize w.alloc (.cells (secA secZ) 35) = X at hB hR2 ⊢
  clear hg2
  have HB : Hid _ := below_row hB hl2 (secA secZ)
  have HR : Hid _ := hR2.rsame secZ
  obtain ⟨r2, q2⟩ := hR2
  clear hB
  go_wp2
  exact sec_bodyPost2 2 3 g2 secZ rfl rfl rfl HR.out ⟨rfl, HB.out⟩
set_option linter.unusedSimpArgs false in
set_option maxRecDepth 100000 in
set_option maxHeartbeats 1600000 in
theorem rPutCounts_yes (l : List Nat) (x : Option Addr) (n c : Nat) (w : World) (hn : l.length = n) (hn15 : n ≤ 15) (hv4 : ∀ (i : Nat) (v : Nat), l[i]? = some v → v < 4294967296) (hl : IsG w (.slice x n c) (uV l)) (T : Sc) (hT : cn1 l n = T) :
    Calls Try.prog 19 #[.slice x n c] w fun r w' => r = .returned (.tuple #[.agg (secA (sealS T)), .int .i64 0]) ∧ Below w.heap.size w w' := by
  have hB := (below_alloc w (.cells (secA secZ) 35))
  have hR2 : ScR (w.alloc (.cells (secA secZ) 35)) w.heap.size secZ := ScR.new _ _ _
  have i0 : ¬ (15 : Int) < (n : Int) := by omega
  go_enter Try.func19, Try.ntmps19
  go_upto_region 1 with fail
  obtain ⟨g2, hg2⟩ : ∃ g, w.heap.size = g := ⟨_, rfl⟩
  have hl2 : w.heap.size ≤ g2 := by omega
  rw [hg2] at hR2
  simp only [hg2]
  generalize w.alloc (.cells (secA secZ) 35) = X at hB hR2 ⊢
  clear hg2
  have bX := below_alloc X (.cells (secA secZ) 35)
  have h4 : ScR (X.alloc (.cells (secA secZ) 35)) X.heap.size secZ := ScR.new _ _ _
  have hg4 : g2 < X.heap.size := hR2.lt
  have hl4 := hB.size
  have h2 := hR2.kept bX
  have hB1 := hB.alloc hB.size (.cells (secA secZ) 35)
  clear hR2 hB bX
  go_upto_region 4 with fail
  generalize X.alloc (.cells (secA secZ) 35) = Y at h2 h4 hB1 ⊢
  obtain ⟨g4, hg⟩ : ∃ q, X.heap.size = q := ⟨_, rfl⟩
  rw [hg] at h4 hg4 hl4
  simp only [hg]
  have hn42 : g4 ≠ g2 := by omega
  clear hg hg4 i0
  go_wp2_with fail
  go_loopw [5] (fun iv wr => ∃ i : Nat, i ≤ n ∧ iv = .int .i64 i ∧ ScR wr g4 (cn1 l i) ∧ ScR wr g2 secZ ∧ Below w.heap.size w wr) (fun iv _ => n - (intOf iv).toNat)
  case atStart => exact ⟨0, by omega, rfl, by rw [cn1_zero]; exact h4, h2, hB1⟩
  case round =>
    clear h4 h2 hB1
    obtain ⟨i, hi, rfl, h4, h2, hB⟩ := hrel
    by_cases hlt : i < n
    · obtain ⟨v, hv⟩ : ∃ v, l[i]? = some v := ⟨_, List.getElem?_eq_getElem (by omega)⟩
      have hvl := hv4 i v hv
      have hS := cn1_succ l i
      rw [hv] at hS
      simp only [Option.getD_some] at hS
      obtain ⟨gb, ob, rfl, hgb, hc9⟩ := (hl.kept hB).spot i (by rw [uV_len]; omega)
      have hc := hc9 i _ (uV_get l i v hv)
      clear hc9
      obtain ⟨i4, hi4⟩ : ∃ q, 4 * i = q := ⟨_, rfl⟩
      rw [hi4] at hS
      have kP := fun W => put17_any (cn1 l i) i4 v W (by omega) hvl
      obtain ⟨S2, hS2⟩ : ∃ q, cn1 l (i + 1) = q := ⟨_, rfl⟩
      rw [hS, hS2] at kP
      generalize cn1 l i = S1 at h4 kP
      have F4 : Hid ((4 : Int) * (i : Int) = (i4 : Int) ∧ IntKind.i64.wrap (i4 : Int) = (i4 : Int)) := by
        refine ⟨by omega, ?_⟩
        rw [IntKind.wrap_i64]; omega
      have FK : Hid ((0 : Int) ≤ (i : Int) ∧ (i : Int) < (n : Int)) := by show _ ∧ _; omega
      have HI : Hid (i < n ∧ cn1 l (i + 1) = S2) := ⟨hlt, hS2⟩
      have i0 : (i : Int) < (n : Int) := by omega
      have i9 : (i : Int) < 15 := by omega
      clear hS hi4 hS2 hv hvl hi hlt
      go_upto_region 7 with fail
      clear i0
      refine wp_reliesT [Fx (.agg (secA S1)), Fx (.int .i64 (i : Int)), Fx (.int .i64 (i4 : Int)), Fx (.slice (some ⟨gb, ob, none⟩) n c), Fx (.int .i64 (i : Int)), Fx (.pointer (some ⟨gb, ob + i, none⟩)), Fx (.int .u32 (v : Int)), Fx (.agg (secA S2))] (by kernel_rfl) (by kernel_rfl) ?_ ?_ ?_
      · repeat' (first | exact all_nil | apply all_cons)
        all_goals intro v y y' hv hb
        all_goals first | exact Fx_mono _ _ _ _ hv hb
      · refine ⟨?_, ?_, ?_, ?_, ?_, ?_, ?_, ?_, trivial⟩
        all_goals
          intro ρ y9 hp ρc ρg ρf ho hd
          have o4 : ρ (.tmp 4) = .pointer (some ⟨g4, 0, none⟩) := ho 4 rfl
          have o5 : ρ (.tmp 5) = .int .i64 (i : Int) := ho 5 rfl
          have o0 : ρ (.tmp 0) = .slice (some ⟨gb, ob, none⟩) n c := ho 0 rfl
          clear ho
          have c1 := cell_later hp hc
          obtain ⟨r4, q4⟩ := h4.kept hp
          simp only [depsR, depR, slotR, Fx, List.getElem?_cons_succ, List.getElem?_cons_zero, Region.binds, forall_const] at hd
          simp only [guardR]
          go_split_ands
        · go_simp
        · go_simp
        · obtain ⟨q1, q2⟩ := F4.out
          go_simp
        · go_simp
        · go_simp
        · obtain ⟨z1, z2⟩ := FK.out
          go_simp
        · go_simp
        · go_simp
          refine (kP y9).mono ?_
          rintro e9 x' ⟨rfl, hb⟩
          exact ⟨_, rfl, rfl, hb⟩
      · intro vs x1 hp hw
        simp only [owed, Fx] at hw
        obtain ⟨e0, e1, e2, e3, e4, e5, e6, e7, -⟩ := hw
        simp only [List.length_cons, List.length_nil, List.take_succ_cons, List.take_zero, List.drop_succ_cons, List.drop_zero, asg, List.cons_append, List.nil_append, e0, e1, e2, e3, e4, e5, e6, e7]
        clear e0 e1 e2 e3 e4 e5 e6 e7
        have h4a := h4.kept hp
        have h2a := h2.kept hp
        have hBa := hB.trans (hp.mono hB.size)
        have H4 : Hid (ScR (x1.setRow g4 (secA S2)) g4 S2) := h4a.rsame S2
        have H2 : Hid (ScR (x1.setRow g4 (secA S2)) g2 secZ) := h2a.rne (secA S2) (fun e => hn42 e.symm)
        have HB : Hid _ := below_row hBa hl4 (secA S2)
        obtain ⟨r4, q4⟩ := h4a
        clear h4 h2 hB hp h2a hBa kP
        go_wp2
        go_roundw
        case rel => exact ⟨i + 1, by have := HI.out; omega, by (have := HI.out; go_num), by rw [HI.out.2]; exact H4.out, H2.out, HB.out⟩
        case measure => have := HI.out; simp [intOf, IntKind.wrap_i64]; omega
    · obtain rfl : n = i := by omega
      have i0 : ¬ (n : Int) < (n : Int) := by omega
      have kS := refSeal_any T
      rw [hT] at h4
      have h4' := h4
      obtain ⟨r4, q4⟩ := h4'
      go_wp2_with fail
      refine (kS _).mono ?_
      rintro e wz ⟨rfl, hb⟩
      have h2z := h2.kept hb
      have hBz := hB.trans (hb.mono hB.size)
      have HR : Hid _ := h2z.rsame (sealS T)
      have HB : Hid _ := below_row hBz hl2 (secA (sealS T))
      obtain ⟨r2, q2⟩ := h2z
      clear kS hb h2 h4 hB hBz r4 q4
      go_wp2
      exact sec_bodyPost2 2 3 g2 (sealS T) rfl rfl rfl HR.out ⟨rfl, HB.out⟩
theorem rPutCounts_any (l : List Nat) (x : Option Addr) (n c : Nat) (w : World) (hn : l.length = n) (hn63 : n ≤ 9223372036854775807) (hv4 : ∀ (i : Nat) (v : Nat), l[i]? = some v → v < 4294967296) (hl : IsG w (.slice x n c) (uV l)) :
    Calls Try.prog 19 #[.slice x n c] w fun r w' => r = .returned (.tuple #[.agg (secA (pcS l)), .int .i64 (pcE l)]) ∧ Below w.heap.size w w' := by
  by_cases h15 : n ≤ 15
  · have e1 : pcS l = sealS (cn1 l n) := by unfold pcS; rw [decide_eq_true (by omega), ← hn, cn1_full l (by omega)]; rfl
    have e2 : pcE l = 0 := by unfold pcE; rw [decide_eq_true (by omega)]; rfl
    rw [e1, e2]
    exact rPutCounts_yes l x n c w hn h15 hv4 hl _ rfl
  · have e1 : pcS l = secZ := by unfold pcS; rw [decide_eq_false (by omega)]; rfl
    have e2 : pcE l = 2 := by unfold pcE; rw [decide_eq_false (by omega)]; rfl
    rw [e1, e2]
    exact rPutCounts_no x n c w (by omega) hn63
end Go.Proofs.Ytfdigmlhjjdggaa
