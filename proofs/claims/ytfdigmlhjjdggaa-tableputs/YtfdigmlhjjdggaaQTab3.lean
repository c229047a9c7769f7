import Derived.Test.YtfdigmlhjjdggaaQTab2
namespace Go.Proofs.Ytfdigmlhjjdggaa
open Go.RowKit

/-! assayref17: PutSnap -/
def sn1 (a b : Nat) : Sc := putN (putN (upd secZ 0 83) 4 a 4) 8 b 4
def sn2 (a b : Nat) (k : Nat → UInt8) (m : Nat) : Sc := fun j => if 12 ≤ j ∧ j < 12 + m then k (j - 12) else sn1 a b j
theorem sn2_zero (a b : Nat) (k : Nat → UInt8) : sn2 a b k 0 = sn1 a b := by
  funext j; unfold sn2; rw [if_neg (by omega)]
theorem sn2_succ (a b : Nat) (k : Nat → UInt8) (m : Nat) : sn2 a b k (m + 1) = upd (sn2 a b k m) (12 + m) (k m) := by
  funext j
  unfold sn2 upd
  by_cases h : j = 12 + m
  · subst h; simp only [if_true, if_pos (show 12 ≤ 12 + m ∧ 12 + m < 12 + (m + 1) by omega), show 12 + m - 12 = m by omega]
  · by_cases h2 : 12 ≤ j ∧ j < 12 + m
    · simp only [if_neg h, if_pos h2, if_pos (show 12 ≤ j ∧ j < 12 + (m + 1) by omega)]
    · simp only [if_neg h, if_neg h2, if_neg (show ¬ (12 ≤ j ∧ j < 12 + (m + 1)) by omega)]
theorem sn2_full (a b : Nat) (k : Nat → UInt8) : sn2 a b k 32 = snB a b k := by
  funext j
  unfold sn2 snB sn1 putN upd secZ
  by_cases h0 : j = 0
  · subst h0; simp
  · by_cases h1 : 4 ≤ j ∧ j < 8
    · rw [if_neg (by omega), if_neg (by omega), if_pos (by omega), if_neg h0, if_pos h1]
    · by_cases h2 : 8 ≤ j ∧ j < 12
      · rw [if_neg (by omega), if_pos (by omega), if_neg h0, if_neg h1, if_pos h2]
      · by_cases h3 : 12 ≤ j ∧ j < 44
        · rw [if_pos (by omega), if_neg h0, if_neg h1, if_neg h2, if_pos h3]
        · rw [if_neg (by omega), if_neg (by omega), if_neg (by omega), if_neg h0, if_neg h0, if_neg h1, if_neg h2, if_neg h3]
set_option linter.unusedSimpArgs false in
set_option maxRecDepth 100000 in
set_option maxHeartbeats 1600000 in
theorem rPutSnap_no (b : Nat) (key : Nat → UInt8) (w : World) :
    Calls Try.prog 18 #[.agg (snA ⟨0, (b : Int), key⟩)] w fun r w' => r = .returned (.tuple #[.agg (secA secZ), .int .i64 1]) ∧ Below w.heap.size w w' := by
  obtain ⟨A, hA⟩ : ∃ q, snA ⟨0, (b : Int), key⟩ = q := ⟨_, rfl⟩
  have hA0 : A[0]? = some (.int .u32 0) := by rw [← hA, snA_0]
  have hAs : A.size = 34 := by rw [← hA, snA_size]
  rw [hA]
  clear hA
  have hB : Below w.heap.size w ((w.alloc (.cells A 28)).alloc (.cells (secA secZ) 35)) := (below_alloc w _).alloc (by simp) _
  have hR1 : RowC ((w.alloc (.cells A 28)).alloc (.cells (secA secZ) 35)) w.heap.size A := (RowC.new w A _).kept (below_alloc _ _)
  have hR2 : ScR ((w.alloc (.cells A 28)).alloc (.cells (secA secZ) 35)) (w.heap.size + 1) secZ := by
    have := ScR.new (w.alloc (.cells A 28)) secZ 35
    rw [World.size_alloc] at this
    exact this
  go_enter Try.func18, Try.ntmps18
  go_upto_region 1 with fail
  obtain ⟨g2, hg2⟩ : ∃ g, w.heap.size + 1 = g := ⟨_, rfl⟩
  obtain ⟨g1, hg1⟩ : ∃ g, w.heap.size = g := ⟨_, rfl⟩
  have hl2 : w.heap.size ≤ g2 := by omega
  rw [hg2] at hR2
  rw [hg1] at hR1
  simp only [hg2]
  simp only [hg1]
  generalize (w.alloc (.cells A 28)).alloc (.cells (secA secZ) 35) = X at hB hR1 hR2 ⊢
  clear hg1 hg2
  have c0 := hR1.cell 0
  rw [hA0] at c0
  have HB : Hid _ := below_row hB hl2 (secA secZ)
  have HR : Hid _ := hR2.rsame secZ
  obtain ⟨r2, q2⟩ := hR2
  clear hR1 hB hA0 hAs
  go_wp2
  exact sec_bodyPost2 2 3 g2 secZ rfl rfl rfl HR.out ⟨rfl, HB.out⟩
set_option linter.unusedSimpArgs false in
set_option maxRecDepth 100000 in
set_option maxHeartbeats 1600000 in
theorem rPutSnap_yes (a b : Nat) (key : Nat → UInt8) (w : World) (ha0 : a ≠ 0) (ha : a < 4294967296) (hb4 : b < 4294967296) (T : Sc) (hT : sn2 a b key 32 = T) :
    Calls Try.prog 18 #[.agg (snA ⟨(a : Int), (b : Int), key⟩)] w fun r w' => r = .returned (.tuple #[.agg (secA (sealS T)), .int .i64 0]) ∧ Below w.heap.size w w' := by
  obtain ⟨A, hA⟩ : ∃ q, snA ⟨(a : Int), (b : Int), key⟩ = q := ⟨_, rfl⟩
  have hA0 : A[0]? = some (.int .u32 (a : Int)) := by rw [← hA, snA_0]
  have hA1 : A[1]? = some (.int .u32 (b : Int)) := by rw [← hA, snA_1]
  have hAk : ∀ i, i < 32 → A[2 + i]? = some (.int .u8 ((key i).toNat : Int)) := fun i hi => by rw [← hA, snA_key _ i hi]
  rw [hA]
  clear hA
  have hB : Below w.heap.size w ((w.alloc (.cells A 28)).alloc (.cells (secA secZ) 35)) := (below_alloc w _).alloc (by simp) _
  have hR1 : RowC ((w.alloc (.cells A 28)).alloc (.cells (secA secZ) 35)) w.heap.size A := (RowC.new w A _).kept (below_alloc _ _)
  have hR2 : ScR ((w.alloc (.cells A 28)).alloc (.cells (secA secZ) 35)) (w.heap.size + 1) secZ := by
    have := ScR.new (w.alloc (.cells A 28)) secZ 35
    rw [World.size_alloc] at this
    exact this
  have hz : ((a : Int) == 0) = false := beq_eq_false_iff_ne.2 (by omega)
  go_enter Try.func18, Try.ntmps18
  go_upto_region 1 with fail
  obtain ⟨g2, hg2⟩ : ∃ g, w.heap.size + 1 = g := ⟨_, rfl⟩
  obtain ⟨g1, hg1⟩ : ∃ g, w.heap.size = g := ⟨_, rfl⟩
  have hl2 : w.heap.size ≤ g2 := by omega
  rw [hg2] at hR2
  rw [hg1] at hR1
  simp only [hg2]
  simp only [hg1]
  generalize (w.alloc (.cells A 28)).alloc (.cells (secA secZ) 35) = X at hB hR1 hR2 ⊢
  clear hg1 hg2
  have c0 := hR1.cell 0
  rw [hA0] at c0
  have bX := below_alloc X (.cells (secA secZ) 35)
  have h4 : ScR (X.alloc (.cells (secA secZ) 35)) X.heap.size secZ := ScR.new _ _ _
  have hg4 : g1 < X.heap.size ∧ g2 < X.heap.size := ⟨hR1.lt, hR2.lt⟩
  have hl4 := hB.size
  have h1 := hR1.kept bX
  have h2 := hR2.kept bX
  have hB1 := hB.alloc hB.size (.cells (secA secZ) 35)
  clear hR1 hR2 hB bX
  go_upto_region 4 with fail
  generalize X.alloc (.cells (secA secZ) 35) = Y at h1 h2 h4 hB1 ⊢
  obtain ⟨g4, hg⟩ : ∃ q, X.heap.size = q := ⟨_, rfl⟩
  rw [hg] at h4 hg4 hl4
  simp only [hg]
  have hn41 : g4 ≠ g1 := by omega
  have hn42 : g4 ≠ g2 := by omega
  clear hg hg4 c0
  have q4 := h4.cell 0 (by omega)
  have f4 := h4.frozen 0
  have H4 : Hid (ScR (Y.setCell ⟨g4, 0, none⟩ (.int .u8 83)) g4 (upd secZ 0 83)) := h4.set 0 83 (by omega)
  have H1 : Hid (RowC (Y.setCell ⟨g4, 0, none⟩ (.int .u8 83)) g1 A) := h1.set_ne 0 (.int .u8 83) hn41
  have H2 : Hid (ScR (Y.setCell ⟨g4, 0, none⟩ (.int .u8 83)) g2 secZ) := h2.set_ne 0 (.int .u8 83) hn42
  have HB : Hid (Below w.heap.size w (Y.setCell ⟨g4, 0, none⟩ (.int .u8 83))) := hB1.setCell (p := ⟨g4, 0, none⟩) hl4 (.int .u8 83)
  clear h4 h1 h2 hB1
  go_upto_region 5 with fail
  generalize Y.setCell ⟨g4, 0, none⟩ (.int .u8 83) = Y1 at H4 H1 H2 HB ⊢
  obtain ⟨U0, hU0⟩ : ∃ q, upd secZ 0 83 = q := ⟨_, rfl⟩
  rw [hU0] at H4
  have c0 := H1.out.cell 0
  rw [hA0] at c0
  have k1 := put17_any U0 4 a
  have H4' := H4.out
  obtain ⟨r4, s4⟩ := H4'
  clear q4 f4
  go_wp2_with fail
  refine (k1 _ (by omega) ha).mono ?_
  rintro e w1 ⟨rfl, hb⟩
  obtain ⟨U1, hU1⟩ : ∃ q, putN U0 4 a 4 = q := ⟨_, rfl⟩
  rw [hU1]
  have h4 := H4.out.kept hb
  have h1 := H1.out.kept hb
  have h2 := H2.out.kept hb
  have hB2 := HB.out.trans (hb.mono HB.out.size)
  have K4 : Hid (ScR (w1.setRow g4 (secA U1)) g4 U1) := h4.rsame U1
  have K1 : Hid (RowC (w1.setRow g4 (secA U1)) g1 A) := h1.setRow_ne (secA U1) (fun e => hn41 e.symm)
  have K2 : Hid (ScR (w1.setRow g4 (secA U1)) g2 secZ) := h2.rne (secA U1) (fun e => hn42 e.symm)
  have KB : Hid _ := below_row hB2 hl4 (secA U1)
  obtain ⟨r4', s4'⟩ := h4
  clear hb k1 H4 H1 H2 HB h1 h2 hB2 c0 r4 s4
  go_upto_region 6 with fail
  generalize w1.setRow g4 (secA U1) = Y2 at K4 K1 K2 KB ⊢
  have c1 := K1.out.cell 1
  rw [hA1] at c1
  have k2 := put17_any U1 8 b
  have K4' := K4.out
  obtain ⟨r5, s5⟩ := K4'
  clear r4' s4'
  go_wp2_with fail
  refine (k2 _ (by omega) hb4).mono ?_
  rintro e w2 ⟨rfl, hb⟩
  have hU2 : putN U1 8 b 4 = sn2 a b key 0 := by rw [sn2_zero, ← hU1, ← hU0]; rfl
  rw [hU2]
  obtain ⟨U2, hU2'⟩ : ∃ q, sn2 a b key 0 = q := ⟨_, rfl⟩
  rw [hU2']
  have h4 := K4.out.kept hb
  have h1 := K1.out.kept hb
  have h2 := K2.out.kept hb
  have hB2 := KB.out.trans (hb.mono KB.out.size)
  have H4 : Hid (ScR (w2.setRow g4 (secA U2)) g4 U2) := h4.rsame U2
  have H1 : Hid (RowC (w2.setRow g4 (secA U2)) g1 A) := h1.setRow_ne (secA U2) (fun e => hn41 e.symm)
  have H2 : Hid (ScR (w2.setRow g4 (secA U2)) g2 secZ) := h2.rne (secA U2) (fun e => hn42 e.symm)
  have HB : Hid _ := below_row hB2 hl4 (secA U2)
  obtain ⟨r4', s4'⟩ := h4
  clear hb k2 K4 K1 K2 KB h1 h2 hB2 c1 r5 s5
  go_upto_region 7 with fail
  generalize w2.setRow g4 (secA U2) = Y3 at H4 H1 H2 HB ⊢
  clear r4' s4' hU1 hU2 hU0
  go_wp2_with fail
  go_loopw [5] (fun iv wr => ∃ i : Nat, i ≤ 32 ∧ iv = .int .i64 i ∧ ScR wr g4 (sn2 a b key i) ∧ RowC wr g1 A ∧ ScR wr g2 secZ ∧ Below w.heap.size w wr) (fun iv _ => 32 - (intOf iv).toNat)
  case atStart => exact ⟨0, by omega, rfl, by rw [hU2']; exact H4.out, H1.out, H2.out, HB.out⟩
  case round =>
    clear H4 H1 H2 HB hU2'
    obtain ⟨i, hi, rfl, h4, h1, h2, hB⟩ := hrel
    by_cases hlt : i < 32
    · have i0 : (i : Int) < 32 := by omega
      have c1 := h1.cell (2 + i)
      rw [hAk i hlt] at c1
      have q4 := h4.cell (12 + i) (by omega)
      have f4 := h4.frozen (12 + i)
      have e9 := h4.set (12 + i) (key i) (by omega)
      rw [← sn2_succ] at e9
      have H4 : Hid _ := e9
      have H1 : Hid _ := h1.set_ne (12 + i) (.int .u8 ((key i).toNat : Int)) hn41
      have H2 : Hid _ := h2.set_ne (12 + i) (.int .u8 ((key i).toNat : Int)) hn42
      have HB : Hid _ := hB.setCell (p := ⟨g4, 12 + i, none⟩) hl4 (.int .u8 ((key i).toNat : Int))
      have i2 : (12 : Int) + (i : Int) < 64 := by omega
      generalize sn2 a b key i = S1 at q4 f4
      have HI : Hid (i < 32) := hlt
      clear h4 h1 h2 hB e9 hi hlt
      go_wp2
      go_roundw
      case rel => exact ⟨i + 1, by have := HI.out; omega, by go_num, H4.out, H1.out, H2.out, HB.out⟩
      case measure => have := HI.out; simp [intOf]; omega
    · obtain rfl : i = 32 := by omega
      have kS := refSeal_any T
      rw [hT] at h4
      have h4' := h4
      obtain ⟨r4, q4⟩ := h4'
      go_wp2_with fail
      refine (kS _).mono ?_
      rintro e wz ⟨rfl, hb⟩
      have h2z := h2.kept hb
      have hBz := hB.trans (hb.mono hB.size)
      have HR : Hid _ := h2z.rsame (sealS T)
      have HB : Hid _ := below_row hBz hl2 (secA (sealS T))
      obtain ⟨r2, q2⟩ := h2z
      clear kS hb h1 h2 h4 hB hBz r4 q4
      go_wp2
      exact sec_bodyPost2 2 3 g2 (sealS T) rfl rfl rfl HR.out ⟨rfl, HB.out⟩
theorem rPutSnap_any (a b : Nat) (key : Nat → UInt8) (w : World) (ha : a < 4294967296) (hb : b < 4294967296) :
    Calls Try.prog 18 #[.agg (snA ⟨(a : Int), (b : Int), key⟩)] w fun r w' => r = .returned (.tuple #[.agg (secA (psS a b key)), .int .i64 (psE a)]) ∧ Below w.heap.size w w' := by
  by_cases h0 : a = 0
  · subst h0
    exact rPutSnap_no b key w
  · have e1 : psS a b key = sealS (sn2 a b key 32) := by unfold psS; rw [beq_eq_false_iff_ne.2 h0, sn2_full]; rfl
    have e2 : psE a = 0 := by unfold psE; rw [beq_eq_false_iff_ne.2 h0]; rfl
    rw [e1, e2]
    exact rPutSnap_yes a b key w h0 ha hb _ rfl
end Go.Proofs.Ytfdigmlhjjdggaa
