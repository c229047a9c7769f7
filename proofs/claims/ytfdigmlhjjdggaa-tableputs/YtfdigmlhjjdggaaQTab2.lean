import Derived.Test.YtfdigmlhjjdggaaQTab1
import Derived.Test.YtfdigmlhjjdggaaQDev3
import Derived.Test.YtfdigmlhjjdggaaQNam1
namespace Go.Proofs.Ytfdigmlhjjdggaa
open Go.RowKit

/-! assayref17: PutTag -/
theorem ScR.rne {w : World} {g k : Nat} {s : Sc} (h : ScR w k s) (c : Array Value) (hn : k ≠ g) : ScR (w.setRow g c) k s := by
  unfold ScR rowOk rowAt at *
  rw [setRow_other w g k c hn]
  exact h
theorem ScR.rsame {w : World} {g : Nat} {s : Sc} (h : ScR w g s) (t : Sc) : ScR (w.setRow g (secA t)) g t := ⟨rowOk_setRow_same _ _ _ h.1 (secA_size _), rowAt_setRow_same _ _ _ h.1⟩
def tag1 (l : List UInt8) (i : Nat) : Sc := fun j => if j = 0 then 84 else if j = 1 then UInt8.ofNat l.length else if j < 2 + i then lB l (j - 2) else 0
def tag2 (l : List UInt8) (k : Nat → UInt8) (m : Nat) : Sc := fun j => if j = 0 then 84 else if j = 1 then UInt8.ofNat l.length else if j < 26 then lB l (j - 2) else if j < 26 + m then k (j - 26) else 0
theorem lB_past (l : List UInt8) (i : Nat) (h : l.length ≤ i) : lB l i = 0 := by unfold lB; rw [List.getElem?_eq_none h]; rfl
theorem tag1_succ (l : List UInt8) (i : Nat) : tag1 l (i + 1) = upd (tag1 l i) (2 + i) (lB l i) := by
  funext j
  unfold tag1 upd
  by_cases h : j = 2 + i
  · subst h; simp only [if_true, if_neg (show ¬ 2 + i = 0 by omega), if_neg (show ¬ 2 + i = 1 by omega), if_pos (show 2 + i < 2 + (i + 1) by omega), show 2 + i - 2 = i by omega]
  · by_cases h2 : j < 2 + i
    · simp only [if_neg h, if_pos h2, if_pos (show j < 2 + (i + 1) by omega)]
    · simp only [if_neg h, if_neg h2, if_neg (show ¬ j < 2 + (i + 1) by omega)]
theorem tag2_succ (l : List UInt8) (k : Nat → UInt8) (m : Nat) : tag2 l k (m + 1) = upd (tag2 l k m) (26 + m) (k m) := by
  funext j
  unfold tag2 upd
  by_cases h : j = 26 + m
  · subst h; simp only [if_true, if_neg (show ¬ 26 + m = 0 by omega), if_neg (show ¬ 26 + m = 1 by omega), if_neg (show ¬ 26 + m < 26 by omega), if_pos (show 26 + m < 26 + (m + 1) by omega), show 26 + m - 26 = m by omega]
  · by_cases h2 : j < 26 + m
    · simp only [if_neg h, if_pos h2, if_pos (show j < 26 + (m + 1) by omega)]
    · simp only [if_neg h, if_neg h2, if_neg (show ¬ j < 26 + (m + 1) by omega)]
theorem tag1_zero (l : List UInt8) : tag1 l 0 = upd (upd secZ 0 84) 1 (UInt8.ofNat l.length) := by
  funext j
  unfold tag1 upd secZ
  by_cases h0 : j = 0
  · subst h0; simp
  · by_cases h1 : j = 1
    · subst h1; simp
    · simp only [if_neg h0, if_neg h1, if_neg (show ¬ j < 2 + 0 by omega)]
theorem tag12 (l : List UInt8) (k : Nat → UInt8) (h : l.length ≤ 24) : tag1 l l.length = tag2 l k 0 := by
  funext j
  unfold tag1 tag2
  by_cases h0 : j = 0
  · simp only [if_pos h0]
  · by_cases h1 : j = 1
    · simp only [if_neg h0, if_pos h1]
    · by_cases h2 : j < 2 + l.length
      · simp only [if_neg h0, if_neg h1, if_pos h2, if_pos (show j < 26 by omega)]
      · by_cases h3 : j < 26
        · simp only [if_neg h0, if_neg h1, if_neg h2, if_pos h3, lB_past l (j - 2) (by omega)]
        · simp only [if_neg h0, if_neg h1, if_neg h2, if_neg h3]
theorem tag2_full (l : List UInt8) (k : Nat → UInt8) : tag2 l k 32 = tagB l k := rfl
set_option linter.unusedSimpArgs false in
set_option maxRecDepth 100000 in
set_option maxHeartbeats 1600000 in
theorem rPutTag_no (nm : ByteArray) (key : Nat → UInt8) (w : World) (h63 : nm.size ≤ 9223372036854775807) (hN : isN (lS nm) = false) :
    Calls Try.prog 17 #[.agg (tgA ⟨nm, key⟩)] w fun r w' => r = .returned (.tuple #[.agg (secA secZ), .int .i64 36]) ∧ Below w.heap.size w w' := by
  have hI := fun W => refIs_any nm W h63
  simp only [hN] at hI
  have hB : Below w.heap.size w ((w.alloc (.cells (tgA ⟨nm, key⟩) 25)).alloc (.cells (secA secZ) 35)) := (below_alloc w _).alloc (by simp) _
  have hR1 : RowC ((w.alloc (.cells (tgA ⟨nm, key⟩) 25)).alloc (.cells (secA secZ) 35)) w.heap.size (tgA ⟨nm, key⟩) := (RowC.new w (tgA ⟨nm, key⟩) _).kept (below_alloc _ _)
  have hR2 : ScR ((w.alloc (.cells (tgA ⟨nm, key⟩) 25)).alloc (.cells (secA secZ) 35)) (w.heap.size + 1) secZ := by
    have := ScR.new (w.alloc (.cells (tgA ⟨nm, key⟩) 25)) secZ 35
    rw [World.size_alloc] at this
    exact this
  go_enter Try.func17, Try.ntmps17
  go_upto_region 1 with fail
  obtain ⟨g2, hg2⟩ : ∃ g, w.heap.size + 1 = g := ⟨_, rfl⟩
  obtain ⟨g1, hg1⟩ : ∃ g, w.heap.size = g := ⟨_, rfl⟩
  have hl1 : w.heap.size ≤ g1 := by omega
  have hl2 : w.heap.size ≤ g2 := by omega
  have hn12 : g1 ≠ g2 := by omega
  rw [hg2] at hR2
  rw [hg1] at hR1
  simp only [hg2]
  simp only [hg1]
  generalize (w.alloc (.cells (tgA ⟨nm, key⟩) 25)).alloc (.cells (secA secZ) 35) = X at hB hR1 hR2 ⊢
  clear hg1 hg2
  have c0 := hR1.cell 0
  rw [tgA_0] at c0
  go_wp2_with fail
  refine (hI _).mono ?_
  rintro e w1 ⟨rfl, hb⟩
  have h1 := hR1.kept hb
  have h2 := hR2.kept hb
  have hB1 := hB.trans (hb.mono hB.size)
  clear hI hR1 hR2 hB hb c0
  have HB : Hid _ := below_row hB1 hl2 (secA secZ)
  have HR : Hid _ := h2.rsame secZ
  have h2' := h2
  obtain ⟨r2, q2⟩ := h2'
  clear h1 h2 hB1
  go_wp2
  exact sec_bodyPost2 2 3 g2 secZ rfl rfl rfl HR.out ⟨rfl, HB.out⟩
set_option linter.unusedSimpArgs false in
set_option maxRecDepth 100000 in
set_option maxHeartbeats 1600000 in
theorem rPutTag_yes (nm : ByteArray) (key : Nat → UInt8) (w : World) (l : List UInt8) (hl : lS nm = l) (h1l : 1 ≤ l.length) (h24 : l.length ≤ 24) (hN : isN l = true) (T : Sc) (hT : tag2 l key 32 = T) :
    Calls Try.prog 17 #[.agg (tgA ⟨nm, key⟩)] w fun r w' => r = .returned (.tuple #[.agg (secA (sealS T)), .int .i64 0]) ∧ Below w.heap.size w w' := by
  have hls : nm.size = l.length := by rw [← lS_len, hl]
  have hI := fun W => refIs_any nm W (by omega)
  simp only [hl, hN] at hI
  have hB : Below w.heap.size w ((w.alloc (.cells (tgA ⟨nm, key⟩) 25)).alloc (.cells (secA secZ) 35)) := (below_alloc w _).alloc (by simp) _
  have hR1 : RowC ((w.alloc (.cells (tgA ⟨nm, key⟩) 25)).alloc (.cells (secA secZ) 35)) w.heap.size (tgA ⟨nm, key⟩) := (RowC.new w (tgA ⟨nm, key⟩) _).kept (below_alloc _ _)
  have hR2 : ScR ((w.alloc (.cells (tgA ⟨nm, key⟩) 25)).alloc (.cells (secA secZ) 35)) (w.heap.size + 1) secZ := by
    have := ScR.new (w.alloc (.cells (tgA ⟨nm, key⟩) 25)) secZ 35
    rw [World.size_alloc] at this
    exact this
  go_enter Try.func17, Try.ntmps17
  go_upto_region 1 with fail
  obtain ⟨g2, hg2⟩ : ∃ g, w.heap.size + 1 = g := ⟨_, rfl⟩
  obtain ⟨g1, hg1⟩ : ∃ g, w.heap.size = g := ⟨_, rfl⟩
  have hl1 : w.heap.size ≤ g1 := by omega
  have hl2 : w.heap.size ≤ g2 := by omega
  have hn12 : g1 ≠ g2 := by omega
  rw [hg2] at hR2
  rw [hg1] at hR1
  simp only [hg2]
  simp only [hg1]
  generalize (w.alloc (.cells (tgA ⟨nm, key⟩) 25)).alloc (.cells (secA secZ) 35) = X at hB hR1 hR2 ⊢
  clear hg1 hg2
  have c0 := hR1.cell 0
  rw [tgA_0] at c0
  go_wp2_with fail
  refine (hI _).mono ?_
  rintro e w1 ⟨rfl, hb⟩
  have h1 := hR1.kept hb
  have h2 := hR2.kept hb
  have hB1 := hB.trans (hb.mono hB.size)
  clear hI hR1 hR2 hB hb c0
  have bX := below_alloc w1 (.cells (secA secZ) 35)
  have h4 : ScR (w1.alloc (.cells (secA secZ) 35)) w1.heap.size secZ := ScR.new _ _ _
  have hg4 : g1 < w1.heap.size ∧ g2 < w1.heap.size := ⟨h1.lt, h2.lt⟩
  have hl4 := hB1.size
  replace h1 := h1.kept bX
  replace h2 := h2.kept bX
  replace hB1 := hB1.alloc hB1.size (.cells (secA secZ) 35)
  go_upto_region 4 with fail
  generalize w1.alloc (.cells (secA secZ) 35) = Y at h1 h2 h4 hB1 ⊢
  obtain ⟨g4, hg⟩ : ∃ q, w1.heap.size = q := ⟨_, rfl⟩
  rw [hg] at h4 hg4 hl4
  simp only [hg]
  have hn41 : g4 ≠ g1 := by omega
  have hn42 : g4 ≠ g2 := by omega
  clear hg bX hg4
  have q4 := h4.cell 0 (by omega)
  have f4 := h4.frozen 0
  have H4 : Hid (ScR (Y.setCell ⟨g4, 0, none⟩ (.int .u8 84)) g4 (upd secZ 0 84)) := h4.set 0 84 (by omega)
  have H1 : Hid (RowC (Y.setCell ⟨g4, 0, none⟩ (.int .u8 84)) g1 (tgA ⟨nm, key⟩)) := h1.set_ne 0 (.int .u8 84) hn41
  have H2 : Hid (ScR (Y.setCell ⟨g4, 0, none⟩ (.int .u8 84)) g2 secZ) := h2.set_ne 0 (.int .u8 84) hn42
  have HB : Hid (Below w.heap.size w (Y.setCell ⟨g4, 0, none⟩ (.int .u8 84))) := hB1.setCell (p := ⟨g4, 0, none⟩) hl4 (.int .u8 84)
  clear h4 h1 h2 hB1
  go_upto_region 5 with fail
  generalize Y.setCell ⟨g4, 0, none⟩ (.int .u8 84) = Y1 at H4 H1 H2 HB ⊢
  have c0 := H1.out.cell 0
  rw [tgA_0] at c0
  replace q4 := H4.out.cell 1 (by omega)
  replace f4 := H4.out.frozen 1
  have hu : (UInt8.ofNat l.length).toNat = l.length := by rw [UInt8.toNat_ofNat']; omega
  have K4 : Hid (ScR (Y1.setCell ⟨g4, 1, none⟩ (.int .u8 (l.length : Int))) g4 (tag1 l 0)) := by
    show ScR _ _ _
    rw [tag1_zero, ← hu]
    have := H4.out.set 1 (UInt8.ofNat l.length) (by omega)
    rw [hu] at this ⊢
    exact this
  have K1 : Hid _ := H1.out.set_ne 1 (.int .u8 (l.length : Int)) hn41
  have K2 : Hid _ := H2.out.set_ne 1 (.int .u8 (l.length : Int)) hn42
  have KB : Hid _ := HB.out.setCell (p := ⟨g4, 1, none⟩) hl4 (.int .u8 (l.length : Int))
  have l1 : (l.length : Int) < 256 := by omega
  clear H4 H1 H2 HB hu
  go_upto_region 6 with fail
  generalize Y1.setCell ⟨g4, 1, none⟩ (.int .u8 (l.length : Int)) = Y2 at K4 K1 K2 KB ⊢
  clear c0 q4 f4 l1
  obtain ⟨n, hn⟩ : ∃ q, l.length = q := ⟨_, rfl⟩
  rw [hn] at hls h24 h1l
  go_wp2_with fail
  go_loopw [5] (fun iv wr => ∃ i : Nat, i ≤ n ∧ iv = .int .i64 i ∧ ScR wr g4 (tag1 l i) ∧ RowC wr g1 (tgA ⟨nm, key⟩) ∧ ScR wr g2 secZ ∧ Below w.heap.size w wr) (fun iv _ => n - (intOf iv).toNat)
  case atStart => exact ⟨0, by omega, rfl, K4.out, K1.out, K2.out, KB.out⟩
  case round =>
    clear K4 K1 K2 KB
    obtain ⟨i, hi, rfl, h4, h1, h2, hB⟩ := hrel
    have c0 := h1.cell 0
    rw [tgA_0] at c0
    by_cases hlt : i < n
    · have i0 : (i : Int) < (n : Int) := by omega
      have i1 : (i : Int) < (nm.size : Int) := by omega
      have hs := run_sAt
      have q4 := h4.cell (2 + i) (by omega)
      have f4 := h4.frozen (2 + i)
      have e9 := h4.set (2 + i) (lB l i) (by omega)
      rw [← tag1_succ] at e9
      have H4 : Hid _ := e9
      have H1 : Hid _ := h1.set_ne (2 + i) (.int .u8 ((lB l i).toNat : Int)) hn41
      have H2 : Hid _ := h2.set_ne (2 + i) (.int .u8 ((lB l i).toNat : Int)) hn42
      have HB : Hid _ := hB.setCell (p := ⟨g4, 2 + i, none⟩) hl4 (.int .u8 ((lB l i).toNat : Int))
      have i2 : (2 : Int) + (i : Int) < 64 := by omega
      generalize tag1 l i = S1 at q4 f4
      have HI : Hid (i < n) := hlt
      clear h4 h1 h2 hB e9 hi hlt hs
      go_wp2
      go_roundw
      case rel => exact ⟨i + 1, by have := HI.out; omega, by go_num, H4.out, H1.out, H2.out, HB.out⟩
      case measure => have := HI.out; simp [intOf]; omega
    · obtain rfl : n = i := by omega
      rw [← hn, tag12 l key (by omega)] at h4
      have i0 : ¬ (n : Int) < (n : Int) := by omega
      have H4 : Hid _ := h4
      have H1 : Hid _ := h1
      have H2 : Hid _ := h2
      have HB : Hid _ := hB
      clear h4 h1 h2 hB
      go_wp2_with fail
      clear c0
      go_loopw [6] (fun iv wr => ∃ i : Nat, i ≤ 32 ∧ iv = .int .i64 i ∧ ScR wr g4 (tag2 l key i) ∧ RowC wr g1 (tgA ⟨nm, key⟩) ∧ ScR wr g2 secZ ∧ Below w.heap.size w wr) (fun iv _ => 32 - (intOf iv).toNat)
      case atStart => exact ⟨0, by omega, rfl, H4.out, H1.out, H2.out, HB.out⟩
      case round =>
        clear H4 H1 H2 HB i0
        obtain ⟨i, hi, rfl, h4, h1, h2, hB⟩ := hrel
        by_cases hlt : i < 32
        · have i0 : (i : Int) < 32 := by omega
          have c1 := h1.cell (1 + i)
          rw [tgA_key _ i hlt] at c1
          have q4 := h4.cell (26 + i) (by omega)
          have f4 := h4.frozen (26 + i)
          have e9 := h4.set (26 + i) (key i) (by omega)
          rw [← tag2_succ] at e9
          have H4 : Hid _ := e9
          have H1 : Hid _ := h1.set_ne (26 + i) (.int .u8 ((key i).toNat : Int)) hn41
          have H2 : Hid _ := h2.set_ne (26 + i) (.int .u8 ((key i).toNat : Int)) hn42
          have HB : Hid _ := hB.setCell (p := ⟨g4, 26 + i, none⟩) hl4 (.int .u8 ((key i).toNat : Int))
          have i2 : (26 : Int) + (i : Int) < 64 := by omega
          generalize tag2 l key i = S1 at q4 f4
          have HI : Hid (i < 32) := hlt
          clear h4 h1 h2 hB e9 hi hlt
          go_wp2
          go_roundw
          case rel => exact ⟨i + 1, by have := HI.out; omega, by go_num, H4.out, H1.out, H2.out, HB.out⟩
          case measure => have := HI.out; simp [intOf]; omega
        · obtain rfl : i = 32 := by omega
          have kS := refSeal_any T
          rw [hT] at h4
          have h4' := h4
          obtain ⟨r4, q4⟩ := h4'
          go_wp2_with fail
          refine (kS _).mono ?_
          rintro e wz ⟨rfl, hb⟩
          have h2z := h2.kept hb
          have hBz := hB.trans (hb.mono hB.size)
          have HR : Hid _ := h2z.rsame (sealS T)
          have HB : Hid _ := below_row hBz hl2 (secA (sealS T))
          obtain ⟨r2, q2⟩ := h2z
          clear kS hb h1 h2 h4 hB hBz r4 q4
          go_wp2
          exact sec_bodyPost2 2 3 g2 (sealS T) rfl rfl rfl HR.out ⟨rfl, HB.out⟩
theorem rPutTag_any (nm : ByteArray) (key : Nat → UInt8) (w : World) (h63 : nm.size ≤ 9223372036854775807) :
    Calls Try.prog 17 #[.agg (tgA ⟨nm, key⟩)] w fun r w' => r = .returned (.tuple #[.agg (secA (ptS (lS nm) key)), .int .i64 (ptE (lS nm))]) ∧ Below w.heap.size w w' := by
  cases hN : isN (lS nm)
  · have e1 : ptS (lS nm) key = secZ := by unfold ptS; rw [hN]; rfl
    have e2 : ptE (lS nm) = 36 := by unfold ptE; rw [hN]; rfl
    rw [e1, e2]
    exact rPutTag_no nm key w h63 hN
  · have e1 : ptS (lS nm) key = sealS (tag2 (lS nm) key 32) := by unfold ptS; rw [hN]; rfl
    have e2 : ptE (lS nm) = 0 := by unfold ptE; rw [hN]; rfl
    rw [e1, e2]
    obtain ⟨a, b⟩ := isN_len hN
    exact rPutTag_yes nm key w (lS nm) rfl a b hN _ rfl
end Go.Proofs.Ytfdigmlhjjdggaa
