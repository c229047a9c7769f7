import Derived.Test.YtfdigmlhjjdggaaQTab8
namespace Go.Proofs.Ytfdigmlhjjdggaa
open Go.RowKit

/-! TableBack -/
set_option linter.unusedSimpArgs false in
set_option maxRecDepth 100000 in
set_option maxHeartbeats 6400000 in
theorem lawTableBack_any (O : TabOk) (nm : ByteArray) (key : Nat → UInt8) (a b : Nat) (ly : Nat → UInt8) (l : List Nat) (x : Option Addr) (n c : Nat) (w : World) (hnm : nm.size ≤ 9223372036854775807) (ha : a < 4294967296) (hb4 : b < 4294967296) (hn : l.length = n) (hnc : n ≤ c) (hn47 : n * 4 ≤ 140737488351232) (hv4 : ∀ (i : Nat) (v : Nat), l[i]? = some v → v < 4294967296) (hl : IsG w (.slice x n c) (uV l)) :
    Calls Try.prog 4 #[.agg (tgA ⟨nm, key⟩), .agg (snA ⟨(a : Int), (b : Int), ly⟩), .slice x n c] w fun e w' => e = .returned (.bool true) ∧ Below w.heap.size w w' := by
  have kK := known17_any O
  have k1 := fun W => O.pt nm key W hnm
  have k3 := fun W => O.ps a b ly W ha hb4
  have kC := fun W (hb : Below w.heap.size w W) => O.pc l x n c W hn hnc (by omega) hv4 (hl.kept hb)
  have t1 : isN (lS nm) = true → gtK (ptS (lS nm) key) = 2 ∧ tgEq ⟨⟨(gtL (ptS (lS nm) key)).toArray⟩, gtD (ptS (lS nm) key)⟩ ⟨nm, key⟩ = true ∧ ptE (lS nm) = 0 := fun h => by
    obtain ⟨b1, b2, b3⟩ := tag_back (k := key) h
    have e1 : ptS (lS nm) key = tagS (lS nm) key := by unfold ptS; rw [h]; rfl
    rw [e1]
    refine ⟨by unfold gtK; rw [sl_ne (tagS_sl _ _), b3]; rfl, ?_, by unfold ptE; rw [h]; rfl⟩
    have e2 : ByteArray.mk (gtL (tagS (lS nm) key)).toArray = nm := lS_inj (by rw [lS_mk]; unfold gtL; rw [b3, b1]; rfl)
    rw [e2]
    unfold tgEq
    rw [(dg_secEq_iff _ _).2 (fun i hi => by unfold gtD; rw [b3]; exact b2 i hi)]
    simp
  have t2 : isN (lS nm) = false → ptE (lS nm) = 36 := fun h => by unfold ptE; rw [h]; rfl
  have s1 : a ≠ 0 → gsK (psS a b ly) = 2 ∧ snEq ⟨(gsA (psS a b ly) : Int), (gsB (psS a b ly) : Int), gsD (psS a b ly)⟩ ⟨(a : Int), (b : Int), ly⟩ = true ∧ psE a = 0 := fun h => by
    obtain ⟨b1, b2, b3, b4⟩ := snap_back (k := ly) h ha hb4
    have e1 : psS a b ly = snS a b ly := by unfold psS; rw [beq_eq_false_iff_ne.2 h]; rfl
    rw [e1]
    refine ⟨by unfold gsK; rw [sl_ne (snS_sl _ _ _), b4]; rfl, ?_, by unfold psE; rw [beq_eq_false_iff_ne.2 h]; rfl⟩
    have e2 : gsA (snS a b ly) = a := by unfold gsA; rw [b4, b1]; rfl
    have e3 : gsB (snS a b ly) = b := by unfold gsB; rw [b4, b2]; rfl
    rw [e2, e3]
    unfold snEq
    rw [(dg_secEq_iff _ _).2 (fun i hi => by unfold gsD; rw [b4]; exact b3 i hi)]
    simp
  have s2 : a = 0 → psE a = 1 := fun h => by subst h; rfl
  have c1 : n ≤ 15 → gcB (pcS l) (n : Int) = true ∧ gcL (pcS l) (n : Int) = l ∧ pcE l = 0 := fun h => by
    have e1 : pcS l = cnS l := by unfold pcS; rw [decide_eq_true (by omega)]; rfl
    obtain ⟨b1, b2⟩ := cnt_back hv4 (by omega)
    rw [e1, ← hn]
    exact ⟨b1, b2, by unfold pcE; rw [decide_eq_true (by omega)]; rfl⟩
  have c2 : ¬ n ≤ 15 → pcE l = 2 := fun h => by unfold pcE; rw [decide_eq_false (by omega)]; rfl
  have kG := fun W => O.gt (ptS (lS nm) key) W
  have kH := fun W => O.gs (psS a b ly) W
  have kN := fun W => O.gc (pcS l) (n : Int) W (by omega) (by omega)
  unfold GtP at kG
  unfold GsP at kH
  unfold GcP at kN
  generalize ptS (lS nm) key = P1 at k1 kG t1
  generalize psS a b ly = P2 at k3 kH s1
  generalize pcS l = P3 at kC kN c1
  generalize ptE (lS nm) = E1 at k1 t1 t2
  generalize psE a = E2 at k3 s1 s2
  generalize pcE l = E3 at kC c1 c2
  generalize hG1 : (⟨⟨(gtL P1).toArray⟩, gtD P1⟩ : Tg) = G1 at kG t1
  generalize hG2 : (⟨(gsA P2 : Int), (gsB P2 : Int), gsD P2⟩ : Sn) = G2 at kH s1
  generalize gtK P1 = K1 at kG t1
  generalize gsK P2 = K2 at kH s1
  have hsm := fun (y : Option Addr) (d : Nat) (W : World) (h1 : IsG W (.slice y n d) (uV l)) (h2 : IsG W (.slice x n c) (uV l)) => same17_any l y x n d c W hn h1 h2 (by omega)
  obtain ⟨A1, hA1⟩ : ∃ q, tgA ⟨nm, key⟩ = q := ⟨_, rfl⟩
  obtain ⟨A2, hA2⟩ : ∃ q, snA ⟨(a : Int), (b : Int), ly⟩ = q := ⟨_, rfl⟩
  have z1 : A1.size = 33 := by rw [← hA1, tgA_size]
  have z2 : A2.size = 34 := by rw [← hA2, snA_size]
  have z3 : A2[0]? = some (.int .u32 (a : Int)) := by rw [← hA2, snA_0]
  simp only [hA1] at k1
  simp only [hA2] at k3
  rw [hA1, hA2]
  have hB : Below w.heap.size w ((w.alloc (.cells A1 25)).alloc (.cells A2 28)) := (below_alloc w _).alloc (by simp) _
  have hR3 : RowC ((w.alloc (.cells A1 25)).alloc (.cells A2 28)) w.heap.size A1 := (RowC.new w A1 _).kept (below_alloc _ _)
  have hR4 : RowC ((w.alloc (.cells A1 25)).alloc (.cells A2 28)) (w.heap.size + 1) A2 := by
    have := RowC.new (w.alloc (.cells A1 25)) A2 28
    rw [World.size_alloc] at this
    exact this
  go_enter Try.func4, Try.ntmps4
  go_upto_region 1 with fail
  obtain ⟨g4, hg4⟩ : ∃ g, w.heap.size + 1 = g := ⟨_, rfl⟩
  obtain ⟨g3, hg3⟩ : ∃ g, w.heap.size = g := ⟨_, rfl⟩
  rw [hg4] at hR4
  rw [hg3] at hR3
  simp only [hg4]
  simp only [hg3]
  have HA : Hid (tgA ⟨nm, key⟩ = A1 ∧ snA ⟨(a : Int), (b : Int), ly⟩ = A2) := ⟨hA1, hA2⟩
  generalize (w.alloc (.cells A1 25)).alloc (.cells A2 28) = X at hB hR3 hR4 ⊢
  clear hg3 hg4 hA1 hA2
  go_wp2_with fail
  refine (kK _).mono ?_
  rintro e w1 ⟨rfl, hb⟩
  replace hR3 := hR3.kept hb
  replace hR4 := hR4.kept hb
  replace hB := hB.trans (hb.mono hB.size)
  clear kK hb
  have hR3' := hR3
  obtain ⟨r3, q3⟩ := hR3'
  go_wp2_with fail
  refine (k1 _).mono ?_
  rintro e w2 ⟨rfl, hb⟩
  have hgl : g3 < w2.heap.size ∧ g4 < w2.heap.size ∧ w.heap.size ≤ w2.heap.size := ⟨(hR3.kept hb).lt, (hR4.kept hb).lt, Nat.le_trans hB.size hb.size⟩
  replace hR3 := (hR3.kept hb).kept (below_alloc w2 (.cells (secA P1) 35))
  replace hR4 := (hR4.kept hb).kept (below_alloc w2 (.cells (secA P1) 35))
  replace hB := (hB.trans (hb.mono hB.size))
  replace hB := hB.alloc hB.size (.cells (secA P1) 35)
  have h7 : ScR (w2.alloc (.cells (secA P1) 35)) w2.heap.size P1 := ScR.new _ _ _
  clear k1 hb r3 q3
  go_upto_region 4 with fail
  generalize w2.alloc (.cells (secA P1) 35) = X1 at hR3 hR4 hB h7 ⊢
  obtain ⟨g7, hg7⟩ : ∃ q, w2.heap.size = q := ⟨_, rfl⟩
  rw [hg7] at h7 hgl
  simp only [hg7]
  have hn73 : g7 ≠ g3 := by omega
  have hn74 : g7 ≠ g4 := by omega
  have hl7 : w.heap.size ≤ g7 := hgl.2.2
  clear hg7 hgl
  cases hN : isN (lS nm)
  · have p1 := t2 hN
    subst p1
    go_upto_region 8 with fail
    have hR4' := hR4
    obtain ⟨r4, q4⟩ := hR4'
    go_wp2_with fail
    refine (k3 _).mono ?_
    rintro e w4 ⟨rfl, hb⟩
    replace hR4 := hR4.kept hb
    replace h7 := h7.kept hb
    replace hB := hB.trans (hb.mono hB.size)
    have K7 : Hid (ScR (w4.setRow g7 (secA P2)) g7 P2) := h7.rsame P2
    have K4 : Hid (RowC (w4.setRow g7 (secA P2)) g4 A2) := hR4.setRow_ne (secA P2) (fun e => hn74 e.symm)
    have KB : Hid (Below w.heap.size w (w4.setRow g7 (secA P2))) := below_row hB hl7 (secA P2)
    obtain ⟨r7, q7⟩ := h7
    clear k3 hb r4 q4 hR3 hR4 hB
    go_upto_region 9 with fail
    generalize w4.setRow g7 (secA P2) = X3 at K7 K4 KB ⊢
    have c0 := K4.out.cell 0
    rw [z3] at c0
    have h7 := K7.out
    have hR4 := K4.out
    have hB := KB.out
    clear K7 K4 KB r7 q7
    by_cases hA0 : a ≠ 0
    · obtain ⟨p1, p2, p3⟩ := s1 hA0
      subst p1 p3
      have a9 : (a : Int) ≠ 0 := by omega
      have a0 : ((a : Int) != 0) = true := by simp; omega
      clear a9
      go_upto_region 12 with fail
      clear c0
      have h7' := h7
      obtain ⟨r7, q7⟩ := h7'
      go_wp2_with fail
      refine (kH _).mono ?_
      rintro e w5 ⟨rfl, hb⟩
      have h11 : RowC (w5.alloc (.cells (snA G2) 28)) w5.heap.size (snA G2) := RowC.new _ _ _
      replace hR4 := (hR4.kept hb).kept (below_alloc w5 (.cells (snA G2) 28))
      replace h7 := (h7.kept hb).kept (below_alloc w5 (.cells (snA G2) 28))
      replace hB := (hB.trans (hb.mono hB.size))
      replace hB := hB.alloc hB.size (.cells (snA G2) 28)
      clear kH hb r7 q7
      go_upto_region 13 with fail
      generalize w5.alloc (.cells (snA G2) 28) = X4 at hR4 hB h7 h11 ⊢
      generalize w5.heap.size = g11 at h11 ⊢
      obtain ⟨r4, q4⟩ := hR4
      rw [← HA.out.2] at q4
      obtain ⟨r11, q11⟩ := h11
      go_upto_region 15 with fail
      clear r4 q4 r11 q11 p2 a0
      go_wp2_with fail
      refine (kC _ hB).mono ?_
      rintro e w6 ⟨rfl, hb⟩
      replace h7 := h7.kept hb
      replace hB := hB.trans (hb.mono hB.size)
      have K7 : Hid (ScR (w6.setRow g7 (secA P3)) g7 P3) := h7.rsame P3
      have KB : Hid (Below w.heap.size w (w6.setRow g7 (secA P3))) := below_row hB hl7 (secA P3)
      obtain ⟨r7, q7⟩ := h7
      clear kC hb hB
      go_upto_region 16 with fail
      generalize w6.setRow g7 (secA P3) = X5 at K7 KB ⊢
      have h7 := K7.out
      have hB := KB.out
      clear K7 KB r7 q7
      by_cases hC : n ≤ 15
      · obtain ⟨p1, p2, p3⟩ := c1 hC
        subst p3
        rw [p1, p2] at kN
        have y1 : (n : Int) < 16 := by omega
        have h7' := h7
        obtain ⟨r7, q7⟩ := h7'
        go_wp2_with fail
        refine (kN _).mono ?_
        rintro e w7 ⟨⟨v7, rfl, oV⟩, hb⟩
        obtain ⟨xv, cv, rfl⟩ := oV.isG.len
        rw [uV_len, hn] at oV ⊢
        have hBz := hB.trans (hb.mono hB.size)
        have kS := hsm xv cv w7 oV.isG (hl.kept hBz)
        clear kN hb hB r7 q7 h7
        go_wp2_with fail
        refine kS.mono ?_
        rintro e w8 ⟨rfl, hb⟩
        have hBy := hBz.trans (hb.mono hBz.size)
        clear kS hb hBz
        go_wp2
        go_ret
        exact ⟨rfl, hBy⟩
      · have p1 := c2 hC
        subst p1
        have y1 : ¬ (n : Int) < 16 := by omega
        go_wp2
        go_ret
        exact ⟨rfl, hB⟩
    · replace hA0 : a = 0 := by omega
      have p1 := s2 hA0
      subst p1
      subst hA0
      go_upto_region 15 with fail
      clear c0
      go_wp2_with fail
      refine (kC _ hB).mono ?_
      rintro e w6 ⟨rfl, hb⟩
      replace h7 := h7.kept hb
      replace hB := hB.trans (hb.mono hB.size)
      have K7 : Hid (ScR (w6.setRow g7 (secA P3)) g7 P3) := h7.rsame P3
      have KB : Hid (Below w.heap.size w (w6.setRow g7 (secA P3))) := below_row hB hl7 (secA P3)
      obtain ⟨r7, q7⟩ := h7
      clear kC hb hB
      go_upto_region 16 with fail
      generalize w6.setRow g7 (secA P3) = X5 at K7 KB ⊢
      have h7 := K7.out
      have hB := KB.out
      clear K7 KB r7 q7
      by_cases hC : n ≤ 15
      · obtain ⟨p1, p2, p3⟩ := c1 hC
        subst p3
        rw [p1, p2] at kN
        have y1 : (n : Int) < 16 := by omega
        have h7' := h7
        obtain ⟨r7, q7⟩ := h7'
        go_wp2_with fail
        refine (kN _).mono ?_
        rintro e w7 ⟨⟨v7, rfl, oV⟩, hb⟩
        obtain ⟨xv, cv, rfl⟩ := oV.isG.len
        rw [uV_len, hn] at oV ⊢
        have hBz := hB.trans (hb.mono hB.size)
        have kS := hsm xv cv w7 oV.isG (hl.kept hBz)
        clear kN hb hB r7 q7 h7
        go_wp2_with fail
        refine kS.mono ?_
        rintro e w8 ⟨rfl, hb⟩
        have hBy := hBz.trans (hb.mono hBz.size)
        clear kS hb hBz
        go_wp2
        go_ret
        exact ⟨rfl, hBy⟩
      · have p1 := c2 hC
        subst p1
        have y1 : ¬ (n : Int) < 16 := by omega
        go_wp2
        go_ret
        exact ⟨rfl, hB⟩
  · obtain ⟨p1, p2, p3⟩ := t1 hN
    subst p1 p3
    have h7' := h7
    obtain ⟨r7, q7⟩ := h7'
    go_wp2_with fail
    refine (kG _).mono ?_
    rintro e w3 ⟨rfl, hb⟩
    have h9 : RowC (w3.alloc (.cells (tgA G1) 25)) w3.heap.size (tgA G1) := RowC.new _ _ _
    replace hR3 := (hR3.kept hb).kept (below_alloc w3 (.cells (tgA G1) 25))
    replace hR4 := (hR4.kept hb).kept (below_alloc w3 (.cells (tgA G1) 25))
    replace h7 := (h7.kept hb).kept (below_alloc w3 (.cells (tgA G1) 25))
    replace hB := (hB.trans (hb.mono hB.size))
    replace hB := hB.alloc hB.size (.cells (tgA G1) 25)
    clear kG hb r7 q7
    go_upto_region 6 with fail
    generalize w3.alloc (.cells (tgA G1) 25) = X2 at hR3 hR4 hB h7 h9 ⊢
    generalize w3.heap.size = g9 at h9 ⊢
    have hR3' := hR3
    obtain ⟨r3, q3⟩ := hR3'
    rw [← HA.out.1] at q3
    obtain ⟨r9, q9⟩ := h9
    go_upto_region 8 with fail
    clear r3 q3 r9 q9 p2
    have hR4' := hR4
    obtain ⟨r4, q4⟩ := hR4'
    go_wp2_with fail
    refine (k3 _).mono ?_
    rintro e w4 ⟨rfl, hb⟩
    replace hR4 := hR4.kept hb
    replace h7 := h7.kept hb
    replace hB := hB.trans (hb.mono hB.size)
    have K7 : Hid (ScR (w4.setRow g7 (secA P2)) g7 P2) := h7.rsame P2
    have K4 : Hid (RowC (w4.setRow g7 (secA P2)) g4 A2) := hR4.setRow_ne (secA P2) (fun e => hn74 e.symm)
    have KB : Hid (Below w.heap.size w (w4.setRow g7 (secA P2))) := below_row hB hl7 (secA P2)
    obtain ⟨r7, q7⟩ := h7
    clear k3 hb r4 q4 hR3 hR4 hB
    go_upto_region 9 with fail
    generalize w4.setRow g7 (secA P2) = X3 at K7 K4 KB ⊢
    have c0 := K4.out.cell 0
    rw [z3] at c0
    have h7 := K7.out
    have hR4 := K4.out
    have hB := KB.out
    clear K7 K4 KB r7 q7
    by_cases hA0 : a ≠ 0
    · obtain ⟨p1, p2, p3⟩ := s1 hA0
      subst p1 p3
      have a9 : (a : Int) ≠ 0 := by omega
      have a0 : ((a : Int) != 0) = true := by simp; omega
      clear a9
      go_upto_region 12 with fail
      clear c0
      have h7' := h7
      obtain ⟨r7, q7⟩ := h7'
      go_wp2_with fail
      refine (kH _).mono ?_
      rintro e w5 ⟨rfl, hb⟩
      have h11 : RowC (w5.alloc (.cells (snA G2) 28)) w5.heap.size (snA G2) := RowC.new _ _ _
      replace hR4 := (hR4.kept hb).kept (below_alloc w5 (.cells (snA G2) 28))
      replace h7 := (h7.kept hb).kept (below_alloc w5 (.cells (snA G2) 28))
      replace hB := (hB.trans (hb.mono hB.size))
      replace hB := hB.alloc hB.size (.cells (snA G2) 28)
      clear kH hb r7 q7
      go_upto_region 13 with fail
      generalize w5.alloc (.cells (snA G2) 28) = X4 at hR4 hB h7 h11 ⊢
      generalize w5.heap.size = g11 at h11 ⊢
      obtain ⟨r4, q4⟩ := hR4
      rw [← HA.out.2] at q4
      obtain ⟨r11, q11⟩ := h11
      go_upto_region 15 with fail
      clear r4 q4 r11 q11 p2 a0
      go_wp2_with fail
      refine (kC _ hB).mono ?_
      rintro e w6 ⟨rfl, hb⟩
      replace h7 := h7.kept hb
      replace hB := hB.trans (hb.mono hB.size)
      have K7 : Hid (ScR (w6.setRow g7 (secA P3)) g7 P3) := h7.rsame P3
      have KB : Hid (Below w.heap.size w (w6.setRow g7 (secA P3))) := below_row hB hl7 (secA P3)
      obtain ⟨r7, q7⟩ := h7
      clear kC hb hB
      go_upto_region 16 with fail
      generalize w6.setRow g7 (secA P3) = X5 at K7 KB ⊢
      have h7 := K7.out
      have hB := KB.out
      clear K7 KB r7 q7
      by_cases hC : n ≤ 15
      · obtain ⟨p1, p2, p3⟩ := c1 hC
        subst p3
        rw [p1, p2] at kN
        have y1 : (n : Int) < 16 := by omega
        have h7' := h7
        obtain ⟨r7, q7⟩ := h7'
        go_wp2_with fail
        refine (kN _).mono ?_
        rintro e w7 ⟨⟨v7, rfl, oV⟩, hb⟩
        obtain ⟨xv, cv, rfl⟩ := oV.isG.len
        rw [uV_len, hn] at oV ⊢
        have hBz := hB.trans (hb.mono hB.size)
        have kS := hsm xv cv w7 oV.isG (hl.kept hBz)
        clear kN hb hB r7 q7 h7
        go_wp2_with fail
        refine kS.mono ?_
        rintro e w8 ⟨rfl, hb⟩
        have hBy := hBz.trans (hb.mono hBz.size)
        clear kS hb hBz
        go_wp2
        go_ret
        exact ⟨rfl, hBy⟩
      · have p1 := c2 hC
        subst p1
        have y1 : ¬ (n : Int) < 16 := by omega
        go_wp2
        go_ret
        exact ⟨rfl, hB⟩
    · replace hA0 : a = 0 := by omega
      have p1 := s2 hA0
      subst p1
      subst hA0
      go_upto_region 15 with fail
      clear c0
      go_wp2_with fail
      refine (kC _ hB).mono ?_
      rintro e w6 ⟨rfl, hb⟩
      replace h7 := h7.kept hb
      replace hB := hB.trans (hb.mono hB.size)
      have K7 : Hid (ScR (w6.setRow g7 (secA P3)) g7 P3) := h7.rsame P3
      have KB : Hid (Below w.heap.size w (w6.setRow g7 (secA P3))) := below_row hB hl7 (secA P3)
      obtain ⟨r7, q7⟩ := h7
      clear kC hb hB
      go_upto_region 16 with fail
      generalize w6.setRow g7 (secA P3) = X5 at K7 KB ⊢
      have h7 := K7.out
      have hB := KB.out
      clear K7 KB r7 q7
      by_cases hC : n ≤ 15
      · obtain ⟨p1, p2, p3⟩ := c1 hC
        subst p3
        rw [p1, p2] at kN
        have y1 : (n : Int) < 16 := by omega
        have h7' := h7
        obtain ⟨r7, q7⟩ := h7'
        go_wp2_with fail
        refine (kN _).mono ?_
        rintro e w7 ⟨⟨v7, rfl, oV⟩, hb⟩
        obtain ⟨xv, cv, rfl⟩ := oV.isG.len
        rw [uV_len, hn] at oV ⊢
        have hBz := hB.trans (hb.mono hB.size)
        have kS := hsm xv cv w7 oV.isG (hl.kept hBz)
        clear kN hb hB r7 q7 h7
        go_wp2_with fail
        refine kS.mono ?_
        rintro e w8 ⟨rfl, hb⟩
        have hBy := hBz.trans (hb.mono hBz.size)
        clear kS hb hBz
        go_wp2
        go_ret
        exact ⟨rfl, hBy⟩
      · have p1 := c2 hC
        subst p1
        have y1 : ¬ (n : Int) < 16 := by omega
        go_wp2
        go_ret
        exact ⟨rfl, hB⟩
end Go.Proofs.Ytfdigmlhjjdggaa
