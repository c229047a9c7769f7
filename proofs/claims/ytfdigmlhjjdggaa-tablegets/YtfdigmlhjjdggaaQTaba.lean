import Derived.Test.YtfdigmlhjjdggaaQTab9
namespace Go.Proofs.Ytfdigmlhjjdggaa
open Go.RowKit

/-! TableOnly -/
section
variable (ρ : Operand → Value) (dst : Option Tmp) (ty : TypeId) (pos : String) (after : Array Edge) (guard : Option (Nat × Bool))
@[go_sem ↓] theorem execOp_box_lk (x : Operand) : execOp ρ { dst, op := .box 52 x, type := ty, pos, after, guard } = bigBox 52 (ρ x) := rfl
end
@[go_sem] theorem run_box_lk (w : World) (c : Array Value) : (bigBox 52 (.agg c)).run Try.prog w = .ok (.value (.pointer (some ⟨w.heap.size, 0, none⟩))) (w.alloc (.cells c 52)) := run_bigBox _ c w
def lkA (s : Sc) (n : Int) : Array Value := secA s ++ #[.int .i64 n]
theorem lkA_sec (s : Sc) (n : Int) (i : Nat) (h : i < 64) : (lkA s n)[i]? = some (.int .u8 ((s i).toNat : Int)) := by
  unfold lkA; rw [Array.getElem?_append_left (by simp; omega), secA_get s i h]
theorem lkA_n (s : Sc) (n : Int) : (lkA s n)[64]? = some (.int .i64 n) := by
  unfold lkA; rw [Array.getElem?_append_right (by simp)]; simp
theorem lk_range {w : World} {g : Nat} {s : Sc} {n : Int} (h : RowC w g (lkA s n)) : rgOk w g 0 64 = true ∧ rg w g 0 64 = secA s := by
  have h9 : w.rangeAt g 0 (secA s).toList := fun j u hu => by
    have hj : j < 64 := by have := (List.getElem?_eq_some_iff.1 hu).1; simpa using this
    rw [Array.getElem?_toList, secA_get s j hj] at hu
    rw [Nat.zero_add, h.cell, lkA_sec s n j hj]; exact hu
  have := rg_of h9 (k := 64) (by simp)
  simpa using this
theorem num4_lt (s : Sc) (a : Nat) : numN s a 4 < 4294967296 := by have := numN_lt s a 4; omega
theorem OwnG.cap17 {e : TypeId} {w : World} {base : Nat} {x : Option Addr} {n c : Nat} {xs : List Value} (h : OwnG e w base (.slice x n c) xs) : n ≤ c := by
  obtain ⟨_, ⟨h, _⟩ | ⟨g', cap, cur, he, hb, hg, hle, -⟩⟩ := h
  · simp only [Value.slice.injEq] at h; omega
  · simp only [Value.slice.injEq] at he; omega
set_option linter.unusedSimpArgs false in
set_option maxRecDepth 100000 in
set_option maxHeartbeats 6400000 in
theorem lawTableOnly_any (O : TabOk) (s : Sc) (n : Int) (w : World) (h0 : -9223372036854775808 ≤ n) (h1 : n ≤ 9223372036854775807) :
    Calls Try.prog 5 #[.agg (lkA s n)] w fun e w' => e = .returned (.bool true) ∧ Below w.heap.size w w' := by
  have kK := known17_any O
  have kE := fun W => refSeal_any s W
  have hsl : isSl (sealS s) = true := isSl_seal s
  generalize sealS s = S at kE hsl
  have hz := sl_ne hsl
  have kG := fun W => O.gt S W
  have kH := fun W => O.gs S W
  have kN := fun W => O.gc S n W h0 h1
  unfold GtP at kG
  unfold GsP at kH
  unfold GcP at kN
  have t1 : tgR S = true → gtK S = 2 ∧ (∀ W, Calls Try.prog 9 #[.agg (tgA ⟨⟨(gtL S).toArray⟩, gtD S⟩)] W fun r w' => r = .returned (.tuple #[.agg (secA (tagS (tgL S) (tgK S))), .int .i64 0]) ∧ Below W.heap.size W w') ∧ secEq (tagS (tgL S) (tgK S)) S = true ∧ snR S = false := fun h => by
    have hh := h
    unfold tgR at hh
    simp only [Bool.and_eq_true] at hh
    have e1 : gtL S = tgL S := by unfold gtL; rw [h]; rfl
    have e2 : gtD S = tgK S := by unfold gtD; rw [h]; rfl
    refine ⟨by unfold gtK; rw [hz, h]; rfl, fun W => ?_, hh.2.2, ?_⟩
    · have hl := (isN_len hh.2.1).2
      have h9 := O.pt ⟨(tgL S).toArray⟩ (tgK S) W (by rw [← lS_len, lS_mk]; omega)
      rw [lS_mk] at h9
      have e3 : ptS (tgL S) (tgK S) = tagS (tgL S) (tgK S) := by unfold ptS; rw [hh.2.1]; rfl
      have e4 : ptE (tgL S) = 0 := by unfold ptE; rw [hh.2.1]; rfl
      rw [e3, e4] at h9
      rw [e1, e2]; exact h9
    · cases h8 : snR S
      · rfl
      · have a := (tgR_sl h).2
        have b := (snR_sl h8).2
        rw [a] at b
        exact absurd b (by decide)
  have t2 : tgR S = false → gtK S = 3 := fun h => by unfold gtK; rw [hz, h]; rfl
  have s1 : snR S = true → gsK S = 2 ∧ (∀ W, Calls Try.prog 10 #[.agg (snA ⟨(gsA S : Int), (gsB S : Int), gsD S⟩)] W fun r w' => r = .returned (.tuple #[.agg (secA (snS (gsA S) (gsB S) (gsD S))), .int .i64 0]) ∧ Below W.heap.size W w') ∧ secEq (snS (gsA S) (gsB S) (gsD S)) S = true := fun h => by
    have hh := h
    unfold snR at hh
    simp only [Bool.and_eq_true, Bool.not_eq_true'] at hh
    have e1 : gsA S = numN S 4 4 := by unfold gsA; rw [h, cond_true]
    have e2 : gsB S = numN S 8 4 := by unfold gsB; rw [h, cond_true]
    have e3 : gsD S = snK S := by unfold gsD; rw [h, cond_true]
    rw [e1, e2, e3]
    refine ⟨by unfold gsK; rw [hz, h]; rfl, fun W => ?_, hh.2.2⟩
    have h9 := O.ps (numN S 4 4) (numN S 8 4) (snK S) W (num4_lt S 4) (num4_lt S 8)
    have e4 : psS (numN S 4 4) (numN S 8 4) (snK S) = snS (numN S 4 4) (numN S 8 4) (snK S) := by unfold psS; rw [hh.2.1, cond_false]
    have e5 : psE (numN S 4 4) = 0 := by unfold psE; rw [hh.2.1, cond_false]
    rw [e4, e5] at h9
    exact h9
  have s2 : snR S = false → gsK S = 3 := fun h => by unfold gsK; rw [hz, h]; rfl
  have c1 : gcB S n = true → secEq (pcS (gcL S n)) S = true ∧ pcE (gcL S n) = 0 ∧ (gcL S n).length ≤ 15 ∧ ∀ (i : Nat) (v : Nat), (gcL S n)[i]? = some v → v < 4294967296 := fun h => by
    have e1 : gcL S n = cnL S (cnN n) := by unfold gcL; rw [h, cond_true]
    have hle := cnN_le n
    have hlen : (gcL S n).length ≤ 15 := by rw [e1, cnL_len]; exact hle
    refine ⟨?_, by unfold pcE; rw [decide_eq_true hlen]; rfl, hlen, fun i v hv => ?_⟩
    · have e2 : pcS (gcL S n) = cnS (cnL S (cnN n)) := by unfold pcS; rw [decide_eq_true hlen, cond_true, e1]
      rw [e2]; unfold gcB at h; exact h
    · rw [e1] at hv
      have hi9 := (List.getElem?_eq_some_iff.1 hv).1
      rw [cnL_len] at hi9
      rw [cnL_get S _ i hi9] at hv
      rw [← Option.some.inj hv]
      exact num4_lt S (4 * i)
  have kC := fun (l : List Nat) (x : Option Addr) (m c : Nat) W => O.pc l x m c W
  generalize hG1 : (⟨⟨(gtL S).toArray⟩, gtD S⟩ : Tg) = G1 at kG t1
  generalize hG2 : (⟨(gsA S : Int), (gsB S : Int), gsD S⟩ : Sn) = G2 at kH s1
  generalize snS (gsA S) (gsB S) (gsD S) = P2 at s1
  generalize tagS (tgL S) (tgK S) = P1 at t1
  generalize gtK S = K1 at kG t1 t2
  generalize gsK S = K2 at kH s1 s2
  generalize gcL S n = L9 at kN c1
  obtain ⟨A, hA⟩ : ∃ q, lkA s n = q := ⟨_, rfl⟩
  have hAr : ∀ {W : World} {g : Nat}, RowC W g A → rgOk W g 0 64 = true ∧ rg W g 0 64 = secA s := fun {W g} h => lk_range (by rw [hA]; exact h)
  have hAn : A[64]? = some (.int .i64 n) := by rw [← hA, lkA_n]
  rw [hA]
  clear hA hG1 hG2
  have hB := below_alloc w (.cells A 52)
  have hR1 : RowC (w.alloc (.cells A 52)) w.heap.size A := RowC.new _ _ _
  go_enter Try.func5, Try.ntmps5
  go_upto_region 1 with fail
  generalize w.alloc (.cells A 52) = X at hB hR1 ⊢
  obtain ⟨g1, hg1⟩ : ∃ q, w.heap.size = q := ⟨_, rfl⟩
  rw [hg1] at hR1
  simp only [hg1]
  clear hg1
  go_wp2_with fail
  refine (kK _).mono ?_
  rintro e w1 ⟨rfl, hb⟩
  replace hR1 := hR1.kept hb
  replace hB := hB.trans (hb.mono hB.size)
  clear kK hb
  obtain ⟨r1, q1⟩ := hAr hR1
  go_wp2_with fail
  refine (kE _).mono ?_
  rintro e w2 ⟨rfl, hb⟩
  replace hR1 := (hR1.kept hb).kept (below_alloc w2 (.cells (secA S) 35))
  replace hB := hB.trans (hb.mono hB.size)
  replace hB := hB.alloc hB.size (.cells (secA S) 35)
  have h3 : ScR (w2.alloc (.cells (secA S) 35)) w2.heap.size S := ScR.new _ _ _
  clear kE hb r1 q1
  go_upto_region 4 with fail
  generalize w2.alloc (.cells (secA S) 35) = X1 at hR1 hB h3 ⊢
  generalize w2.heap.size = g3 at h3 ⊢
  have h3' := h3
  obtain ⟨r3, q3⟩ := h3'
  go_wp2_with fail
  refine (kG _).mono ?_
  rintro e w3 ⟨rfl, hb⟩
  have h4 : RowC (w3.alloc (.cells (tgA G1) 25)) w3.heap.size (tgA G1) := RowC.new _ _ _
  replace hR1 := (hR1.kept hb).kept (below_alloc w3 (.cells (tgA G1) 25))
  replace h3 := (h3.kept hb).kept (below_alloc w3 (.cells (tgA G1) 25))
  replace hB := hB.trans (hb.mono hB.size)
  replace hB := hB.alloc hB.size (.cells (tgA G1) 25)
  clear kG hb r3 q3
  go_upto_region 5 with fail
  generalize w3.alloc (.cells (tgA G1) 25) = X2 at hR1 hB h3 h4 ⊢
  generalize w3.heap.size = g4 at h4 ⊢
  cases hT : tgR S
  · have p1 := t2 hT
    subst p1
    clear h4
    go_upto_region 9 with fail
    have h3' := h3
    obtain ⟨r3, q3⟩ := h3'
    go_wp2_with fail
    refine (kH _).mono ?_
    rintro e w5 ⟨rfl, hb⟩
    have h8 : RowC (w5.alloc (.cells (snA G2) 28)) w5.heap.size (snA G2) := RowC.new _ _ _
    replace hR1 := (hR1.kept hb).kept (below_alloc w5 (.cells (snA G2) 28))
    replace h3 := (h3.kept hb).kept (below_alloc w5 (.cells (snA G2) 28))
    replace hB := hB.trans (hb.mono hB.size)
    replace hB := hB.alloc hB.size (.cells (snA G2) 28)
    clear kH hb r3 q3
    go_upto_region 10 with fail
    generalize w5.alloc (.cells (snA G2) 28) = X4 at hR1 hB h3 h8 ⊢
    generalize w5.heap.size = g8 at h8 ⊢
    cases hS : snR S
    · have p1 := s2 hS
      subst p1
      clear h8
      go_upto_region 14 with fail
      have h3' := h3
      obtain ⟨r3, q3⟩ := h3'
      have c64 := hR1.cell 64
      rw [hAn] at c64
      go_wp2_with fail
      refine (kN _).mono ?_
      rintro e w7 ⟨⟨v7, rfl, oV⟩, hb⟩
      obtain ⟨xv, cv, rfl⟩ := oV.isG.len
      rw [uV_len] at oV ⊢
      have ocap := OwnG.cap17 oV
      replace h3 := h3.kept hb
      replace hB := hB.trans (hb.mono hB.size)
      clear kN hb r3 q3 c64 hR1
      cases hC : gcB S n
      · clear oV
        go_wp2
        go_ret
        exact ⟨rfl, hB⟩
      · obtain ⟨p1, p2, p3, p4⟩ := c1 hC
        have kP := fun W => kC L9 xv L9.length cv W rfl ocap (by omega) p4
        obtain ⟨m, hm⟩ : ∃ q, L9.length = q := ⟨_, rfl⟩
        rw [hm] at p3 oV ⊢
        simp only [hm, p2] at kP
        generalize pcS L9 = P3 at kP p1
        go_wp2_with fail
        refine (kP _ oV.isG).mono ?_
        rintro e w8 ⟨rfl, hb⟩
        have h14 : ScR (w8.alloc (.cells (secA P3) 35)) w8.heap.size P3 := ScR.new _ _ _
        replace h3 := (h3.kept hb).kept (below_alloc w8 (.cells (secA P3) 35))
        replace hB := hB.trans (hb.mono hB.size)
        replace hB := hB.alloc hB.size (.cells (secA P3) 35)
        clear hb kP oV
        go_upto_region 17 with fail
        generalize w8.alloc (.cells (secA P3) 35) = X6 at hB h3 h14 ⊢
        generalize w8.heap.size = g14 at h14 ⊢
        obtain ⟨r3, q3⟩ := h3
        obtain ⟨r14, q14⟩ := h14
        have y1 : ¬ (15 : Int) < (m : Int) := by omega
        go_wp2
        go_ret
        exact ⟨rfl, hB⟩
    · obtain ⟨p1, p2, p3⟩ := s1 hS
      subst p1
      obtain ⟨r8, q8⟩ := h8
      go_wp2_with fail
      refine (p2 _).mono ?_
      rintro e w6 ⟨rfl, hb⟩
      have h10 : ScR (w6.alloc (.cells (secA P2) 35)) w6.heap.size P2 := ScR.new _ _ _
      replace hR1 := (hR1.kept hb).kept (below_alloc w6 (.cells (secA P2) 35))
      replace h3 := (h3.kept hb).kept (below_alloc w6 (.cells (secA P2) 35))
      replace hB := hB.trans (hb.mono hB.size)
      replace hB := hB.alloc hB.size (.cells (secA P2) 35)
      clear hb r8 q8 p2
      go_upto_region 12 with fail
      generalize w6.alloc (.cells (secA P2) 35) = X5 at hR1 hB h3 h10 ⊢
      generalize w6.heap.size = g10 at h10 ⊢
      have h3' := h3
      obtain ⟨r3, q3⟩ := h3'
      obtain ⟨r10, q10⟩ := h10
      go_upto_region 14 with fail
      clear r3 q3 r10 q10 p3
      have h3' := h3
      obtain ⟨r3, q3⟩ := h3'
      have c64 := hR1.cell 64
      rw [hAn] at c64
      go_wp2_with fail
      refine (kN _).mono ?_
      rintro e w7 ⟨⟨v7, rfl, oV⟩, hb⟩
      obtain ⟨xv, cv, rfl⟩ := oV.isG.len
      rw [uV_len] at oV ⊢
      have ocap := OwnG.cap17 oV
      replace h3 := h3.kept hb
      replace hB := hB.trans (hb.mono hB.size)
      clear kN hb r3 q3 c64 hR1
      cases hC : gcB S n
      · clear oV
        go_wp2
        go_ret
        exact ⟨rfl, hB⟩
      · obtain ⟨p1, p2, p3, p4⟩ := c1 hC
        have kP := fun W => kC L9 xv L9.length cv W rfl ocap (by omega) p4
        obtain ⟨m, hm⟩ : ∃ q, L9.length = q := ⟨_, rfl⟩
        rw [hm] at p3 oV ⊢
        simp only [hm, p2] at kP
        generalize pcS L9 = P3 at kP p1
        go_wp2_with fail
        refine (kP _ oV.isG).mono ?_
        rintro e w8 ⟨rfl, hb⟩
        have h14 : ScR (w8.alloc (.cells (secA P3) 35)) w8.heap.size P3 := ScR.new _ _ _
        replace h3 := (h3.kept hb).kept (below_alloc w8 (.cells (secA P3) 35))
        replace hB := hB.trans (hb.mono hB.size)
        replace hB := hB.alloc hB.size (.cells (secA P3) 35)
        clear hb kP oV
        go_upto_region 17 with fail
        generalize w8.alloc (.cells (secA P3) 35) = X6 at hB h3 h14 ⊢
        generalize w8.heap.size = g14 at h14 ⊢
        obtain ⟨r3, q3⟩ := h3
        obtain ⟨r14, q14⟩ := h14
        have y1 : ¬ (15 : Int) < (m : Int) := by omega
        go_wp2
        go_ret
        exact ⟨rfl, hB⟩
  · obtain ⟨p1, p2, p3, p4⟩ := t1 hT
    subst p1
    obtain ⟨r4, q4⟩ := h4
    go_wp2_with fail
    refine (p2 _).mono ?_
    rintro e w4 ⟨rfl, hb⟩
    have h6 : ScR (w4.alloc (.cells (secA P1) 35)) w4.heap.size P1 := ScR.new _ _ _
    replace hR1 := (hR1.kept hb).kept (below_alloc w4 (.cells (secA P1) 35))
    replace h3 := (h3.kept hb).kept (below_alloc w4 (.cells (secA P1) 35))
    replace hB := hB.trans (hb.mono hB.size)
    replace hB := hB.alloc hB.size (.cells (secA P1) 35)
    clear hb r4 q4 p2
    go_upto_region 7 with fail
    generalize w4.alloc (.cells (secA P1) 35) = X3 at hR1 hB h3 h6 ⊢
    generalize w4.heap.size = g6 at h6 ⊢
    have h3' := h3
    obtain ⟨r3, q3⟩ := h3'
    obtain ⟨r6, q6⟩ := h6
    go_upto_region 9 with fail
    clear r3 q3 r6 q6 p3
    have h3' := h3
    obtain ⟨r3, q3⟩ := h3'
    go_wp2_with fail
    refine (kH _).mono ?_
    rintro e w5 ⟨rfl, hb⟩
    have h8 : RowC (w5.alloc (.cells (snA G2) 28)) w5.heap.size (snA G2) := RowC.new _ _ _
    replace hR1 := (hR1.kept hb).kept (below_alloc w5 (.cells (snA G2) 28))
    replace h3 := (h3.kept hb).kept (below_alloc w5 (.cells (snA G2) 28))
    replace hB := hB.trans (hb.mono hB.size)
    replace hB := hB.alloc hB.size (.cells (snA G2) 28)
    clear kH hb r3 q3
    go_upto_region 10 with fail
    generalize w5.alloc (.cells (snA G2) 28) = X4 at hR1 hB h3 h8 ⊢
    generalize w5.heap.size = g8 at h8 ⊢
    have hS := p4
    have p1 := s2 hS
    subst p1
    clear h8
    go_upto_region 14 with fail
    have h3' := h3
    obtain ⟨r3, q3⟩ := h3'
    have c64 := hR1.cell 64
    rw [hAn] at c64
    go_wp2_with fail
    refine (kN _).mono ?_
    rintro e w7 ⟨⟨v7, rfl, oV⟩, hb⟩
    obtain ⟨xv, cv, rfl⟩ := oV.isG.len
    rw [uV_len] at oV ⊢
    have ocap := OwnG.cap17 oV
    replace h3 := h3.kept hb
    replace hB := hB.trans (hb.mono hB.size)
    clear kN hb r3 q3 c64 hR1
    cases hC : gcB S n
    · clear oV
      go_wp2
      go_ret
      exact ⟨rfl, hB⟩
    · obtain ⟨p1, p2, p3, p4⟩ := c1 hC
      have kP := fun W => kC L9 xv L9.length cv W rfl ocap (by omega) p4
      obtain ⟨m, hm⟩ : ∃ q, L9.length = q := ⟨_, rfl⟩
      rw [hm] at p3 oV ⊢
      simp only [hm, p2] at kP
      generalize pcS L9 = P3 at kP p1
      go_wp2_with fail
      refine (kP _ oV.isG).mono ?_
      rintro e w8 ⟨rfl, hb⟩
      have h14 : ScR (w8.alloc (.cells (secA P3) 35)) w8.heap.size P3 := ScR.new _ _ _
      replace h3 := (h3.kept hb).kept (below_alloc w8 (.cells (secA P3) 35))
      replace hB := hB.trans (hb.mono hB.size)
      replace hB := hB.alloc hB.size (.cells (secA P3) 35)
      clear hb kP oV
      go_upto_region 17 with fail
      generalize w8.alloc (.cells (secA P3) 35) = X6 at hB h3 h14 ⊢
      generalize w8.heap.size = g14 at h14 ⊢
      obtain ⟨r3, q3⟩ := h3
      obtain ⟨r14, q14⟩ := h14
      have y1 : ¬ (15 : Int) < (m : Int) := by omega
      go_wp2
      go_ret
      exact ⟨rfl, hB⟩
end Go.Proofs.Ytfdigmlhjjdggaa
