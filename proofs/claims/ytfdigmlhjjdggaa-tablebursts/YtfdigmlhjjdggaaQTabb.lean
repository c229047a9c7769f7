import Derived.Test.YtfdigmlhjjdggaaQTaba
namespace Go.Proofs.Ytfdigmlhjjdggaa
open Go.RowKit

/-! TableGets -/
theorem OwnG.set_lt {e : TypeId} {w : World} {B g i : Nat} {v x : Value} {xs : List Value} (h : OwnG e w B v xs) (hg : g < B) : OwnG e (w.setCell ⟨g, i, none⟩ x) B v xs := by
  obtain ⟨h1, h2⟩ := h
  refine ⟨h1, ?_⟩
  rcases h2 with hn | ⟨g', cap, cur, hv, hb, hg', r⟩
  · exact .inl hn
  · refine .inr ⟨g', cap, cur, hv, hb, ?_, r⟩
    rw [Below.heap_setCell w ⟨g, i, none⟩ x g' (by show g' ≠ g; omega)]; exact hg'
theorem ScR.grown17 {w w' : World} {row : Option Nat} {g : Nat} {s : Sc} (h : ScR w g s) (hg : w.grownBy w' row) (hn : row ≠ some g) : ScR w' g s := by
  have hb := hg.block g h.lt (fun e => hn e.symm)
  unfold ScR rowOk rowAt at *
  rw [hb]; exact h
theorem gcL_len (s : Sc) (n : Int) : (gcL s n).length ≤ 15 := by
  unfold gcL
  cases gcB s n
  · simp
  · rw [cond_true, cnL_len]; exact cnN_le n
set_option linter.unusedSimpArgs false in
set_option maxRecDepth 100000 in
set_option maxHeartbeats 6400000 in
theorem lawTableGets_any (O : TabOk) (s : Sc) (n : Int) (w : World) (h0 : -9223372036854775808 ≤ n) (h1 : n ≤ 9223372036854775807) :
    Calls Try.prog 7 #[.agg (secA s), .int .i64 n] w fun e w' => e = .returned (.bool true) ∧ Below w.heap.size w w' := by
  have kK := known17_any O
  have hB := below_alloc w (.cells (secA s) 35)
  have hR2 : ScR (w.alloc (.cells (secA s) 35)) w.heap.size s := ScR.new _ _ _
  go_enter Try.func7, Try.ntmps7
  go_upto_region 1 with fail
  generalize w.alloc (.cells (secA s) 35) = X at hB hR2 ⊢
  obtain ⟨g2, hg2⟩ : ∃ q, w.heap.size = q := ⟨_, rfl⟩
  have hl2 : w.heap.size ≤ g2 := by omega
  rw [hg2] at hR2
  simp only [hg2]
  clear hg2
  go_wp2_with fail
  refine (kK _).mono ?_
  rintro e w1 ⟨rfl, hb⟩
  replace hR2 := hR2.kept hb
  replace hB := hB.trans (hb.mono hB.size)
  clear kK hb
  go_wp2_with fail
  go_loopw [5] (fun iv wr => ∃ (i : Nat) (S : Sc), i ≤ 2 ∧ iv = .int .i64 i ∧ ScR wr g2 S ∧ Below w.heap.size w wr) (fun iv _ => 2 - (intOf iv).toNat)
  case atStart => exact ⟨0, s, by omega, rfl, hR2, hB⟩
  case round =>
    clear hR2 hB
    obtain ⟨i, S, hi, rfl, h2, hB⟩ := hrel
    by_cases hlt : i < 2
    · have i0 : (i : Int) < 2 := by omega
      obtain ⟨wo, rfl⟩ : ∃ wo, wo = wr := ⟨_, rfl⟩
      have kG := fun W => O.gt S W
      have kG' := fun W => rGetTag_any S W
      have kH := fun W => O.gs S W
      have kH' := fun W => rGetSnap_any S W
      have kN := fun W => O.gc S n W h0 h1
      have kN' := fun W => rGetCounts_any S n W
      have kE := fun W => refSeal_any S W
      unfold GtP at kG kG'
      unfold GsP at kH kH'
      unfold GcP at kN kN'
      have hL15 := gcL_len S n
      generalize (⟨⟨(gtL S).toArray⟩, gtD S⟩ : Tg) = G1 at kG kG'
      generalize (⟨(gsA S : Int), (gsB S : Int), gsD S⟩ : Sn) = G2 at kH kH'
      generalize gtK S = K1 at kG kG'
      generalize gsK S = K2 at kH kH'
      generalize gcL S n = L9 at kN kN' hL15
      generalize gcB S n = B9 at kN kN'
      have e1 := tgEq_refl G1
      have e2 := snEq_refl G2
      have hL : ∃ q, L9.length = q := ⟨_, rfl⟩
      obtain ⟨m, hm⟩ := hL
      rw [hm] at hL15
      have hsm := fun (xa xb : Option Addr) (ca cb : Nat) (W : World) (a : IsG W (.slice xa m ca) (uV L9)) (b : IsG W (.slice xb m cb) (uV L9)) => same17_any L9 xa xb m ca cb W hm a b (by omega)
      have HI : Hid (i < 2) := hlt
      clear hi hlt
      have h2' := h2
      obtain ⟨r2, q2⟩ := h2'
      go_wp2_with fail
      refine (kG _).mono ?_
      rintro e w3 ⟨rfl, hb⟩
      have h6 : RowC (w3.alloc (.cells (tgA G1) 25)) w3.heap.size (tgA G1) := RowC.new _ _ _
      replace h2 := (h2.kept hb).kept (below_alloc w3 (.cells (tgA G1) 25))
      replace hB := hB.trans (hb.mono hB.size)
      replace hB := hB.alloc hB.size (.cells (tgA G1) 25)
      clear kG hb r2 q2
      go_upto_region 7 with fail
      generalize w3.alloc (.cells (tgA G1) 25) = X2 at hB h2 h6 ⊢
      generalize w3.heap.size = g6 at h6 ⊢
      have h2' := h2
      obtain ⟨r2, q2⟩ := h2'
      go_wp2_with fail
      refine (kG' _).mono ?_
      rintro e w4 ⟨rfl, hb⟩
      have h8 : RowC (w4.alloc (.cells (tgA G1) 25)) w4.heap.size (tgA G1) := RowC.new _ _ _
      replace h2 := (h2.kept hb).kept (below_alloc w4 (.cells (tgA G1) 25))
      replace h6 := (h6.kept hb).kept (below_alloc w4 (.cells (tgA G1) 25))
      replace hB := hB.trans (hb.mono hB.size)
      replace hB := hB.alloc hB.size (.cells (tgA G1) 25)
      clear kG' hb r2 q2
      go_upto_region 8 with fail
      generalize w4.alloc (.cells (tgA G1) 25) = X3 at hB h2 h6 h8 ⊢
      generalize w4.heap.size = g8 at h8 ⊢
      have h2' := h2
      obtain ⟨r2, q2⟩ := h2'
      go_wp2_with fail
      refine (kH _).mono ?_
      rintro e w5 ⟨rfl, hb⟩
      have h10 : RowC (w5.alloc (.cells (snA G2) 28)) w5.heap.size (snA G2) := RowC.new _ _ _
      replace h2 := (h2.kept hb).kept (below_alloc w5 (.cells (snA G2) 28))
      replace h6 := (h6.kept hb).kept (below_alloc w5 (.cells (snA G2) 28))
      replace h8 := (h8.kept hb).kept (below_alloc w5 (.cells (snA G2) 28))
      replace hB := hB.trans (hb.mono hB.size)
      replace hB := hB.alloc hB.size (.cells (snA G2) 28)
      clear kH hb r2 q2
      go_upto_region 9 with fail
      generalize w5.alloc (.cells (snA G2) 28) = X4 at hB h2 h6 h8 h10 ⊢
      generalize w5.heap.size = g10 at h10 ⊢
      have h2' := h2
      obtain ⟨r2, q2⟩ := h2'
      go_wp2_with fail
      refine (kH' _).mono ?_
      rintro e w6 ⟨rfl, hb⟩
      have h12 : RowC (w6.alloc (.cells (snA G2) 28)) w6.heap.size (snA G2) := RowC.new _ _ _
      replace h2 := (h2.kept hb).kept (below_alloc w6 (.cells (snA G2) 28))
      replace h6 := (h6.kept hb).kept (below_alloc w6 (.cells (snA G2) 28))
      replace h8 := (h8.kept hb).kept (below_alloc w6 (.cells (snA G2) 28))
      replace h10 := (h10.kept hb).kept (below_alloc w6 (.cells (snA G2) 28))
      replace hB := hB.trans (hb.mono hB.size)
      replace hB := hB.alloc hB.size (.cells (snA G2) 28)
      clear kH' hb r2 q2
      go_upto_region 10 with fail
      generalize w6.alloc (.cells (snA G2) 28) = X5 at hB h2 h6 h8 h10 h12 ⊢
      generalize w6.heap.size = g12 at h12 ⊢
      obtain ⟨r6, q6⟩ := h6
      obtain ⟨r8, q8⟩ := h8
      obtain ⟨r10, q10⟩ := h10
      obtain ⟨r12, q12⟩ := h12
      go_upto_region 12 with fail
      clear r6 q6 r8 q8 r10 q10 r12 q12 e1 e2
      have h2' := h2
      obtain ⟨r2, q2⟩ := h2'
      have hg25 := h2.lt
      go_wp2_with fail
      refine (kN _).mono ?_
      rintro e w7 ⟨⟨vl, rfl, oL⟩, hb⟩
      obtain ⟨xl, cl, rfl⟩ := oL.isG.len
      rw [uV_len, hm] at oL ⊢
      have b57 := hb
      replace h2 := h2.kept hb
      have hB7 := hB.trans (hb.mono hB.size)
      clear hb r2 q2
      obtain ⟨r2, q2⟩ := h2
      go_wp2_with fail
      refine (kN' _).mono ?_
      rintro e w8 ⟨⟨vw, rfl, oW⟩, hb⟩
      obtain ⟨xw, cw, rfl⟩ := oW.isG.len
      rw [uV_len, hm] at oW ⊢
      have h2 : ScR w8 g2 S := ScR.kept ⟨r2, q2⟩ hb
      have hB8 := hB7.trans (hb.mono hB7.size)
      have oL8 := oL.keep hb
      have hz8 := hb.size
      have hql : ∀ q, (Value.slice xl m cl).ownBlock = some q → X5.heap.size ≤ q ∧ q < w7.heap.size := fun q hq => oL.lt q hq
      clear hb r2 q2 oL kN' hB hB7
      go_wp2_with fail
      refine (hsm xl xw cl cw _ oL8.isG oW.isG).mono ?_
      rintro e w9 ⟨rfl, hb⟩
      replace h2 := h2.kept hb
      have hB9 := hB8.trans (hb.mono hB8.size)
      have oL9 := oL8.keep hb
      have oW9 := oW.keep hb
      have hz9 : w7.heap.size ≤ w9.heap.size := Nat.le_trans hz8 hb.size
      clear hb oL8 oW hB8
      have HQ : Hid (∀ q, (Value.slice xl m cl).ownBlock = some q → X5.heap.size ≤ q ∧ q < w7.heap.size) := hql
      have HZ : Hid (g2 < X5.heap.size ∧ w7.heap.size ≤ w9.heap.size ∧ X5.heap.size ≤ w7.heap.size) := ⟨hg25, hz9, b57.size⟩
      have h2' := h2
      obtain ⟨r2, q2⟩ := h2'
      clear b57 hql hz8 hz9 hg25
      go_upto_region 16 with fail
      go_wp2_with fail
      refine (kN _).mono ?_
      rintro e w10 ⟨⟨vm, rfl, oM⟩, hb⟩
      obtain ⟨xm, cm, rfl⟩ := oM.isG.len
      rw [uV_len, hm] at oM ⊢
      replace h2 := h2.kept hb
      have hB10 := hB9.trans (hb.mono hB9.size)
      have oL10 := oL9.keep hb
      have oW10 := oW9.keep hb
      have hlX : (uV L9).length = m := by rw [uV_len, hm]
      have HY : Hid (w9.heap.size ≤ w10.heap.size) := hb.size
      clear hb r2 q2 oL9 oW9 hB9
      go_wp2_with fail
      go_loopw [20] (fun iv wr => ∃ (k : Nat) (xs : List Value), k ≤ m ∧ iv = .int .i64 k ∧ xs.length = m ∧ OwnG 26 wr X5.heap.size (.slice xl m cl) xs ∧ OwnG 26 wr w7.heap.size (.slice xw m cw) (uV L9) ∧ OwnG 26 wr w9.heap.size (.slice xm m cm) (uV L9) ∧ ScR wr g2 S ∧ w10.heap.size ≤ wr.heap.size ∧ Below w.heap.size w wr) (fun iv _ => m - (intOf iv).toNat)
      case atStart => exact ⟨0, _, by omega, rfl, hlX, oL10, oW10, oM, h2, Nat.le_refl _, hB10⟩
      case round =>
        clear oL10 oW10 oM h2 hB10
        obtain ⟨k, xs, hk, rfl, hxs, oL, oW, oM, h2, hz, hB⟩ := hrel
        by_cases hlk : k < m
        · obtain ⟨gl, cl9, he, -, hgl, -⟩ := oL.form (by intro h9; rw [h9] at hxs; simp at hxs; omega)
          simp only [Value.slice.injEq] at he
          obtain ⟨rfl, -, rfl⟩ := he
          obtain ⟨f1, f2⟩ := HQ.out gl rfl
          obtain ⟨f3, f4, f5⟩ := HZ.out
          have j0 : (0 : Int) ≤ (k : Int) := by omega
          have j1 : (k : Int) < (m : Int) := by omega
          obtain ⟨u, hu⟩ : ∃ u, xs[k]? = some u := ⟨_, List.getElem?_eq_getElem (by omega)⟩
          have cc := oL.cell k u hu
          have cf := oL.frozen k
          have HL : Hid _ := (oL.put k (.int .u32 71)).1
          have HX : Hid ((xs.set k (.int .u32 71)).length = m) := by show _ = _; rw [List.length_set]; exact hxs
          have HW : Hid _ := oW.set_lt (g := gl) (i := k) (x := .int .u32 71) (by omega)
          have HM : Hid _ := oM.set_lt (g := gl) (i := k) (x := .int .u32 71) (by omega)
          have H2 : Hid _ := h2.set_ne (g := gl) k (.int .u32 71) (by omega)
          have HB : Hid _ := hB.setCell (p := ⟨gl, k, none⟩) (show w.heap.size ≤ gl by omega) (.int .u32 71)
          have HS : Hid (w10.heap.size ≤ (wr.setCell ⟨gl, k, none⟩ (.int .u32 71)).heap.size) := by
            have h9 : wr.heap.size ≤ (wr.setCell ⟨gl, k, none⟩ (.int .u32 71)).heap.size := ((Below.refl gl wr).setCell (p := ⟨gl, k, none⟩) (Nat.le_refl _) _).size
            exact Nat.le_trans hz h9
          have HK : Hid (k < m) := hlk
          clear oL oW oM h2 hB hz f1 f2 f3 f4 f5 hu hk hlk hxs
          go_wp2
          go_roundw
          case rel => exact ⟨k + 1, _, by have := HK.out; omega, by go_num, HX.out, HL.out, HW.out, HM.out, H2.out, HS.out, HB.out⟩
          case measure => have := HK.out; simp [intOf]; omega
        · obtain rfl : m = k := by omega
          have j0 : ¬ (m : Int) < (m : Int) := by omega
          have bC := below_alloc wr (.cells #[Value.int .u32 72] 26)
          have hcl : (wr.alloc (.cells #[Value.int .u32 72] 26)).cell? ⟨wr.heap.size, 0, none⟩ = some (.int .u32 72) := cell_of_row _ _ 0 _ _ _ (heap_alloc_last _ _)
          obtain ⟨f3, f4, f5⟩ := HZ.out
          have f6 := HY.out
          have hXw : X5.heap.size ≤ (wr.alloc (.cells #[Value.int .u32 72] 26)).heap.size := Nat.le_trans (show X5.heap.size ≤ wr.heap.size by omega) bC.size
          obtain ⟨v2, w11, hr2, oL2, hg11, hb11⟩ := run_app1G elt17 _ X5.heap.size wr.heap.size 1 (.slice xl m cl) xs (.int .u32 72) 31 (oL.keep bC) hcl rfl (by rw [hxs]; omega) (by rw [hxs]; unfold maxLen; omega) hXw
          have hap : ∀ {v : Value} {B : Nat}, (∀ q, v.ownBlock = some q → B ≤ q) → w7.heap.size ≤ B → v.ownBlock = none ∨ v.ownBlock ≠ (Value.slice xl m cl).ownBlock := fun {v B} h9 h8 => by
            cases e9 : v.ownBlock with
            | none => exact .inl rfl
            | some q =>
              refine .inr fun e8 => ?_
              have a1 := h9 q e9
              have a2 := HQ.out q e8.symm
              omega
          have oW2 : OwnG 26 w11 w7.heap.size (.slice xw m cw) (uV L9) := (oW.keep bC).grown hg11 (hap (fun q hq => (oW.lt q hq).1) (Nat.le_refl _))
          have oM2 : OwnG 26 w11 w9.heap.size (.slice xm m cm) (uV L9) := (oM.keep bC).grown hg11 (hap (fun q hq => (oM.lt q hq).1) f4)
          have h22 : ScR w11 g2 S := (h2.kept bC).grown17 hg11 (fun e9 => by have := HQ.out g2 e9; omega)
          have hB11 : Below w.heap.size w w11 := (hB.trans (bC.mono hB.size)).trans (hb11.mono (by have := h2.lt; omega))
          obtain ⟨g9, c9, rfl, -, -, -, -⟩ := oL2.form (by simp)
          have hM : (xs ++ [Value.int .u32 72]).length = m + 1 := by rw [List.length_append, hxs]; rfl
          rw [hM] at hr2 oL2
          obtain ⟨M, hMv⟩ : ∃ q, m + 1 = q := ⟨_, rfl⟩
          rw [hMv] at hr2 oL2
          have c72 := oL2.cell m (.int .u32 72) (by rw [List.getElem?_append_right (by omega), hxs, Nat.sub_self]; rfl)
          clear oL oW oM h2 hB bC hcl hXw hap hg11 hb11 f3 f4 f5 f6 hxs hM hz oL2
          have h2' := h22
          obtain ⟨r2, q2⟩ := h2'
          go_wp2_with (at_builtin; refine wpL_appG 31 rfl _ _ rfl _ w11 (by exact hr2) ?_)
          refine (kN _).mono ?_
          rintro e w12 ⟨⟨vk, rfl, oK⟩, hb⟩
          obtain ⟨xk, ck, rfl⟩ := oK.isG.len
          rw [uV_len, hm] at oK ⊢
          replace h22 := h22.kept hb
          have oW3 := oW2.keep hb
          have oM3 := oM2.keep hb
          have hB12 := hB11.trans (hb.mono hB11.size)
          have c73 := cell_later hb c72
          clear hb r2 q2 oW2 oM2 hB11 c72 kN hr2
          go_wp2_with fail
          refine (hsm xm xw cm cw _ oM3.isG oW3.isG).mono ?_
          rintro e w13 ⟨rfl, hb⟩
          have oW4 := oW3.keep hb
          have oK4 := oK.keep hb
          have h24 := h22.kept hb
          have hB13 := hB12.trans (hb.mono hB12.size)
          have c74 := cell_later hb c73
          clear hb oW3 oK oM3 h22 hB12 c73
          go_wp2_with fail
          refine (hsm xk xw ck cw _ oK4.isG oW4.isG).mono ?_
          rintro e w14 ⟨rfl, hb⟩
          have h25 := h24.kept hb
          have hB14 := hB13.trans (hb.mono hB13.size)
          have c75 := cell_later hb c74
          have y1 : (M : Int) - 1 = (m : Int) := by omega
          have y2 : (0 : Int) ≤ (m : Int) := by omega
          have y3 : (m : Int) < (M : Int) := by omega
          have h25' := h25
          obtain ⟨r2, q2⟩ := h25'
          clear hb oW4 oK4 h24 hB13 c74
          go_wp2_with fail
          refine (kE _).mono ?_
          rintro e w15 ⟨rfl, hb⟩
          have h26 := h25.kept hb
          have hB15 := hB14.trans (hb.mono hB14.size)
          have H2 : Hid (ScR (w15.setRow g2 (secA (sealS S))) g2 (sealS S)) := h26.rsame (sealS S)
          have HB : Hid _ := below_row hB15 hl2 (secA (sealS S))
          obtain ⟨r3, q3⟩ := h26
          generalize sealS S = S9 at H2 HB
          clear hb h25 hB14 hB15 r2 q2 kE c75
          go_wp2
          go_roundw
          case rel => exact ⟨i + 1, _, by have := HI.out; omega, by go_num, H2.out, HB.out⟩
          case measure => have := HI.out; simp [intOf]; omega
    · obtain rfl : i = 2 := by omega
      have i0 : ¬ ((2 : Nat) : Int) < 2 := by omega
      go_wp2
      go_ret
      exact ⟨rfl, hB⟩
end Go.Proofs.Ytfdigmlhjjdggaa
