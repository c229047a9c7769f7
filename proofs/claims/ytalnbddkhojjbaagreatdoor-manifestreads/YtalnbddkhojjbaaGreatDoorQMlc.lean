import Derived.Test.YtalnbddkhojjbaaGreatDoorQMan8
import Derived.Test.YtalnbddkhojjbaaGreatDoorQJsz
import Derived.Test.YtalnbddkhojjbaaGreatDoorQJzd
namespace Go.Proofs.YtalnbddkhojjbaaGreatDoor
open Go.RowKit

theorem mRd_len (l : List UInt8) : (mRd l).2.length ≤ 32 := by
  have hM : ∀ m, (mrM m).2.length ≤ 32 := fun m => by
    unfold mrM
    split
    · split
      · simp
      · simp only; omega
    · simp
  have hL : ∀ c y, (mrL c y).2.length ≤ 32 := fun c y => by
    unfold mrL
    split
    · split
      · simp
      · simp only [List.length_cons]; omega
    · simp
  have hB : ∀ n, (mrB n).2.length ≤ 32 := fun n => by
    unfold mrB
    split
    · exact hM _
    · split
      · simp
      · exact hL _ _
    · simp
  unfold mRd
  split
  · simp
  · split
    · simp
    · unfold mrN
      split
      · simp
      · unfold mrA
        split
        · simp
        · split
          · simp
          · exact hB _
theorem Ga.addK {W W' : World} {B : Nat} {T : Nat → Option Th} (h : Ga W B T) (k : Nat) {v : Value} {ds : List Dc} (hb : Below W.heap.size W W') (hO : OwnK dcE W' W.heap.size v ds) : ∃ T', Ga W' B T' ∧ T' k = some (thK dcE B v ds) ∧ ∀ j, j ≠ k → T' j = T j :=
  ⟨_, h.newK k hb hO, updT_same _ _ _, fun _ hj => updT_ne _ _ _ _ hj⟩
theorem copy_b16 (w : World) (x : Option Addr) (L c : Nat) (l : List UInt8) (hl : l.length = L) (h : IsB w (.slice x L c) l) (hL : L ≤ 140737488351232) :
    ∃ y c' w', (Builtin.append_ #[24, 24] 24 #[.slice (some ⟨w.heap.size, 0, none⟩) 0 0, .slice x L c]).run Tryz.prog (w.alloc (.cells #[] 5)) = .ok (.slice y L c') w' ∧ L ≤ c' ∧ IsB w' (.slice y L c') l ∧ Below w.heap.size w w' := by
  have bA := below_alloc w (.cells #[] 5)
  have hO0 : OwnB (w.alloc (.cells #[] 5)) w.heap.size (.slice (some ⟨w.heap.size, 0, none⟩) 0 0) [] := OwnB.newB w [] 0 rfl (by unfold maxLen; omega)
  have hlA := h.kept bA
  subst hl
  obtain ⟨v1, w9, hr1, hO1, hg1, -⟩ := run_app_more _ _ _ [] x c l 24 hO0 hlA (by simp; omega) bA.size
  rw [List.nil_append] at hO1
  have hM := OwM.ofB hO1
  obtain ⟨y, c', rfl, hc⟩ := hM.form
  exact ⟨y, c', w9, hr1, hc, hO1.isB, bA.trans (below_grown hO0 hg1 bA.size)⟩
theorem xor_one (a : UInt8) : bits .xor .u8 (a.toNat : Int) 1 = ((a ^^^ 1).toNat : Int) := by
  have h : ∀ n : Fin 256, bits .xor .u8 (((UInt8.ofNat n.val).toNat : Nat) : Int) 1 = (((UInt8.ofNat n.val) ^^^ 1).toNat : Int) := by decide +kernel
  have h9 := h ⟨a.toNat, a.toNat_lt⟩
  simpa using h9
set_option linter.unusedSimpArgs false in
set_option maxRecDepth 100000 in
set_option maxHeartbeats 16000000 in
theorem lawReads16_any {V : World → Prop} (O : ManOk V) (l l2 : List UInt8) (x x2 : Option Addr) (L c L2 c2 : Nat) (at_ : Int) (w : World) (hV : V w) (hL : l.length = L) (hL47 : L ≤ 140737488351232) (hl : IsB w (.slice x L c) l) (hL2 : l2.length = L2) (hL247 : L2 ≤ 140737488351232) (hl2 : IsB w (.slice x2 L2 c2) l2) (ha0 : -9223372036854775808 ≤ at_) (ha1 : at_ ≤ 9223372036854775807) :
    Calls Tryz.prog 5 #[.slice x L c, .slice x2 L2 c2, .int .i64 at_] w fun e w' => e = .returned (.bool true) ∧ Below w.heap.size w w' := by
  have kK := taken16_any O w hV
  go_enter Tryz.func5, Tryz.ntmps5
  go_wp2_with fail
  refine kK.mono ?_
  rintro e w8 ⟨rfl, hB8⟩
  clear kK
  obtain ⟨v1, w9, v2, wa, hr1, hr2, hO2, hBa8⟩ := app_lit16 w8 [] 0 #[] rfl rfl x L c l 126 hL (hl.kept hB8) (by omega) (by omega)
  rw [List.nil_append] at hO2
  have hBa : Below w.heap.size w wa := hB8.trans (hBa8.mono hB8.size)
  obtain ⟨gf, cf, rfl, hgf, hcf, -⟩ := hO2.form (by simp)
  have hgfa : gf < wa.heap.size := (World.ownsRow.lt hO2 gf rfl).2
  have hgfw : w.heap.size ≤ gf := Nat.le_trans hB8.size hgf
  have hM : (l ++ [(126 : UInt8)]).length = L + 1 := by rw [List.length_append, hL]; rfl
  rw [hM] at hr2 hO2 hcf
  obtain ⟨M, hMv⟩ : ∃ q, L + 1 = q := ⟨_, rfl⟩
  have HMV : Hid (L + 1 = M) := hMv
  rw [hMv] at hr2 hO2 hcf hM
  clear hMv
  have hfr : IsB wa (.slice (some ⟨gf, 0, none⟩) L cf) l := by
    have h9 := hO2.isB.frontB (m := L) (by rw [hM]; have := HMV.out; omega)
    rw [← hL, List.take_left, hL] at h9; exact h9
  have j0 : (0 : Int) ≤ (L : Int) := by omega
  have j1 : (L : Int) ≤ (cf : Int) := by have := HMV.out; omega
  have c126 := hO2.cellB L (by rw [hM]; have := HMV.out; omega)
  have e126 : lB (l ++ [(126 : UInt8)]) L = 126 := by
    unfold lB; rw [List.getElem?_append_right (by omega), hL, Nat.sub_self]; rfl
  rw [e126] at c126
  replace c126 : wa.cell? ⟨gf, L, none⟩ = some (.int .u8 126) := c126
  go_upto_region 4 with (at_builtin; first | (refine wpL_app rfl _ _ rfl v1 w9 (by exact hr1) ?_; clear hr1) | (refine wpL_app rfl _ _ rfl _ wa (by exact hr2) ?_; clear hr2))
  clear e126 hBa8
  -- the readings
  have HFR : Hid (IsB wa (.slice (some ⟨gf, 0, none⟩) L cf) l) := hfr
  have HO2 : Hid (OwnB wa w8.heap.size (.slice (some ⟨gf, 0, none⟩) M cf) (l ++ [(126 : UInt8)])) := hO2
  have HRd : Hid (∀ W, Below wa.heap.size wa W → Calls Tryz.prog 8 #[.slice (some ⟨gf, 0, none⟩) L cf] W fun e w' => RdP16 l W e w') := fun W hb => O.rd l _ L cf W hL (by have := HMV.out; omega) (by omega) (HFR.out.kept hb) (O.keep _ _ hV (hBa.trans (hb.mono hBa.size)))
  have R1 := refRead16_any read_size l x L c wa hL (hl.kept hBa) (by omega)
  unfold RdP16 at R1
  obtain ⟨⟨k1, D1⟩, hD1⟩ : ∃ q, mRd l = q := ⟨_, rfl⟩
  have hln1 := mRd_len l
  rw [hD1] at hln1
  have HD1 : Hid (mRd l = (k1, D1)) := hD1
  rw [hD1] at R1
  simp only at R1 hln1
  clear hfr hO2 hD1
  go_wp2_with fail
  refine R1.mono ?_
  rintro e w1 ⟨⟨ya, na, ca, rfl, hna, hOa⟩, hb1⟩
  clear R1
  have hB1 : Below wa.heap.size wa w1 := hb1
  obtain ⟨T1, hG1, t1, -⟩ := (Ga.start (Nat.le_refl wa.heap.size)).addK 0 hb1 hOa
  clear hOa hb1
  have R2 := refRead16_any read_size l2 x2 L2 c2 w1 hL2 ((hl2.kept hBa).kept hB1) (by omega)
  unfold RdP16 at R2
  obtain ⟨⟨k2, D2⟩, hD2⟩ : ∃ q, mRd l2 = q := ⟨_, rfl⟩
  have hln2 := mRd_len l2
  rw [hD2] at hln2
  have HD2 : Hid (mRd l2 = (k2, D2)) := hD2
  rw [hD2] at R2
  simp only at R2 hln2
  clear hD2
  go_wp2_with fail
  refine R2.mono ?_
  rintro e w2 ⟨⟨yb, nb, cb, rfl, hnb, hOb⟩, hb2⟩
  clear R2
  obtain ⟨T2, hG2, t2b, t2⟩ := hG1.addK 1 hb2 hOb
  have hB2 : Below wa.heap.size wa w2 := hB1.trans (hb2.mono hB1.size)
  have t2a := (t2 0 (by decide)).trans t1
  clear hOb hb2 hG1 t1 t2
  have R3 := HRd.out w2 hB2
  unfold RdP16 at R3
  rw [HD1.out] at R3
  simp only at R3
  go_wp2_with fail
  refine R3.mono ?_
  rintro e w3 ⟨⟨yc, nc, cc, rfl, hnc, hOc⟩, hb3⟩
  clear R3
  obtain ⟨T3, hG3, t3c, t3⟩ := hG2.addK 2 hb3 hOc
  have hB3 : Below wa.heap.size wa w3 := hB2.trans (hb3.mono hB2.size)
  have t3a := (t3 0 (by decide)).trans t2a
  have t3b := (t3 1 (by decide)).trans t2b
  clear hOc hb3 hG2 t2a t2b t3
  obtain ⟨vo, co, wo, hro, hco, hIo, hBo⟩ := copy_b16 w3 x2 L2 c2 l2 hL2 ((hl2.kept hBa).kept hB3) (by omega)
  have hB3o : Below wa.heap.size wa wo := hB3.trans (hBo.mono hB3.size)
  have hGo := hG3.later hBo
  have R4 := O.rd l2 vo L2 co wo hL2 hco (by omega) hIo (O.keep _ _ hV (hBa.trans (hB3o.mono hBa.size)))
  unfold RdP16 at R4
  rw [HD2.out] at R4
  simp only at R4
  clear hIo hBo hG3 hco
  go_wp2_with (at_builtin; refine wpL_app rfl _ _ rfl _ wo (by exact hro) ?_)
  refine R4.mono ?_
  rintro e w4 ⟨⟨yd, nd, cd, rfl, hnd, hOd⟩, hb4⟩
  clear R4 hro
  obtain ⟨T4, hG4, t4d, t4⟩ := hGo.addK 3 hb4 hOd
  have hB4 : Below wa.heap.size wa w4 := hB3o.trans (hb4.mono hB3o.size)
  have t4a := (t4 0 (by decide)).trans t3a
  have t4b := (t4 1 (by decide)).trans t3b
  have t4c := (t4 2 (by decide)).trans t3c
  clear hOd hb4 hGo t3a t3b t3c t4
  have R5 := HRd.out w4 hB4
  unfold RdP16 at R5
  rw [HD1.out] at R5
  simp only at R5
  go_wp2_with fail
  refine R5.mono ?_
  rintro e w5 ⟨⟨ye, ne, ce, rfl, hne, hOe⟩, hb5⟩
  clear R5
  obtain ⟨T5, hG5, t5e, t5⟩ := hG4.addK 4 hb5 hOe
  have hB5 : Below wa.heap.size wa w5 := hB4.trans (hb5.mono hB4.size)
  have t5a := (t5 0 (by decide)).trans t4a
  have t5b := (t5 1 (by decide)).trans t4b
  have t5c := (t5 2 (by decide)).trans t4c
  have t5d := (t5 3 (by decide)).trans t4d
  clear hOe hb5 hG4 t4a t4b t4c t4d t5
  have S1 := same16_any D1 D1 yc ya nc na cc ca w5 hnc hna ((hG5.isK t5c).isK dcE_ok) ((hG5.isK t5a).isK dcE_ok) (by omega)
  rw [sameD_refl] at S1
  go_wp2_with fail
  refine S1.mono ?_
  rintro e w6 ⟨rfl, hb6⟩
  clear S1
  have hG6 := hG5.later hb6
  have hB6 : Below wa.heap.size wa w6 := hB5.trans (hb6.mono hB5.size)
  clear hG5 hb6
  have S2 := same16_any D1 D1 ye ya ne na ce ca w6 hne hna ((hG6.isK t5e).isK dcE_ok) ((hG6.isK t5a).isK dcE_ok) (by omega)
  rw [sameD_refl] at S2
  go_wp2_with fail
  refine S2.mono ?_
  rintro e w7 ⟨rfl, hb7⟩
  clear S2
  have hG7 := hG6.later hb7
  have hB7 : Below wa.heap.size wa w7 := hB6.trans (hb7.mono hB6.size)
  clear hG6 hb7
  have S3 := same16_any D2 D2 yd yb nd nb cd cb w7 hnd hnb ((hG7.isK t5d).isK dcE_ok) ((hG7.isK t5b).isK dcE_ok) (by omega)
  rw [sameD_refl] at S3
  go_wp2_with fail
  refine S3.mono ?_
  rintro e wb ⟨rfl, hbb⟩
  clear S3
  have hGb := hG7.later hbb
  have hBb : Below wa.heap.size wa wb := hB7.trans (hbb.mono hB7.size)
  clear hG7 hbb hB1 hB2 hB3 hB3o hB4 hB5 hB6 hB7
  have s1 := (HFR.out.kept hBb).str
  have s2 := ((hl.kept hBa).kept hBb).str
  obtain ⟨LB, hLB⟩ : ∃ q : ByteArray, ⟨l.toArray⟩ = q := ⟨_, rfl⟩
  rw [hLB] at s1 s2
  have c1 := cell_later hBb c126
  have hwn : IntKind.i64.wrap ((L : Int) + 1) = (M : Int) := by rw [IntKind.wrap_i64]; have := HMV.out; omega
  have i1 : (0 : Int) ≤ (M : Int) := by omega
  have i2 : (M : Int) ≤ (cf : Int) := by omega
  have i3 : (L : Int) < (M : Int) := by have := HMV.out; omega
  have hA := apart16_any hGb 2 4 (by decide) yc ye nc cc ne ce D1 D1 t5c t5e (by omega) (by omega)
  have HTT : Hid (T5 3 = some (thK dcE wa.heap.size (.slice yd nd cd) D2) ∧ T5 1 = some (thK dcE wa.heap.size (.slice yb nb cb) D2)) := ⟨t5d, t5b⟩
  clear hLB c126 j1 t5a t5b t5c t5d t5e hGb
  go_upto_region 11 with fail
  clear s1 s2 c1 hwn i1 i2 i3
  go_wp2_with fail
  refine hA.mono ?_
  rintro e wc ⟨rfl, T6, hG6, hT6, hbc⟩
  clear hA
  have hBc : Below wa.heap.size wa wc := hBb.trans hbc
  have S4 := same16_any D2 D2 yd yb nd nb cd cb wc hnd hnb ((hG6.isK ((hT6 3 (by decide) (by decide)).trans HTT.out.1)).isK dcE_ok) ((hG6.isK ((hT6 1 (by decide) (by decide)).trans HTT.out.2)).isK dcE_ok) (by omega)
  rw [sameD_refl] at S4
  clear hG6 hT6 hbc hBb HTT
  go_wp2_with fail
  refine S4.mono ?_
  rintro e wd ⟨rfl, hbd⟩
  clear S4
  have hBd : Below wa.heap.size wa wd := hBc.trans (hbd.mono hBc.size)
  have hBdw : Below w.heap.size w wd := hBa.trans (hBd.mono hBa.size)
  clear hBc hbd hna hnb hnc hnd hne
  by_cases hat : at_ < 0
  · go_wp2
    go_ret
    exact ⟨rfl, hBdw⟩
  · by_cases hat2 : (L : Int) ≤ at_
    · go_wp2
      go_ret
      exact ⟨rfl, hBdw⟩
    · obtain ⟨a, rfl⟩ := Int.eq_ofNat_of_zero_le (show 0 ≤ at_ by omega)
      have a0 : (0 : Int) ≤ (a : Int) := by omega
      have a1 : (a : Int) < (L : Int) := by omega
      have R6 := HRd.out wd hBd
      unfold RdP16 at R6
      rw [HD1.out] at R6
      simp only at R6
      clear HRd
      go_wp2_with fail
      refine R6.mono ?_
      rintro e we ⟨⟨y6, n6, c6, rfl, -, -⟩, hbe⟩
      clear R6
      have hBe : Below wa.heap.size wa we := hBd.trans (hbe.mono hBd.size)
      have hBew : Below w.heap.size w we := hBa.trans (hBe.mono hBa.size)
      have hOe := HO2.out.keep hBe
      have haM : a < (l ++ [(126 : UInt8)]).length := by rw [hM]; have := HMV.out; omega
      have ca := hOe.cellB a haM
      have za := hOe.softB a
      obtain ⟨A, hAv⟩ : ∃ q, lB (l ++ [(126 : UInt8)]) a = q := ⟨_, rfl⟩
      rw [hAv] at ca
      obtain ⟨A', hA'⟩ : ∃ q, A ^^^ 1 = q := ⟨_, rfl⟩
      have hxo : bits .xor .u8 (A.toNat : Int) 1 = (A'.toNat : Int) := by rw [xor_one, hA']
      have hOf := hOe.setB hM a A'
      have hgs := grL_set we gf a (.int .u8 (A'.toNat : Int))
      have hBf : Below w.heap.size w (we.setCell ⟨gf, a, none⟩ (.int .u8 (A'.toNat : Int))) := hBew.trans ⟨hgs.os, hgs.tape, hgs.output, hgs.size, fun q hq => hgs.block q (Nat.lt_of_lt_of_le hq hBew.size) (fun e => by cases e; omega)⟩
      obtain ⟨l', hl'⟩ : ∃ q, l.set a A' = q := ⟨_, rfl⟩
      have hll : l'.length = L := by rw [← hl', List.length_set, hL]
      have hset : (l ++ [(126 : UInt8)]).set a A' = l' ++ [126] := by rw [List.set_append_left _ _ (by omega), hl']
      rw [hset] at hOf
      have hIf : IsB (we.setCell ⟨gf, a, none⟩ (.int .u8 (A'.toNat : Int))) (.slice (some ⟨gf, 0, none⟩) L cf) l' := by
        have h9 := hOf.isB.frontB (m := L) (by rw [List.length_append, hll]; simp)
        rw [← hll, List.take_left, hll] at h9; exact h9
      clear hOf hgs hset hl' hOe hAv hA' haM
      go_upto_region 17 with fail
      clear ca za hxo
      generalize we.setCell ⟨gf, a, none⟩ (.int .u8 (A'.toNat : Int)) = W at hBf hIf ⊢
      obtain ⟨vo2, co2, wo2, hro2, hco2, hIo2, hBo2⟩ := copy_b16 W (some ⟨gf, 0, none⟩) L cf l' hll hIf (by omega)
      have R7 := refRead16_any read_size l' vo2 L co2 wo2 hll hIo2 (by omega)
      unfold RdP16 at R7
      obtain ⟨⟨k3, D3⟩, hD3⟩ : ∃ q, mRd l' = q := ⟨_, rfl⟩
      have hln3 := mRd_len l'
      rw [hD3] at R7 hln3
      have HD3 : Hid (mRd l' = (k3, D3)) := hD3
      simp only at R7 hln3
      clear hIo2 hD3
      go_wp2_with (at_builtin; refine wpL_app rfl _ _ rfl _ wo2 (by exact hro2) ?_)
      refine R7.mono ?_
      rintro e wg ⟨⟨y7, n7, c7, rfl, hn7, hO7⟩, hbg⟩
      clear R7 hro2
      have hBg : Below W.heap.size W wg := hBo2.trans (hbg.mono hBo2.size)
      have hBgw : Below w.heap.size w wg := hBf.trans (hBg.mono hBf.size)
      have R8 := O.rd l' (some ⟨gf, 0, none⟩) L cf wg hll (by have := HMV.out; omega) (by omega) (hIf.kept hBg) (O.keep _ _ hV hBgw)
      unfold RdP16 at R8
      rw [HD3.out] at R8
      simp only at R8
      go_wp2_with fail
      refine R8.mono ?_
      rintro e wh ⟨⟨y8, n8, c8, rfl, hn8, hO8⟩, hbh⟩
      clear R8
      have S5 := same16_any D3 D3 y8 y7 n8 n7 c8 c7 wh hn8 hn7 (hO8.isK dcE_ok) ((hO7.keep hbh).isK dcE_ok) (by omega)
      rw [sameD_refl] at S5
      have hBhw : Below w.heap.size w wh := hBgw.trans (hbh.mono hBgw.size)
      clear hO7 hO8 hn7 hn8
      go_wp2_with fail
      refine S5.mono ?_
      rintro e wi ⟨rfl, hbi⟩
      clear S5
      have HB : Hid (Below w.heap.size w wi) := hBhw.trans (hbi.mono hBhw.size)
      go_wp2
      go_ret
      exact ⟨rfl, HB.out⟩
end Go.Proofs.YtalnbddkhojjbaaGreatDoor
