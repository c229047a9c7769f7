import Derived.Test.YtiokdcffpnjkcaaDoorQLxx
namespace Go.Proofs.YtiokdcffpnjkcaaDoor
open Go.RowKit

/-! lex.first -/
theorem word_text (x : List UInt8) (n : Nat) : (wordTk x n).1.text = [] := by
  unfold wordTk
  (repeat' split) <;> rfl
theorem word_one (x : List UInt8) (n : Nat) : wordTk x n = if (wordTk x 1).2 = 0 then (tkZ, 0) else ((wordTk x 1).1, n) := by
  unfold wordTk
  (repeat' split) <;> first | rfl | simp_all
set_option linter.unusedSimpArgs false in
set_option maxRecDepth 100000 in
set_option maxHeartbeats 4000000 in
theorem first_any (s : ByteArray) (w : World) (hV : Vx w) (h1 : 1 ≤ s.size) (h40 : s.size ≤ 1099511627776) : Calls Tryd.prog 20 #[.string s] w fun e w' => FsP (oneTk (lS s)) w e w' := by
  have hls := lS_len s
  have hat : ∀ W, (sAt (.string s) (.int .i64 0)).run Tryd.prog W = .ok (.value (.int .u8 ((lB (lS s) 0).toNat : Int))) W := fun W => run_sAt W s 0 (by omega)
  have S1 := sgn_R (lS s)
  have S2 := sgn_no (lS s)
  have rX := RowC.new w (tkA 0 0 0 ⟨#[]⟩) 31
  have bX := below_alloc w (.cells (tkA 0 0 0 ⟨#[]⟩) 31)
  have hVX := hV.below bX
  have kq := fun W hW => quoted_any s W hW h1 h40
  have kw := fun W => word_any s W
  have hwl := wl_le (lS s)
  obtain ⟨l, hl⟩ : ∃ q, lS s = q := ⟨_, rfl⟩
  simp only [hl] at hls hat S1 S2 kq kw hwl ⊢
  obtain ⟨g, hg⟩ : ∃ q, w.heap.size = q := ⟨_, rfl⟩
  have HG : Hid (w.heap.size = g) := hg
  rw [hg] at rX bX
  generalize lB l 0 = c at hat S1 S2
  clear hl h1
  by_cases hc : c = 123
  · have c0 : ((c.toNat : Int) == 123) = true := by rw [hc]; rfl
    have c1 : ((c.toNat : Int) == 125) = false := by rw [hc]; rfl
    have c2 : ((c.toNat : Int) == 91) = false := by rw [hc]; rfl
    have c3 : ((c.toNat : Int) == 93) = false := by rw [hc]; rfl
    have c4 : ((c.toNat : Int) == 58) = false := by rw [hc]; rfl
    have c5 : ((c.toNat : Int) == 44) = false := by rw [hc]; rfl
    have c6 : ((c.toNat : Int) == 34) = false := by rw [hc]; rfl
    have hT : oneTk l = (⟨1, 0, 0, []⟩, 1) := S1 0 (by rw [hc]; rfl)
    rw [hT]
    have hfin := mn_lay (d := tkA 1 0 0 ⟨#[]⟩) hg bX rX
    have HC : Hid _ := hfin.1
    have HB : Hid _ := hfin.2
    obtain ⟨d1, d2⟩ := rX
    clear hT hc S1 S2 hfin bX kq kw hls hVX
    go_enter Tryd.func20, Tryd.ntmps20
    go_upto_region 1 with fail
    clear hg
    generalize w.alloc (.cells (tkA 0 0 0 ⟨#[]⟩) 31) = X at d1 d2 HC HB ⊢
    go_wp2
    exact tl_bodyPost2 2 3 g (tkA 1 0 0 ⟨#[]⟩) rfl rfl rfl HC.out rfl ⟨⟨1, 0, 0, ⟨#[]⟩, rfl, fun _ => ⟨rfl, rfl, rfl, rfl⟩⟩, HB.out⟩
  have n123 := hc
  clear hc
  by_cases hc : c = 125
  · have c0 : ((c.toNat : Int) == 123) = false := by rw [hc]; rfl
    have c1 : ((c.toNat : Int) == 125) = true := by rw [hc]; rfl
    have c2 : ((c.toNat : Int) == 91) = false := by rw [hc]; rfl
    have c3 : ((c.toNat : Int) == 93) = false := by rw [hc]; rfl
    have c4 : ((c.toNat : Int) == 58) = false := by rw [hc]; rfl
    have c5 : ((c.toNat : Int) == 44) = false := by rw [hc]; rfl
    have c6 : ((c.toNat : Int) == 34) = false := by rw [hc]; rfl
    have hT : oneTk l = (⟨2, 0, 0, []⟩, 1) := S1 1 (by rw [hc]; rfl)
    rw [hT]
    have hfin := mn_lay (d := tkA 2 0 0 ⟨#[]⟩) hg bX rX
    have HC : Hid _ := hfin.1
    have HB : Hid _ := hfin.2
    obtain ⟨d1, d2⟩ := rX
    clear hT hc S1 S2 hfin bX kq kw hls hVX
    go_enter Tryd.func20, Tryd.ntmps20
    go_upto_region 1 with fail
    clear hg
    generalize w.alloc (.cells (tkA 0 0 0 ⟨#[]⟩) 31) = X at d1 d2 HC HB ⊢
    go_wp2
    exact tl_bodyPost2 2 3 g (tkA 2 0 0 ⟨#[]⟩) rfl rfl rfl HC.out rfl ⟨⟨2, 0, 0, ⟨#[]⟩, rfl, fun _ => ⟨rfl, rfl, rfl, rfl⟩⟩, HB.out⟩
  have n125 := hc
  clear hc
  by_cases hc : c = 91
  · have c0 : ((c.toNat : Int) == 123) = false := by rw [hc]; rfl
    have c1 : ((c.toNat : Int) == 125) = false := by rw [hc]; rfl
    have c2 : ((c.toNat : Int) == 91) = true := by rw [hc]; rfl
    have c3 : ((c.toNat : Int) == 93) = false := by rw [hc]; rfl
    have c4 : ((c.toNat : Int) == 58) = false := by rw [hc]; rfl
    have c5 : ((c.toNat : Int) == 44) = false := by rw [hc]; rfl
    have c6 : ((c.toNat : Int) == 34) = false := by rw [hc]; rfl
    have hT : oneTk l = (⟨3, 0, 0, []⟩, 1) := S1 2 (by rw [hc]; rfl)
    rw [hT]
    have hfin := mn_lay (d := tkA 3 0 0 ⟨#[]⟩) hg bX rX
    have HC : Hid _ := hfin.1
    have HB : Hid _ := hfin.2
    obtain ⟨d1, d2⟩ := rX
    clear hT hc S1 S2 hfin bX kq kw hls hVX
    go_enter Tryd.func20, Tryd.ntmps20
    go_upto_region 1 with fail
    clear hg
    generalize w.alloc (.cells (tkA 0 0 0 ⟨#[]⟩) 31) = X at d1 d2 HC HB ⊢
    go_wp2
    exact tl_bodyPost2 2 3 g (tkA 3 0 0 ⟨#[]⟩) rfl rfl rfl HC.out rfl ⟨⟨3, 0, 0, ⟨#[]⟩, rfl, fun _ => ⟨rfl, rfl, rfl, rfl⟩⟩, HB.out⟩
  have n91 := hc
  clear hc
  by_cases hc : c = 93
  · have c0 : ((c.toNat : Int) == 123) = false := by rw [hc]; rfl
    have c1 : ((c.toNat : Int) == 125) = false := by rw [hc]; rfl
    have c2 : ((c.toNat : Int) == 91) = false := by rw [hc]; rfl
    have c3 : ((c.toNat : Int) == 93) = true := by rw [hc]; rfl
    have c4 : ((c.toNat : Int) == 58) = false := by rw [hc]; rfl
    have c5 : ((c.toNat : Int) == 44) = false := by rw [hc]; rfl
    have c6 : ((c.toNat : Int) == 34) = false := by rw [hc]; rfl
    have hT : oneTk l = (⟨4, 0, 0, []⟩, 1) := S1 3 (by rw [hc]; rfl)
    rw [hT]
    have hfin := mn_lay (d := tkA 4 0 0 ⟨#[]⟩) hg bX rX
    have HC : Hid _ := hfin.1
    have HB : Hid _ := hfin.2
    obtain ⟨d1, d2⟩ := rX
    clear hT hc S1 S2 hfin bX kq kw hls hVX
    go_enter Tryd.func20, Tryd.ntmps20
    go_upto_region 1 with fail
    clear hg
    generalize w.alloc (.cells (tkA 0 0 0 ⟨#[]⟩) 31) = X at d1 d2 HC HB ⊢
    go_wp2
    exact tl_bodyPost2 2 3 g (tkA 4 0 0 ⟨#[]⟩) rfl rfl rfl HC.out rfl ⟨⟨4, 0, 0, ⟨#[]⟩, rfl, fun _ => ⟨rfl, rfl, rfl, rfl⟩⟩, HB.out⟩
  have n93 := hc
  clear hc
  by_cases hc : c = 58
  · have c0 : ((c.toNat : Int) == 123) = false := by rw [hc]; rfl
    have c1 : ((c.toNat : Int) == 125) = false := by rw [hc]; rfl
    have c2 : ((c.toNat : Int) == 91) = false := by rw [hc]; rfl
    have c3 : ((c.toNat : Int) == 93) = false := by rw [hc]; rfl
    have c4 : ((c.toNat : Int) == 58) = true := by rw [hc]; rfl
    have c5 : ((c.toNat : Int) == 44) = false := by rw [hc]; rfl
    have c6 : ((c.toNat : Int) == 34) = false := by rw [hc]; rfl
    have hT : oneTk l = (⟨5, 0, 0, []⟩, 1) := S1 4 (by rw [hc]; rfl)
    rw [hT]
    have hfin := mn_lay (d := tkA 5 0 0 ⟨#[]⟩) hg bX rX
    have HC : Hid _ := hfin.1
    have HB : Hid _ := hfin.2
    obtain ⟨d1, d2⟩ := rX
    clear hT hc S1 S2 hfin bX kq kw hls hVX
    go_enter Tryd.func20, Tryd.ntmps20
    go_upto_region 1 with fail
    clear hg
    generalize w.alloc (.cells (tkA 0 0 0 ⟨#[]⟩) 31) = X at d1 d2 HC HB ⊢
    go_wp2
    exact tl_bodyPost2 2 3 g (tkA 5 0 0 ⟨#[]⟩) rfl rfl rfl HC.out rfl ⟨⟨5, 0, 0, ⟨#[]⟩, rfl, fun _ => ⟨rfl, rfl, rfl, rfl⟩⟩, HB.out⟩
  have n58 := hc
  clear hc
  by_cases hc : c = 44
  · have c0 : ((c.toNat : Int) == 123) = false := by rw [hc]; rfl
    have c1 : ((c.toNat : Int) == 125) = false := by rw [hc]; rfl
    have c2 : ((c.toNat : Int) == 91) = false := by rw [hc]; rfl
    have c3 : ((c.toNat : Int) == 93) = false := by rw [hc]; rfl
    have c4 : ((c.toNat : Int) == 58) = false := by rw [hc]; rfl
    have c5 : ((c.toNat : Int) == 44) = true := by rw [hc]; rfl
    have c6 : ((c.toNat : Int) == 34) = false := by rw [hc]; rfl
    have hT : oneTk l = (⟨6, 0, 0, []⟩, 1) := S1 5 (by rw [hc]; rfl)
    rw [hT]
    have hfin := mn_lay (d := tkA 6 0 0 ⟨#[]⟩) hg bX rX
    have HC : Hid _ := hfin.1
    have HB : Hid _ := hfin.2
    obtain ⟨d1, d2⟩ := rX
    clear hT hc S1 S2 hfin bX kq kw hls hVX
    go_enter Tryd.func20, Tryd.ntmps20
    go_upto_region 1 with fail
    clear hg
    generalize w.alloc (.cells (tkA 0 0 0 ⟨#[]⟩) 31) = X at d1 d2 HC HB ⊢
    go_wp2
    exact tl_bodyPost2 2 3 g (tkA 6 0 0 ⟨#[]⟩) rfl rfl rfl HC.out rfl ⟨⟨6, 0, 0, ⟨#[]⟩, rfl, fun _ => ⟨rfl, rfl, rfl, rfl⟩⟩, HB.out⟩
  have n44 := hc
  clear hc
  have hno : sgnAt c 6 0 = none := by simp [sgnAt, sgns, lB, n123, n125, n91, n93, n58, n44]
  have hT := S2 hno
  clear S1 S2 hno
  by_cases hc : c = 34
  · have c0 : ((c.toNat : Int) == 123) = false := by rw [hc]; rfl
    have c1 : ((c.toNat : Int) == 125) = false := by rw [hc]; rfl
    have c2 : ((c.toNat : Int) == 91) = false := by rw [hc]; rfl
    have c3 : ((c.toNat : Int) == 93) = false := by rw [hc]; rfl
    have c4 : ((c.toNat : Int) == 58) = false := by rw [hc]; rfl
    have c5 : ((c.toNat : Int) == 44) = false := by rw [hc]; rfl
    have c6 : ((c.toNat : Int) == 34) = true := by rw [hc]; rfl
    rw [if_pos hc] at hT
    rw [← hT] at kq
    generalize oneTk l = R at kq ⊢
    clear hT hc kw n123 n125 n91 n93 n58 n44 hls
    go_enter Tryd.func20, Tryd.ntmps20
    go_upto_region 1 with fail
    clear hg
    generalize w.alloc (.cells (tkA 0 0 0 ⟨#[]⟩) 31) = X at rX bX hVX ⊢
    go_wp2_with fail
    refine (kq _ hVX).mono ?_
    rintro e w1 ⟨⟨k, a, n, S, rfl, hR⟩, hb⟩
    have hr1 := rX.kept hb
    have hb1 : Below g w w1 := bX.trans (hb.mono (by have := rX.lt; omega))
    have hfin := mn_lay (d := tkA k a n S) HG.out hb1 hr1
    have HC : Hid _ := hfin.1
    have HB : Hid _ := hfin.2
    obtain ⟨d1, d2⟩ := hr1
    clear hfin rX bX hVX hb hb1 kq
    have h1c : OneC (tkA k a n S) = true := tk_one k a n S
    have hsz : (tkA k a n S).size = 4 := by simp [tkA]
    have d3 : (rowAt w1 g).size = 4 := by rw [d2]; simp [tkA]
    go_wp2
    exact tl_bodyPost2 2 3 g (tkA k a n S) rfl rfl rfl HC.out rfl ⟨⟨k, a, n, S, rfl, hR⟩, HB.out⟩
  have n34 := hc
  rw [if_neg hc] at hT
  have c0 : ((c.toNat : Int) == 123) = false := beq_eq_false_iff_ne.2 fun e => n123 (UInt8.toNat_inj.1 (by show c.toNat = 123; omega))
  have c1 : ((c.toNat : Int) == 125) = false := beq_eq_false_iff_ne.2 fun e => n125 (UInt8.toNat_inj.1 (by show c.toNat = 125; omega))
  have c2 : ((c.toNat : Int) == 91) = false := beq_eq_false_iff_ne.2 fun e => n91 (UInt8.toNat_inj.1 (by show c.toNat = 91; omega))
  have c3 : ((c.toNat : Int) == 93) = false := beq_eq_false_iff_ne.2 fun e => n93 (UInt8.toNat_inj.1 (by show c.toNat = 93; omega))
  have c4 : ((c.toNat : Int) == 58) = false := beq_eq_false_iff_ne.2 fun e => n58 (UInt8.toNat_inj.1 (by show c.toNat = 58; omega))
  have c5 : ((c.toNat : Int) == 44) = false := beq_eq_false_iff_ne.2 fun e => n44 (UInt8.toNat_inj.1 (by show c.toNat = 44; omega))
  have c6 : ((c.toNat : Int) == 34) = false := beq_eq_false_iff_ne.2 fun e => n34 (UInt8.toNat_inj.1 (by show c.toNat = 34; omega))
  clear hc n123 n125 n91 n93 n58 n44 n34 kq
  rw [word_one] at hT
  have hx : (l.take (wl l)).length = wl l := by rw [List.length_take]; omega
  have km := fun (S : ByteArray) W hW (h : lS S = l.take (wl l)) => meaning_any S W hW (by rw [← lS_len, h, hx]; omega)
  generalize oneTk l = R at hT ⊢
  have HL : Hid (wl l ≤ 1099511627776) := by show _ ≤ _; omega
  clear hwl hls
  generalize wl l = L at hT kw km hx HL
  generalize l.take L = x at hT kw km hx
  go_enter Tryd.func20, Tryd.ntmps20
  go_upto_region 1 with fail
  clear hg
  generalize w.alloc (.cells (tkA 0 0 0 ⟨#[]⟩) 31) = X at rX bX hVX ⊢
  go_wp2_with fail
  refine (kw _).mono ?_
  rintro e w1 ⟨⟨S, rfl, hS⟩, hb⟩
  have hr1 := rX.kept hb
  have hb1 : Below g w w1 := bX.trans (hb.mono (by have := rX.lt; omega))
  have hV1 := hVX.below hb
  have k2 := km S w1 hV1 hS
  rw [hS] at k2
  have hSz : S.size = L := by rw [← lS_len, hS, hx]
  clear kw km rX bX hVX hb hS hx
  unfold MnP at k2
  have hWt := word_text x 1
  generalize wordTk x 1 = WT at k2 hT hWt
  obtain ⟨ok, hok⟩ : ∃ q, decide (WT.2 ≠ 0) = q := ⟨_, rfl⟩
  rw [hok] at k2
  have HO : Hid (decide (WT.2 ≠ 0) = ok) := hok
  have HT : Hid (R = if WT.2 = 0 then (tkZ, 0) else (WT.1, L)) := hT
  have HWt : Hid (WT.1.text = []) := hWt
  clear hok hT hWt
  go_wp2_with fail
  refine k2.mono ?_
  rintro e w2 ⟨rfl, hb⟩
  have hr2 := hr1.kept hb
  have hb2 : Below g w w2 := hb1.trans (hb.mono (by have := hr1.lt; omega))
  have hlt := hr2.lt
  have hC := tk_one WT.1.kind 0 WT.1.n ⟨#[]⟩
  have hC1 : OneC (tkA WT.1.kind 0 WT.1.n ⟨#[]⟩) = true := hC
  have hsz : (tkA WT.1.kind 0 WT.1.n ⟨#[]⟩).size = 4 := by simp [tkA]
  clear k2 hr1 hb1 hV1 hb hC
  have hr5 : RowC (w2.alloc (.cells (tkA WT.1.kind 0 WT.1.n ⟨#[]⟩) 31)) w2.heap.size (tkA WT.1.kind 0 WT.1.n ⟨#[]⟩) := RowC.new w2 _ _
  have hb6 : Below g w (w2.alloc (.cells (tkA WT.1.kind 0 WT.1.n ⟨#[]⟩) 31)) := hb2.alloc (by omega) _
  have hr6 : RowC (w2.alloc (.cells (tkA WT.1.kind 0 WT.1.n ⟨#[]⟩) 31)) g (tkA 0 0 0 ⟨#[]⟩) := hr2.kept (below_alloc w2 _)
  obtain ⟨g2, hg2⟩ : ∃ q, w2.heap.size = q := ⟨_, rfl⟩
  rw [hg2] at hr5
  have hne : g ≠ g2 := by omega
  clear hr2 hb2 hlt
  go_upto_region 18 with fail
  generalize w2.alloc (.cells (tkA WT.1.kind 0 WT.1.n ⟨#[]⟩) 31) = W6 at hr5 hr6 hb6 ⊢
  clear hg2
  cases ok with
  | false =>
    have h0 : WT.2 = 0 := Classical.not_not.1 (of_decide_eq_false HO.out)
    have HR : Hid (R = (tkZ, 0)) := by show _ = _; rw [HT.out, if_pos h0]
    have hfin := mn_lay (d := tkA 0 0 0 ⟨#[]⟩) HG.out hb6 hr6
    have HC : Hid _ := hfin.1
    have HB : Hid _ := hfin.2
    obtain ⟨d1, d2⟩ := hr6
    clear h0 hfin hb6 hr5 hne
    go_wp2
    exact tl_bodyPost2 2 3 g (tkA 0 0 0 ⟨#[]⟩) rfl rfl rfl HC.out rfl ⟨⟨0, 0, 0, ⟨#[]⟩, by rw [HR.out]; rfl, fun h => absurd (by rw [HR.out]) h⟩, HB.out⟩
  | true =>
    have h0 : WT.2 ≠ 0 := of_decide_eq_true HO.out
    have HR : Hid (R = (WT.1, L)) := by show _ = _; rw [HT.out, if_neg h0]
    have hfin := mn_lay (d := tkA WT.1.kind 0 WT.1.n ⟨#[]⟩) HG.out hb6 hr6
    have HC : Hid _ := hfin.1
    have HB : Hid _ := hfin.2
    obtain ⟨d1, d2⟩ := hr6
    have d3 : (rowAt W6 g).size = 4 := by rw [d2]; simp [tkA]
    obtain ⟨e1, e2⟩ := hr5
    have e3 : (rowAt W6 g2).size = 4 := by rw [e2]; simp [tkA]
    clear h0 hfin hb6 hne
    go_wp2
    exact tl_bodyPost2 2 3 g (tkA WT.1.kind 0 WT.1.n ⟨#[]⟩) rfl rfl rfl HC.out rfl ⟨⟨WT.1.kind, 0, WT.1.n, ⟨#[]⟩, by rw [HR.out]; rfl, fun _ => by rw [HR.out]; exact ⟨rfl, rfl, rfl, HWt.out.symm⟩⟩, HB.out⟩
end Go.Proofs.YtiokdcffpnjkcaaDoor
