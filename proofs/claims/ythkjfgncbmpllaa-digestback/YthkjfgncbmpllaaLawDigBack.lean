
import Derived.Test.YthkjfgncbmpllaaLawDigSays
import Derived.Test.YthkjfgncbmpllaaDigB
namespace Go.Proofs.Ythkjfgncbmpllaa
open Go.RowKit

theorem str_list (l : List UInt8) : (ByteArray.mk l.toArray).toList = l := by rw [ByteArray.toList_eq]
theorem str_size (l : List UInt8) : (ByteArray.mk l.toArray).size = l.length := by show l.toArray.size = _; simp
/-- The three ways that two digests may stand. -/
structure Way (a b : Dg) (S T : ByteArray) (e l : Bool) (c : Int) : Prop where
  eq : dg_secEq a b = e
  str : (S.toList == T.toList) = e
  less : Op.bytesLess S.toList T.toList = l
  cab : dcmp a b = c
  cba : dcmp b a = -c
theorem way_any (a b : Dg) : Way a b ⟨(textL a).toArray⟩ ⟨(textL b).toArray⟩ false true (-1) ∨ Way a b ⟨(textL a).toArray⟩ ⟨(textL b).toArray⟩ false false 1 ∨ Way a b ⟨(textL a).toArray⟩ ⟨(textL b).toArray⟩ true false 0 := by
  have ne : dN a ≠ dN b → dg_secEq a b = false ∧ ((textL a) == (textL b)) = false := fun h => ⟨by rw [secEq_num]; simp [h], beq_eq_false_iff_ne.2 fun e => h (text_inj a b e)⟩
  rcases (by omega : dN a < dN b ∨ dN b < dN a ∨ dN a = dN b) with h | h | h
  · obtain ⟨h1, h2⟩ := ne (by omega)
    refine .inl ⟨h1, by rw [str_list, str_list]; exact h2, by rw [str_list, str_list]; exact (text_less a b h).1, ?_, ?_⟩
    · rw [dcmp_num, if_pos h]
    · rw [dcmp_num, if_neg (by omega), if_pos h]; rfl
  · obtain ⟨h1, h2⟩ := ne (by omega)
    refine .inr (.inl ⟨h1, by rw [str_list, str_list]; exact h2, by rw [str_list, str_list]; exact (text_less b a h).2, ?_, ?_⟩)
    · rw [dcmp_num, if_neg (by omega), if_pos h]
    · rw [dcmp_num, if_pos h]
  · have hs : ∀ i, i < 32 → a i = b i := dnum_inj a b 32 h
    have ht := text_same a b hs
    refine .inr (.inr ⟨by rw [secEq_num]; simp [h], by rw [str_list, str_list, ht]; simp, by rw [str_list, str_list, ht]; exact less_self _, ?_, ?_⟩)
    · rw [dcmp_num, if_neg (by omega), if_neg (by omega)]
    · rw [dcmp_num, if_neg (by omega), if_neg (by omega)]; rfl
set_option linter.unusedSimpArgs false in
set_option maxRecDepth 100000 in
set_option maxHeartbeats 1600000 in
theorem lawDigBack_any (hT : TextOk) (hP : ParseOk) (hC : CompareOk) (hK : KnownOk) (a b : Dg) (l : List UInt8) (w : World) :
    Calls Try.prog 3 #[.agg (dg_secA a), .agg (dg_secA b), .string ⟨l.toArray⟩] w fun e w' => e = .returned (.bool true) ∧ Below w.heap.size w w' := by
  have hway := way_any a b
  have hTa := hT a
  have hTb := hT b
  have hPa := hP (textL a)
  have hsz : (ByteArray.mk (textL a).toArray).size = 71 := by rw [str_size, textL_len]
  obtain ⟨S, hS⟩ : ∃ S, ByteArray.mk (textL a).toArray = S := ⟨_, rfl⟩
  obtain ⟨T, hT'⟩ : ∃ S, ByteArray.mk (textL b).toArray = S := ⟨_, rfl⟩
  rw [hS] at hTa hPa hsz hway
  rw [hT'] at hTb hway
  have HG : Hid (∀ d c, ParsedTo (textL a) d c → dg_secEq d a = true ∧ c = 0) := fun d c h => by
    rcases h with ⟨_, rfl, rfl⟩ | ⟨hn, _, _⟩
    · exact ⟨(dg_secEq_iff _ _).2 (text_good a).2, rfl⟩
    · exact absurd (text_good a).1 hn
  clear hS hT'
  have hB0 : Below w.heap.size w ((w.alloc (.cells (dg_secA a) 23)).alloc (.cells (dg_secA b) 23)) := (below_alloc w _).alloc (by simp) _
  have hRa : DgR ((w.alloc (.cells (dg_secA a) 23)).alloc (.cells (dg_secA b) 23)) w.heap.size a := (DgR.new w a _).kept (below_alloc _ _)
  have hRb : DgR ((w.alloc (.cells (dg_secA a) 23)).alloc (.cells (dg_secA b) 23)) (w.heap.size + 1) b := by
    have := DgR.new (w.alloc (.cells (dg_secA a) 23)) b 23
    rw [World.size_alloc] at this
    exact this
  go_enter Try.func3, Try.ntmps3
  go_upto_region 1 with fail
  obtain ⟨gb, hgb⟩ : ∃ g, w.heap.size + 1 = g := ⟨_, rfl⟩
  rw [hgb] at hRb
  simp only [hgb]
  clear hgb
  generalize (w.alloc (.cells (dg_secA a) 23)).alloc (.cells (dg_secA b) 23) = X at hB0 hRa hRb ⊢
  obtain ⟨r1, q1⟩ := hRa
  go_wp2_with fail
  refine (hTa _).mono ?_
  rintro e w1 ⟨rfl, hw1⟩
  replace hRa : DgR w1 _ a := DgR.kept ⟨r1, q1⟩ hw1
  replace hRb := hRb.kept hw1
  replace hB0 := hB0.trans (hw1.mono hB0.size)
  clear r1 q1 hw1 hTa
  obtain ⟨r2, q2⟩ := hRb
  go_wp2_with fail
  refine (hTb _).mono ?_
  rintro e w2 ⟨rfl, hw2⟩
  replace hRa := hRa.kept hw2
  replace hRb : DgR w2 _ b := DgR.kept ⟨r2, q2⟩ hw2
  replace hB0 := hB0.trans (hw2.mono hB0.size)
  clear r2 q2 hw2 hTb
  go_wp2_with fail
  refine (hPa _).mono ?_
  rintro e w3 ⟨⟨d, c, rfl, hpd⟩, hw3⟩
  obtain ⟨hda, rfl⟩ := HG.out d c hpd
  replace hRa := hRa.kept hw3
  replace hRb := hRb.kept hw3
  replace hB0 := hB0.trans (hw3.mono hB0.size)
  have hRd : DgR (w3.alloc (.cells (dg_secA d) 23)) w3.heap.size d := DgR.new _ _ _
  clear hw3 hPa HG hpd
  go_upto_region 4 with fail
  replace hRa := hRa.kept (below_alloc w3 (.cells (dg_secA d) 23))
  replace hRb := hRb.kept (below_alloc w3 (.cells (dg_secA d) 23))
  replace hB0 := hB0.alloc hB0.size (.cells (dg_secA d) 23)
  generalize w3.heap.size = gd at hRd ⊢
  generalize w3.alloc (.cells (dg_secA d) 23) = X3 at hB0 hRa hRb hRd ⊢
  go_wp2_with fail
  refine (hK _).mono ?_
  rintro e w4 ⟨rfl, hw4⟩
  replace hRa := hRa.kept hw4
  replace hRb := hRb.kept hw4
  replace hRd := hRd.kept hw4
  replace hB0 := hB0.trans (hw4.mono hB0.size)
  clear hw4
  rcases hway with hway | hway | hway
  · obtain ⟨hE, hSS, hLL, hC1, hC2⟩ := hway
    have hCa := hC a b
    have hCb := hC b a
    rw [hC1] at hCa
    rw [hC2] at hCb
    clear hC1 hC2
    have HRa : Hid _ := hRa
    have HRb : Hid _ := hRb
    obtain ⟨r1, q1⟩ := hRa
    obtain ⟨r2, q2⟩ := hRb
    obtain ⟨r3, q3⟩ := hRd
    go_wp2_with fail
    refine (hCa _).mono ?_
    rintro e w5 ⟨rfl, hw5⟩
    replace hRa : DgR w5 _ a := DgR.kept HRa.out hw5
    replace hRb : DgR w5 _ b := DgR.kept HRb.out hw5
    replace hB0 := hB0.trans (hw5.mono hB0.size)
    clear r1 q1 r2 q2 r3 q3 HRa HRb hw5 hCa
    have HRa : Hid _ := hRa
    have HRb : Hid _ := hRb
    obtain ⟨r1, q1⟩ := hRa
    obtain ⟨r2, q2⟩ := hRb
    go_wp2_with fail
    refine (hCb _).mono ?_
    rintro e w6 ⟨rfl, hw6⟩
    replace hRa : DgR w6 _ a := DgR.kept HRa.out hw6
    replace hRb : DgR w6 _ b := DgR.kept HRb.out hw6
    replace hB0 := hB0.trans (hw6.mono hB0.size)
    clear r1 q1 r2 q2 HRa HRb hw6 hCb
    obtain ⟨r1, q1⟩ := hRa
    obtain ⟨r2, q2⟩ := hRb
    go_wp2_with fail
    refine (hP l _).mono ?_
    rintro e w7 ⟨⟨f, g, rfl, hpf⟩, hw7⟩
    replace hB0 := hB0.trans (hw7.mono hB0.size)
    have hRf : DgR (w7.alloc (.cells (dg_secA f) 23)) w7.heap.size f := DgR.new _ _ _
    clear r1 q1 r2 q2 hw7
    go_upto_region 10 with fail
    replace hB0 := hB0.alloc hB0.size (.cells (dg_secA f) 23)
    generalize w7.heap.size = gf at hRf ⊢
    generalize w7.alloc (.cells (dg_secA f) 23) = X7 at hB0 hRf ⊢
    obtain ⟨r3, q3⟩ := hRf
    clear hE hSS hLL hda
    rcases hpf with ⟨hg, rfl, rfl⟩ | ⟨hg, rfl, rfl⟩
    · have hTf := hT (pval l)
      rw [good_text l hg] at hTf
      have hll : ((ByteArray.mk l.toArray).toList == (ByteArray.mk l.toArray).toList) = true := by simp
      generalize ByteArray.mk l.toArray = U at hTf hll ⊢
      go_wp2_with fail
      refine (hTf _).mono ?_
      rintro e w8 ⟨rfl, hw8⟩
      have HB : Hid _ := hB0.trans (hw8.mono hB0.size)
      clear hB0 hw8 r3 q3 hTf
      go_wp2
      go_ret
      exact ⟨rfl, HB.out⟩
    · have hzz := secEq_self dg_secZ
      go_wp2
      go_ret
      exact ⟨rfl, hB0⟩
  · obtain ⟨hE, hSS, hLL, hC1, hC2⟩ := hway
    have hCa := hC a b
    have hCb := hC b a
    rw [hC1] at hCa
    rw [hC2] at hCb
    clear hC1 hC2
    have HRa : Hid _ := hRa
    have HRb : Hid _ := hRb
    obtain ⟨r1, q1⟩ := hRa
    obtain ⟨r2, q2⟩ := hRb
    obtain ⟨r3, q3⟩ := hRd
    go_wp2_with fail
    refine (hCa _).mono ?_
    rintro e w5 ⟨rfl, hw5⟩
    replace hRa : DgR w5 _ a := DgR.kept HRa.out hw5
    replace hRb : DgR w5 _ b := DgR.kept HRb.out hw5
    replace hB0 := hB0.trans (hw5.mono hB0.size)
    clear r1 q1 r2 q2 r3 q3 HRa HRb hw5 hCa
    have HRa : Hid _ := hRa
    have HRb : Hid _ := hRb
    obtain ⟨r1, q1⟩ := hRa
    obtain ⟨r2, q2⟩ := hRb
    go_wp2_with fail
    refine (hCb _).mono ?_
    rintro e w6 ⟨rfl, hw6⟩
    replace hRa : DgR w6 _ a := DgR.kept HRa.out hw6
    replace hRb : DgR w6 _ b := DgR.kept HRb.out hw6
    replace hB0 := hB0.trans (hw6.mono hB0.size)
    clear r1 q1 r2 q2 HRa HRb hw6 hCb
    obtain ⟨r1, q1⟩ := hRa
    obtain ⟨r2, q2⟩ := hRb
    go_wp2_with fail
    refine (hP l _).mono ?_
    rintro e w7 ⟨⟨f, g, rfl, hpf⟩, hw7⟩
    replace hB0 := hB0.trans (hw7.mono hB0.size)
    have hRf : DgR (w7.alloc (.cells (dg_secA f) 23)) w7.heap.size f := DgR.new _ _ _
    clear r1 q1 r2 q2 hw7
    go_upto_region 10 with fail
    replace hB0 := hB0.alloc hB0.size (.cells (dg_secA f) 23)
    generalize w7.heap.size = gf at hRf ⊢
    generalize w7.alloc (.cells (dg_secA f) 23) = X7 at hB0 hRf ⊢
    obtain ⟨r3, q3⟩ := hRf
    clear hE hSS hLL hda
    rcases hpf with ⟨hg, rfl, rfl⟩ | ⟨hg, rfl, rfl⟩
    · have hTf := hT (pval l)
      rw [good_text l hg] at hTf
      have hll : ((ByteArray.mk l.toArray).toList == (ByteArray.mk l.toArray).toList) = true := by simp
      generalize ByteArray.mk l.toArray = U at hTf hll ⊢
      go_wp2_with fail
      refine (hTf _).mono ?_
      rintro e w8 ⟨rfl, hw8⟩
      have HB : Hid _ := hB0.trans (hw8.mono hB0.size)
      clear hB0 hw8 r3 q3 hTf
      go_wp2
      go_ret
      exact ⟨rfl, HB.out⟩
    · have hzz := secEq_self dg_secZ
      go_wp2
      go_ret
      exact ⟨rfl, hB0⟩
  · obtain ⟨hE, hSS, hLL, hC1, hC2⟩ := hway
    have hCa := hC a b
    have hCb := hC b a
    rw [hC1] at hCa
    rw [hC2] at hCb
    clear hC1 hC2
    have HRa : Hid _ := hRa
    have HRb : Hid _ := hRb
    obtain ⟨r1, q1⟩ := hRa
    obtain ⟨r2, q2⟩ := hRb
    obtain ⟨r3, q3⟩ := hRd
    go_wp2_with fail
    refine (hCa _).mono ?_
    rintro e w5 ⟨rfl, hw5⟩
    replace hRa : DgR w5 _ a := DgR.kept HRa.out hw5
    replace hRb : DgR w5 _ b := DgR.kept HRb.out hw5
    replace hB0 := hB0.trans (hw5.mono hB0.size)
    clear r1 q1 r2 q2 r3 q3 HRa HRb hw5 hCa
    have HRa : Hid _ := hRa
    have HRb : Hid _ := hRb
    obtain ⟨r1, q1⟩ := hRa
    obtain ⟨r2, q2⟩ := hRb
    go_wp2_with fail
    refine (hCb _).mono ?_
    rintro e w6 ⟨rfl, hw6⟩
    replace hRa : DgR w6 _ a := DgR.kept HRa.out hw6
    replace hRb : DgR w6 _ b := DgR.kept HRb.out hw6
    replace hB0 := hB0.trans (hw6.mono hB0.size)
    clear r1 q1 r2 q2 HRa HRb hw6 hCb
    obtain ⟨r1, q1⟩ := hRa
    obtain ⟨r2, q2⟩ := hRb
    go_wp2_with fail
    refine (hP l _).mono ?_
    rintro e w7 ⟨⟨f, g, rfl, hpf⟩, hw7⟩
    replace hB0 := hB0.trans (hw7.mono hB0.size)
    have hRf : DgR (w7.alloc (.cells (dg_secA f) 23)) w7.heap.size f := DgR.new _ _ _
    clear r1 q1 r2 q2 hw7
    go_upto_region 10 with fail
    replace hB0 := hB0.alloc hB0.size (.cells (dg_secA f) 23)
    generalize w7.heap.size = gf at hRf ⊢
    generalize w7.alloc (.cells (dg_secA f) 23) = X7 at hB0 hRf ⊢
    obtain ⟨r3, q3⟩ := hRf
    clear hE hSS hLL hda
    rcases hpf with ⟨hg, rfl, rfl⟩ | ⟨hg, rfl, rfl⟩
    · have hTf := hT (pval l)
      rw [good_text l hg] at hTf
      have hll : ((ByteArray.mk l.toArray).toList == (ByteArray.mk l.toArray).toList) = true := by simp
      generalize ByteArray.mk l.toArray = U at hTf hll ⊢
      go_wp2_with fail
      refine (hTf _).mono ?_
      rintro e w8 ⟨rfl, hw8⟩
      have HB : Hid _ := hB0.trans (hw8.mono hB0.size)
      clear hB0 hw8 r3 q3 hTf
      go_wp2
      go_ret
      exact ⟨rfl, HB.out⟩
    · have hzz := secEq_self dg_secZ
      go_wp2
      go_ret
      exact ⟨rfl, hB0⟩
end Go.Proofs.Ythkjfgncbmpllaa
