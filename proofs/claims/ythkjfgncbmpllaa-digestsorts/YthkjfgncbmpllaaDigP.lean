
import Derived.Test.YthkjfgncbmpllaaDigR
namespace Go.Proofs.Ythkjfgncbmpllaa
open Go.RowKit

/-- Two results: a digest out of its variable, and a number. -/
theorem dg_bodyPost2 {fn : Func} {R : Ending → World → Prop} {a : Act} {w : World} (p q n : Nat) (s : Nat → UInt8) (hres : fn.results = #[.cell p 23, .tmp q]) (hp : a.tmps.getD p undef = .pointer (some ⟨n, 0, none⟩)) (hd : a.defers = [])
    (hok : DgR w n s) (h : R (.returned (.tuple #[.agg (dg_secA s), a.tmps.getD q undef])) w) : bodyPost Try.prog fn R .ret a w := by
  obtain ⟨t, hg, hs⟩ := dg_row_of_ok hok.1
  rw [hok.2] at hg
  have hp' : a.tmps[p]?.getD undef = .pointer (some ⟨n, 0, none⟩) := by simpa using hp
  have hl := run_loadVar_row (P := Try.prog) w n t 23 (dg_secA s) (0, 0) _ hg Try.underlying23 rfl (by rw [size23, dg_secA_size])
  refine bodyPost_ret (v := .tuple #[.agg (dg_secA s), a.tmps.getD q undef]) ?_ hd h
  simp [results, hres, hp', asAddr, hl]
/-- What reading a text owes. -/
def ParsedTo (l : List UInt8) (d : Nat → UInt8) (c : Int) : Prop := (PGood l ∧ d = pval l ∧ c = 0) ∨ (¬ PGood l ∧ d = dg_secZ ∧ c = 35)
theorem cut7 (l : List UInt8) : ((ByteArray.mk l.toArray).extract 0 7).toList = l.take 7 := by
  rw [ByteArray.toList_eq]
  simp
theorem front_eq (l : List UInt8) (h : l.take 7 = frontS) : (((ByteArray.mk l.toArray).extract 0 7).toList == [115, 104, 97, 50, 53, 54, 58]) = true := by
  rw [cut7, h]; rfl
theorem front_ne (l : List UInt8) (h : ¬ l.take 7 = frontS) : (((ByteArray.mk l.toArray).extract 0 7).toList == [115, 104, 97, 50, 53, 54, 58]) = false := by
  rw [cut7]
  exact beq_eq_false_iff_ne.2 h
set_option linter.unusedSimpArgs false in
set_option maxHeartbeats 800000 in
theorem refParse_any (l : List UInt8) (w : World) : Calls Try.prog 14 #[.string ⟨l.toArray⟩] w fun e w' => (∃ d c, e = .returned (.tuple #[.agg (dg_secA d), .int .i64 c]) ∧ ParsedTo l d c) ∧ Below w.heap.size w w' := by
  have hsz : (ByteArray.mk l.toArray).size = l.length := by show l.toArray.size = _; simp
  have hB : Below w.heap.size w ((w.alloc (.cells (dg_secA dg_secZ) 23)).alloc (.cells (dg_secA dg_secZ) 23)) := (below_alloc w _).alloc (by simp) _
  have hRr : DgR ((w.alloc (.cells (dg_secA dg_secZ) 23)).alloc (.cells (dg_secA dg_secZ) 23)) w.heap.size dg_secZ := (DgR.new w dg_secZ _).kept (below_alloc _ _)
  have hRd : DgR ((w.alloc (.cells (dg_secA dg_secZ) 23)).alloc (.cells (dg_secA dg_secZ) 23)) (w.heap.size + 1) dg_secZ := by
    have := DgR.new (w.alloc (.cells (dg_secA dg_secZ) 23)) dg_secZ 23
    rw [World.size_alloc] at this
    exact this
  go_enter Try.func14, Try.ntmps14
  go_upto_region 2 with fail
  obtain ⟨gd, hgd⟩ : ∃ g, w.heap.size + 1 = g := ⟨_, rfl⟩
  obtain ⟨gr, hgr⟩ : ∃ g, w.heap.size = g := ⟨_, rfl⟩
  have hne : gd ≠ gr := by omega
  have hlr : w.heap.size ≤ gr := by omega
  have hld : w.heap.size ≤ gd := by omega
  rw [hgd] at hRd
  rw [hgr] at hRr
  simp only [hgd]
  simp only [hgr]
  generalize (w.alloc (.cells (dg_secA dg_secZ) 23)).alloc (.cells (dg_secA dg_secZ) 23) = X at hB hRr hRd ⊢
  clear hgd
  by_cases h71 : l.length = 71
  · have hi71 : (l.length : Int) = 71 := by omega
    have hb71 : ((l.length : Int) != 71) = false := by simp [hi71]
    have hq : ∀ W, (strCut0 (.string ⟨l.toArray⟩) (.int .i64 7)).run Try.prog W = .ok (.value (.string ((ByteArray.mk l.toArray).extract 0 7))) W := fun W => run_strCut0 W _ 7 (by omega)
    by_cases hf : l.take 7 = frontS
    · have hx := front_eq l hf
      generalize (ByteArray.mk l.toArray).extract 0 7 = S7 at hx hq
      go_wp2_with fail
      clear hx hq
      go_loopw [5] (fun i wr => ∃ k : Nat, k ≤ 32 ∧ i = .int .i64 k ∧ PUp l k ∧ DgR wr gd (upT (pval l) k) ∧ DgR wr gr dg_secZ ∧ Below w.heap.size w wr) (fun i _ => 32 - (intOf i).toNat)
      case atStart => exact ⟨0, by omega, rfl, fun j hj => by omega, by rw [upT_zero]; exact hRd, hRr, hB⟩
      case round =>
        clear hRd hRr hB
        obtain ⟨k, hk, rfl, hU, hRd, hRr, hB⟩ := hrel
        by_cases hlt : k < 32
        · have hk0 : (0 : Int) ≤ (k : Int) := by omega
          have hk1 : (k : Int) < 32 := by omega
          obtain ⟨p1, hp1⟩ : ∃ p, 7 + 2 * k = p := ⟨_, rfl⟩
          obtain ⟨p2, hp2⟩ : ∃ p, 8 + 2 * k = p := ⟨_, rfl⟩
          have n1 : (7 : Int) + 2 * (k : Int) = (p1 : Int) := by omega
          have n2 : (8 : Int) + 2 * (k : Int) = (p2 : Int) := by omega
          have b1 : (p1 : Int) < 71 := by omega
          have b2 : (p2 : Int) < 71 := by omega
          have s1 := strB_list l p1
          have s2 := strB_list l p2
          have v1 := refDigit_any (lAt l p1)
          have v2 := refDigit_any (lAt l p2)
          have eh : hiV l k = digV (lAt l p1) := by unfold hiV; rw [hp1]
          have el : loV l k = digV (lAt l p2) := by unfold loV; rw [hp2]
          rw [← eh] at v1
          rw [← el] at v2
          have r1 : -1 ≤ hiV l k ∧ hiV l k < 16 := digV_range _
          have r2 : -1 ≤ loV l k ∧ loV l k < 16 := digV_range _
          have hpn := pval_nat l k
          have HS : Hid (∀ b, pval l k = b → upT (pval l) (k + 1) = upd (upT (pval l) k) k b) := fun b hb => by rw [upT_succ, hb]
          have HN : Hid (¬ (0 ≤ hiV l k ∧ 0 ≤ loV l k) → ParsedTo l dg_secZ 35) := fun h => .inr ⟨fun hg => h (hg.2.2 k hlt), rfl, rfl⟩
          have HU : Hid (0 ≤ hiV l k ∧ 0 ≤ loV l k → PUp l (k + 1)) := fun h j hj => by
            rcases Nat.lt_or_ge j k with h1 | h1
            · exact hU j h1
            · obtain rfl : j = k := by omega
              exact h
          clear hU eh el hp1 hp2 hb71
          generalize hiV l k = vh at *
          generalize loV l k = vl at *
          generalize lAt l p1 = ch at *
          generalize lAt l p2 = cl at *
          go_wp2_with fail
          refine (v1 _).mono ?_
          rintro e w1 ⟨rfl, hw1⟩
          go_wp2_with fail
          refine (v2 _).mono ?_
          rintro e w2 ⟨rfl, hw2⟩
          replace hRd := (hRd.kept hw1).kept hw2
          replace hRr := (hRr.kept hw1).kept hw2
          replace hB := (hB.trans (hw1.mono hB.size))
          replace hB := (hB.trans (hw2.mono hB.size))
          clear hw1 hw2 v1 v2 s1 s2 n1 n2
          by_cases hv : 0 ≤ vh ∧ 0 ≤ vl
          · obtain ⟨b, hb⟩ : ∃ b, pval l k = b := ⟨_, rfl⟩
            have hbn := hpn hv
            rw [hb] at hbn
            have hbl := b.toNat_lt
            have hcd := hRd.cell k hlt
            have hfz := hRd.frozen k
            have HR : Hid (DgR (w2.setCell ⟨gd, k, none⟩ (.int .u8 (b.toNat : Int))) gd (upT (pval l) (k + 1))) := by show DgR _ _ _; rw [HS.out b hb]; exact hRd.set k b hlt
            have HZ : Hid _ := hRr.set_ne k (.int .u8 (b.toNat : Int)) hne
            have HB : Hid _ := hB.setCell (p := ⟨gd, k, none⟩) hld (.int .u8 (b.toNat : Int))
            obtain ⟨x, rfl⟩ : ∃ x : Nat, vh = (x : Int) := ⟨vh.toNat, by omega⟩
            obtain ⟨y, rfl⟩ : ∃ y : Nat, vl = (y : Int) := ⟨vl.toNat, by omega⟩
            have HU2 := HU.out hv
            have HU3 : Hid _ := HU2
            have e1 : (16 : Int) * (x : Int) + (y : Int) = (b.toNat : Int) := by omega
            have x0 : ¬ (x : Int) < 0 := by omega
            have y0 : ¬ (y : Int) < 0 := by omega
            clear hRd hRr hB hb hbn hpn HS HN HU HU2
            go_wp2
            go_roundw
            case rel => first | exact ⟨k + 1, by omega, by go_num, HU3.out, HR.out, HZ.out, HB.out⟩ | ((repeat apply Exists.intro); refine ⟨⟨k + 1, by omega, ?_, HU3.out, HR.out, HZ.out, HB.out⟩, rfl⟩; go_num)
            case measure => simp [intOf]; omega
          · have HP : Hid (ParsedTo l dg_secZ 35) := HN.out hv
            have hR9 : DgR (w2.setRow gr (dg_secA dg_secZ)) gr dg_secZ := ⟨dg_rowOk_setRow_same _ _ _ hRr.1 (dg_secA_size _), dg_rowAt_setRow_same _ _ _ hRr.1⟩
            have HR9 : Hid _ := hR9
            have HB : Hid _ := dg_below_row hB hlr (dg_secA dg_secZ)
            obtain ⟨r1, q1⟩ := hRr
            clear hR9 hRd hB hpn HS HN HU
            by_cases hv1 : vh < 0
            · go_wp2
              exact dg_bodyPost2 2 3 gr dg_secZ rfl rfl rfl HR9.out ⟨⟨_, 35, rfl, HP.out⟩, HB.out⟩
            · have hv2 : vl < 0 := by omega
              go_wp2
              exact dg_bodyPost2 2 3 gr dg_secZ rfl rfl rfl HR9.out ⟨⟨_, 35, rfl, HP.out⟩, HB.out⟩
        · obtain rfl : k = 32 := by omega
          have HP : Hid (ParsedTo l (pval l) 0) := .inl ⟨⟨h71, hf, hU⟩, rfl, rfl⟩
          obtain ⟨r1, q1⟩ := hRd
          rw [upT_all] at q1
          have HR9 : Hid (DgR (wr.setRow gr (dg_secA (pval l))) gr (pval l)) := ⟨dg_rowOk_setRow_same _ _ _ hRr.1 (dg_secA_size _), dg_rowAt_setRow_same _ _ _ hRr.1⟩
          have HB : Hid _ := dg_below_row hB hlr (dg_secA (pval l))
          obtain ⟨r2, q2⟩ := hRr
          clear hB hU
          generalize pval l = d at *
          go_wp2
          exact dg_bodyPost2 2 3 gr d rfl rfl rfl HR9.out ⟨⟨d, 0, rfl, HP.out⟩, HB.out⟩
    · have hx := front_ne l hf
      have HP : Hid (ParsedTo l dg_secZ 35) := .inr ⟨fun h => hf h.2.1, rfl, rfl⟩
      generalize (ByteArray.mk l.toArray).extract 0 7 = S7 at hx hq
      have hR9 : DgR (X.setRow gr (dg_secA dg_secZ)) gr dg_secZ := ⟨dg_rowOk_setRow_same _ _ _ hRr.1 (dg_secA_size _), dg_rowAt_setRow_same _ _ _ hRr.1⟩
      obtain ⟨r1, q1⟩ := hRr
      clear hf
      go_wp2
      exact dg_bodyPost2 2 3 gr dg_secZ rfl rfl rfl hR9 ⟨⟨_, 35, rfl, HP.out⟩, dg_below_row hB hlr _⟩
  · have hi71 : ¬ (l.length : Int) = 71 := by omega
    have HP : Hid (ParsedTo l dg_secZ 35) := .inr ⟨fun h => h71 h.1, rfl, rfl⟩
    have hR9 : DgR (X.setRow gr (dg_secA dg_secZ)) gr dg_secZ := ⟨dg_rowOk_setRow_same _ _ _ hRr.1 (dg_secA_size _), dg_rowAt_setRow_same _ _ _ hRr.1⟩
    obtain ⟨r1, q1⟩ := hRr
    have hb71 : ((l.length : Int) != 71) = true := by simp; omega
    go_wp2
    exact dg_bodyPost2 2 3 gr dg_secZ rfl rfl rfl hR9 ⟨⟨_, 35, rfl, HP.out⟩, dg_below_row hB hlr _⟩
end Go.Proofs.Ythkjfgncbmpllaa
