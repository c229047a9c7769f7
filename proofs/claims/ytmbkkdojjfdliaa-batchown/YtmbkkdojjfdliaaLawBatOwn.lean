
import Derived.Test.YtmbkkdojjfdliaaBata
namespace Go.Proofs.Ytmbkkdojjfdliaa
open Go.RowKit

/-! BatchOwn -/
theorem ptv_one (ps : List Pt) : ∀ u ∈ ps.map Pt.v, u.oneCell' = true := fun u hu => by
  obtain ⟨p, -, rfl⟩ := List.mem_map.1 hu
  rfl
/-- The four answers as one family. -/
theorem fam26 {w3 w4 w5 w6 w : World} {B k : Nat} {S : List Wr} {va vb vc vd : Value} {pa pb : List Pt} (hA : CutP w3 B va (cutW S) pa) (hB : CutP w4 w3.heap.size vb (cutW S) pb) (hC : OwnK wrE w5 w4.heap.size vc S) (hD : OwnK wrE w6 w5.heap.size vd S)
    (b3 : B ≤ w3.heap.size) (b4 : Below w3.heap.size w3 w4) (b5 : Below w4.heap.size w4 w5) (b6 : Below w5.heap.size w5 w6) (b7 : Below w6.heap.size w6 w) (hk : (cutW S).length = k) :
    ∃ X L, Fam w B (pa.map Pt.v ++ pb.map Pt.v ++ [vc, vd]) X L ∧ (pa.map Pt.v ++ pb.map Pt.v ++ [vc, vd]).length = k + k + 2 ∧ ∀ q, (L q).length ≤ 8 + S.length := by
  have f1 := (((hA.fam.below b4).below b5).below b6).below b7
  have f2 := ((hB.fam.below b5).below b6).below b7
  have f3 := (hC.bit.below b6).below b7
  have f4 := hD.bit.below b7
  have g2 := f1.both f2 b3 (fun i hi b t hx => (hA.fam.dom i hi b t hx).2)
  have s4 := b4.size
  have s5 := b5.size
  have s6 := b6.size
  have s7 := b7.size
  have g3 := f3.both f4 s5 (fun i hi b t hx => hx.2)
  refine ⟨_, _, g2.both g3 (Nat.le_trans b3 s4) (fun i hi b t hx => ?_), ?_, fun q => ?_⟩
  · by_cases e : i < (pa.map Pt.v).length
    · simp only [if_pos e] at hx
      have := (hA.fam.dom i e b t hx).2
      omega
    · simp only [if_neg e] at hx
      rw [List.length_append] at hi
      exact (hB.fam.dom _ (by omega) b t hx).2
  · simp only [List.length_append, List.length_map, List.length_cons, List.length_nil]
    have h1 := hA.len
    have h2 := hB.len
    omega
  · have hc : ∀ i : Nat, (((cutW S)[i]?).getD []).length ≤ 8 := fun i => by
      cases h : (cutW S)[i]? with
      | none => simp
      | some d => exact cutW_mem S d (List.mem_of_getElem? h)
    split
    · split
      · have := hc q
        omega
      · have := hc (q - (pa.map Pt.v).length)
        omega
    · split <;> omega
set_option linter.unusedSimpArgs false in
set_option maxRecDepth 100000 in
set_option maxHeartbeats 40000000 in
theorem lawBatOwn (H : BatOk) (l : List Wr) (x0 : Option Addr) (n c : Nat) (w : World) (hn : l.length = n) (hl : IsK wrE w (.slice x0 n c) l) (hnn : n ≤ 1954687338211) :
    Calls Try.prog 5 #[.slice x0 n c] w fun e w' => e = .returned (.bool true) ∧ Below w.heap.size w w' := by
  have hn47 : (n + 1) * 72 ≤ 140737488355328 := by omega
  have hKn := known26_any H w
  have hsl := srtW_len l
  obtain ⟨S, hS⟩ : ∃ q, srtW l = q := ⟨_, rfl⟩
  have HS : Hid (srtW l = S) := hS
  rw [hS, hn] at hsl
  clear hS
  go_enter Try.func5, Try.ntmps5
  go_wp2_with fail
  refine hKn.mono ?_
  rintro e w1 ⟨rfl, b1⟩
  clear hKn
  have hC := refCut26_any l x0 n c w1 hn (hl.kept b1) hn47
  rw [HS.out] at hC
  go_wp2_with fail
  refine hC.mono ?_
  rintro e w2 ⟨yw, k, cw, rfl, hk, hWo, b2⟩
  have hW := hWo.isLL
  clear hWo
  clear hC
  have hB2 := b1.trans (b2.mono b1.size)
  have hC := H.cut l x0 n c w2 hn (hl.kept hB2) hn47
  rw [HS.out] at hC
  go_wp2_with fail
  refine hC.mono ?_
  rintro e w3 ⟨ya, ka, ca, pa, rfl, hka, hA, b3⟩
  clear hC
  obtain rfl : k = ka := by rw [← hk, ← hka]
  have hB3 := hB2.trans (b3.mono hB2.size)
  have hC := H.cut l x0 n c w3 hn (hl.kept hB3) hn47
  rw [HS.out] at hC
  go_wp2_with fail
  refine hC.mono ?_
  rintro e w4 ⟨yb, kb, cb, pb, rfl, hkb, hBb, b4⟩
  clear hC
  obtain rfl : k = kb := by rw [← hk, ← hkb]
  have hB4 := hB3.trans (b4.mono hB3.size)
  have hC := H.left l x0 n c [] none 0 0 w4 hn (hl.kept hB4) hn47 rfl (IsLL.nil w4) (by omega) (fun e he => by cases he)
  rw [HS.out, leftW_nil] at hC
  go_wp2_with fail
  refine hC.mono ?_
  rintro e w5 ⟨yc, m, cc, rfl, hm, hCc, b5⟩
  clear hC
  have hB5 := hB4.trans (b5.mono hB4.size)
  have hC := H.left l x0 n c [] none 0 0 w5 hn (hl.kept hB5) hn47 rfl (IsLL.nil w5) (by omega) (fun e he => by cases he)
  rw [HS.out, leftW_nil] at hC
  go_wp2_with fail
  refine hC.mono ?_
  rintro e w6 ⟨yd, md, cd, rfl, hmd, hDd, b6⟩
  clear hC
  obtain rfl : m = md := by rw [← hm, ← hmd]
  have hB6 := hB5.trans (b6.mono hB5.size)
  have hlk : (cutW S).length = k := by rw [cutW_len]; exact hk
  have hkn : k ≤ n := by unfold nbW at hk; omega
  have hc8 : ∀ d ∈ cutW S, d.length ≤ 140737488355328 := fun d hd => by have := cutW_mem S d hd; omega
  have hC := all26_any (cutW S) (cutW S) ya yw k k ca cw w6 hlk hlk (((hA.isLL.kept b4).kept b5).kept b6) ((((hW.kept b3).kept b4).kept b5).kept b6) (by omega) hc8
  simp only [decide_true] at hC
  go_wp2_with fail
  refine hC.mono ?_
  rintro e w7 ⟨rfl, b7⟩
  clear hC
  have hC := all26_any (cutW S) (cutW S) yb yw k k cb cw w7 hlk hlk (((hBb.isLL.kept b5).kept b6).kept b7) (((((hW.kept b3).kept b4).kept b5).kept b6).kept b7) (by omega) hc8
  simp only [decide_true] at hC
  go_wp2_with fail
  refine hC.mono ?_
  rintro e w8 ⟨rfl, b8⟩
  clear hC
  have hB8 := hB6.trans ((b7.trans (b8.mono b7.size)).mono hB6.size)
  have hC := refSorted26_any l x0 n c w8 hn (hl.kept hB8) hn47
  rw [HS.out] at hC
  go_wp2_with fail
  refine hC.mono ?_
  rintro e w9 ⟨ys, ms, cs, rfl, hms, hSs, b9⟩
  clear hC
  obtain rfl : m = ms := by rw [← hm, ← hms]
  have b69 := (b7.trans (b8.mono b7.size)).trans (b9.mono (Nat.le_trans b7.size b8.size))
  have hC := same26_any yc ys cc cs m m S S w9 hm hm (((hCc.isK wrE_ok).kept b6).kept b69) (hSs.isK wrE_ok) (by omega)
  simp only [decide_true] at hC
  go_wp2_with fail
  refine hC.mono ?_
  rintro e wa ⟨rfl, ba⟩
  clear hC
  have b6a := b69.trans (ba.mono b69.size)
  have hC := same26_any yd yc cd cc m m S S wa hm hm ((hDd.isK wrE_ok).kept b6a) (((hCc.isK wrE_ok).kept b6).kept b6a) (by omega)
  simp only [decide_true] at hC
  go_wp2_with fail
  refine hC.mono ?_
  rintro e wb ⟨rfl, bb⟩
  clear hC
  have b6b := b6a.trans (bb.mono b6a.size)
  obtain ⟨X, L, hFam, hvl, hLn⟩ := fam26 hA hBb hCc hDd b3.size b4 b5 b6 b6b hlk
  have hIa : IsG wb (.slice ya k ca) (pa.map Pt.v) := (((hA.own.isG.kept b4).kept b5).kept b6).kept b6b
  have hIb : IsG wb (.slice yb k cb) (pb.map Pt.v) := ((hBb.own.isG.kept b5).kept b6).kept b6b
  have hpa : (pa.map Pt.v).length = k := by rw [List.length_map, hA.len]; exact hlk
  have hpb : (pb.map Pt.v).length = k := by rw [List.length_map, hBb.len]; exact hlk
  have b2b : Below w2.heap.size w2 wb := b3.trans ((b4.trans ((b5.trans ((b6.trans (b6b.mono b6.size)).mono b5.size)).mono b4.size)).mono b3.size)
  have HW : Hid (BatOk ∧ l.length = n ∧ IsK wrE w2 (.slice x0 n c) l ∧ (n + 1) * 72 ≤ 140737488355328 ∧ IsLL w2 (.slice yw k cw) (cutW S) ∧ (cutW S).length = k ∧ k ≤ n ∧ Below w.heap.size w w2 ∧ S.length ≤ n ∧ n ≤ 1954687338211) := ⟨H, hn, hl.kept hB2, hn47, hW, hlk, hkn, hB2, hsl, hnn⟩
  clear b1 b2 b3 b4 b5 b6 b7 b8 b9 ba bb b69 b6a b6b hB2 hB3 hB4 hB5 hB6 hB8 hA hBb hCc hDd hSs hW hl hn hk hka hkb hmd hms hlk hc8 hsl hn47
  obtain ⟨vA, cA, wc, r1, o1, c1⟩ := run_appAllG eltLL wb wb.heap.size none 0 0 [] (pa.map Pt.v) ya k ca 24 (OwnG.nil _ _ _) rfl hIa hpa (ptv_one pa) (Nat.le_refl _) (by omega) (by unfold maxLen; omega)
  rw [Nat.zero_add] at r1 o1
  rw [List.nil_append] at o1
  obtain ⟨vB, cB, wd, r2, o2, c2⟩ := run_appAllG eltLL wc wb.heap.size vA k cA (pa.map Pt.v) (pb.map Pt.v) yb k cb 24 o1 hpa (hIb.kept c1) hpb (ptv_one pb) c1.size (by omega) (by unfold maxLen; omega)
  have ha3 := below_alloc wd (.cells #[.slice yc m cc, .slice yd m cd] 22)
  have hI2 : IsG (wd.alloc (.cells #[.slice yc m cc, .slice yd m cd] 22)) (.slice (some ⟨wd.heap.size, 0, none⟩) 2 2) [.slice yc m cc, .slice yd m cd] := (OwnG.lit 22 wd [.slice yc m cc, .slice yd m cd] (by simp [maxLen])).isG
  have c2s : wb.heap.size ≤ wd.heap.size := Nat.le_trans c1.size c2.size
  obtain ⟨vL, cL, we, r3, o3, c3⟩ := run_appAllG eltLL _ wb.heap.size vB (k + k) cB (pa.map Pt.v ++ pb.map Pt.v) [.slice yc m cc, .slice yd m cd] _ 2 2 24 (o2.keep ha3) (by rw [List.length_append, hpa, hpb]) hI2 rfl (fun u hu => by simp at hu; rcases hu with rfl | rfl <;> rfl) (Nat.le_trans c2s ha3.size) (by omega) (by unfold maxLen; omega)
  replace r1 : (Builtin.append_ #[24, 24] 24 #[.slice none 0 0, .slice ya k ca]).run Try.prog wb = .ok (.slice vA k cA) wc := r1
  replace r2 : (Builtin.append_ #[24, 24] 24 #[.slice vA k cA, .slice yb k cb]).run Try.prog wc = .ok (.slice vB (k + k) cB) wd := r2
  obtain ⟨vs, hvs⟩ : ∃ q, pa.map Pt.v ++ pb.map Pt.v ++ [.slice yc m cc, .slice yd m cd] = q := ⟨_, rfl⟩
  obtain ⟨nL, hnL⟩ : ∃ q, k + k + 2 = q := ⟨_, rfl⟩
  rw [hvs] at hFam hvl o3
  rw [hnL] at r3 o3 hvl
  obtain ⟨gL, cL', he, hgL, hgl, -, -⟩ := o3.form (fun h9 => by rw [h9] at hvl; simp at hvl; omega)
  simp only [Value.slice.injEq] at he
  obtain ⟨rfl, -, rfl⟩ := he
  replace r3 : (Builtin.append_ #[24, 24] 24 #[.slice vB (k + k) cB, .slice (some ⟨wd.heap.size, 0, none⟩) 2 2]).run Try.prog (wd.alloc (.cells #[.slice yc m cc, .slice yd m cd] 22)) = .ok (.slice (some ⟨gL, 0, none⟩) nL cL) we := r3
  have cbe : Below wb.heap.size wb we := (c1.trans c2).trans ((ha3.mono c2s).trans c3)
  have HM : Hid (Mrk w2 we w2.heap.size gL vs X (fun q => (L q).length) 0 0 L) := ⟨hFam.below cbe, fun q hq => rfl, fun q hq => by omega, fun t ht => by omega, b2b.trans (cbe.mono b2b.size), fun q u hu => o3.cell q u hu, fun q hq t hx => by have := (hFam.dom q hq gL t hx).2; omega⟩
  have HV : Hid (vs.length = nL ∧ k + k + 2 = nL ∧ ∀ q, (L q).length ≤ 8 + S.length) := ⟨hvl, hnL, hLn⟩
  have HG : Hid (gL < we.heap.size ∧ w2.heap.size ≤ we.heap.size) := ⟨hgl, (b2b.trans (cbe.mono b2b.size)).size⟩
  clear hFam hvl hLn hIa hIb hpa hpb b2b o1 c1 o2 c2 ha3 hI2 c2s o3 c3 cbe hvs hgL hgl
  go_upto_region 12 with (at_builtin; refine wpL_appT 24 rfl _ _ rfl _ wc (by exact r1) ?_)
  clear r1
  go_upto_region 13 with (at_builtin; refine wpL_appT 24 rfl _ _ rfl _ wd (by exact r2) ?_)
  clear r2
  go_upto_region 14 with (at_builtin; refine wpL_appT 24 rfl _ _ rfl _ we (by exact r3) ?_)
  clear r3
  go_wp2_with fail
  go_loopw [9] (fun iv wr => ∃ (i : Nat) (L' : Nat → List Wr), i ≤ nL ∧ iv = .int .i64 i ∧ Mrk w2 wr w2.heap.size gL vs X (fun q => (L q).length) i 0 L' ∧ we.heap.size ≤ wr.heap.size) (fun iv _ => nL - (intOf iv).toNat)
  case atStart => exact ⟨0, L, Nat.zero_le _, rfl, HM.out, Nat.le_refl _⟩
  case round =>
    obtain ⟨i, L1, hin, rfl, hM1, hs1⟩ := hrel
    have hkn := HW.out.2.2.2.2.2.2.1
    have hnL := HV.out.2.1
    by_cases hlt : i < nL
    · have i0 : (0 : Int) ≤ (i : Int) := by omega
      have i1 : (i : Int) < (nL : Int) := by omega
      obtain ⟨v, hv⟩ : ∃ q, vs[i]? = some q := ⟨_, List.getElem?_eq_getElem (by have := HV.out.1; omega)⟩
      obtain ⟨xv, cv, rfl⟩ := (hM1.fam.bit i v hv).form
      have hln := hM1.len i (List.getElem?_eq_some_iff.1 hv).1
      obtain ⟨nv, hnv⟩ : ∃ q, (L i).length = q := ⟨_, rfl⟩
      simp only [hnv] at hln
      rw [hln] at hv
      have HVI : Hid (vs[i]? = some (.slice xv nv cv) ∧ (L i).length = nv ∧ nv ≤ 8 + S.length) := ⟨hv, hnv, by rw [← hnv]; exact HV.out.2.2 i⟩
      have HM1 : Hid (Mrk w2 wr w2.heap.size gL vs X (fun q => (L q).length) i 0 L1) := hM1
      obtain ⟨wf, rfl⟩ : ∃ q, q = wr := ⟨_, rfl⟩
      clear hv hln hnv hM1
      go_wp2_with fail
      go_loopw [10] (fun jv wr => ∃ (j : Nat) (L' : Nat → List Wr), j ≤ nv ∧ jv = .int .i64 j ∧ Mrk w2 wr w2.heap.size gL vs X (fun q => (L q).length) i j L' ∧ we.heap.size ≤ wr.heap.size) (fun jv _ => nv - (intOf jv).toNat)
      case atStart => exact ⟨0, L1, Nat.zero_le _, rfl, HM1.out, hs1⟩
      case round =>
        obtain ⟨j, L2, hjn, rfl, hM2, hs2⟩ := hrel
        have q1 := hM2.cel i _ HVI.out.1
        by_cases hjt : j < nv
        · have j0 : (0 : Int) ≤ (j : Int) := by omega
          have j1 : (j : Int) < (nv : Int) := by omega
          obtain ⟨g, o, c9, wg, e1, e2, e3, hs3⟩ := hM2.put HVI.out.1 (by have := HVI.out.2.1; omega) (by have := HG.out.2; omega)
          simp only [Value.slice.injEq] at e1
          obtain ⟨rfl, -, rfl⟩ := e1
          have hSn := HW.out.2.2.2.2.2.2.2.2
          have hz5 := HVI.out.2.2
          have hwj : (j : Int) + 1 ≤ 1954687338267 := by omega
          have hw1 : IntKind.i64.wrap (-100 - (i : Int)) = -100 - (i : Int) := by simp [IntKind.wrap, IntKind.bits, IntKind.signed]; omega
          have HM3 : Hid (∃ L', Mrk w2 wg w2.heap.size gL vs X (fun q => (L q).length) i (j + 1) L') := ⟨_, e3⟩
          clear e3 hM2
          have HS3 : Hid (we.heap.size ≤ wg.heap.size) := Nat.le_trans hs2 hs3
          clear hs3 hs2
          rw [show mk26 i = (-100 - (i : Int), secZ) from rfl] at e2
          go_wp2
          go_roundw
          case rel => obtain ⟨L3, hL3⟩ := HM3.out; exact ⟨j + 1, L3, by omega, by go_num, hL3, HS3.out⟩
          case measure => simp [intOf]; omega
        · obtain rfl : j = nv := by omega
          have j1 : ¬ (j : Int) < (j : Int) := by omega
          have HM3 : Hid (Mrk w2 wr w2.heap.size gL vs X (fun q => (L q).length) (i + 1) 0 L2) := Mrk.next (by have h9 := HVI.out.2.1; simp only [h9]; exact hM2)
          have HS3 : Hid (we.heap.size ≤ wr.heap.size) := hs2
          clear hM2 hs2
          go_wp2
          go_roundw
          case rel => exact ⟨i + 1, L2, by omega, by go_num, HM3.out, HS3.out⟩
          case measure => simp [intOf]; omega
    · obtain rfl : i = nL := by omega
      have i1 : ¬ (i : Int) < (i : Int) := by omega
      obtain ⟨nL, rfl⟩ : ∃ q, q = i := ⟨_, rfl⟩
      have hG1 : Grw w2 wr w2.heap.size gL vs [] X (fun q => (L q).length) := Mrk.grw (by rw [HV.out.1]; exact hM1) (by have := HG.out.1; omega)
      have HG1 : Hid (Grw w2 wr w2.heap.size gL vs [] X (fun q => (L q).length)) := hG1
      obtain ⟨wf, rfl⟩ : ∃ q, q = wr := ⟨_, rfl⟩
      have HS1 : Hid (we.heap.size ≤ wf.heap.size) := hs1
      clear hM1 hG1 hs1
      go_wp2_with fail
      go_loopw [11, 12] (fun lv iv wr => ∃ (i : Nat) (xg : Option Addr) (cg : Nat) (us : List Value) (X' : Nat → Nat → Nat → Prop), i ≤ nL ∧ iv = .int .i64 i ∧ lv = .slice xg i cg ∧ us.length = i ∧ Grw w2 wr w2.heap.size gL vs us X' (fun q => (L q).length) ∧ OwnG 22 wr wf.heap.size (.slice xg i cg) us ∧ (∀ f, (Value.slice xg i cg).ownBlock = some f → ∀ q, q < vs.length → ∀ t, ¬ X' q f t) ∧ wf.heap.size ≤ wr.heap.size) (fun _ iv _ => nL - (intOf iv).toNat)
      case atStart => exact ⟨0, none, 0, [], X, Nat.zero_le _, rfl, rfl, rfl, HG1.out, OwnG.nil _ _ _, fun f hf => (by cases hf), Nat.le_refl _⟩
      case round =>
        obtain ⟨i, xg, cg, us, X1, hin, rfl, rfl, hus, hG2, oG, hout, hs2⟩ := hrel
        have hsf := HS1.out
        have hge := HG.out
        by_cases hlt2 : i < nL
        · have i0 : (0 : Int) ≤ (i : Int) := by omega
          have i1 : (i : Int) < (nL : Int) := by omega
          obtain ⟨v, hv⟩ : ∃ q, vs[i]? = some q := ⟨_, List.getElem?_eq_getElem (by have := HV.out.1; omega)⟩
          obtain ⟨xv, cv, rfl⟩ := (hG2.fam.bit i v hv).form
          obtain ⟨nv, hnv⟩ : ∃ q, (L i).length = q := ⟨_, rfl⟩
          have hnn9 := HW.out.2.2.2.2.2.2.2.2
          have hnv9 : nv ≤ 8 + S.length := by rw [← hnv]; exact HV.out.2.2 i
          obtain ⟨x1, n1, c1, wg, x2, c2, wh, X2, r1, r2, hG3, hs3, hfr⟩ := hG2.grow hus hv (by show ((L i).length + 2) * 72 ≤ _; omega) (by omega) 22 22
          have q1 := hG2.cel i _ hv
          simp only [hnv, List.length_replicate] at r1 r2 hG3 q1
          have ha := below_alloc wh (.cells #[.slice x2 (nv + 2) c2] 22)
          have oG2 : OwnG 22 wh wf.heap.size (.slice xg i cg) us := oG.same (fun f hf => (hfr f (oG.lt f hf).2 (hout f hf)).1)
          obtain ⟨g3, c3, wi, r3, o3, k3, hway⟩ := apLies eltLL (wh.alloc (.cells #[.slice x2 (nv + 2) c2] 22)) wf.heap.size xg i cg us [.slice x2 (nv + 2) c2] wh.heap.size 1 24 (oG2.keep ha) hus rfl (fun j u hu => (OwnG.lit 22 wh [.slice x2 (nv + 2) c2] (by simp [maxLen])).cell j u hu) (fun u hu => by simp at hu; subst hu; rfl) (by omega) (Nat.le_trans (Nat.le_trans hs2 hs3) ha.size) (by omega) (by unfold maxLen; omega)
          have hFk : ∀ f ∈ (Value.slice xg i cg).ownBlock.toList, w2.heap.size ≤ f ∧ f ≠ gL ∧ ∀ q, q < vs.length → ∀ t, ¬ X2 q f t := fun f hf => by
            have hf9 : (Value.slice xg i cg).ownBlock = some f := by simpa using hf
            have hlt9 := oG.lt f hf9
            exact ⟨by omega, by omega, (hfr f hlt9.2 (hout f hf9)).2⟩
          have HG4 : Hid (Grw w2 wi w2.heap.size gL vs (us ++ [.slice x2 (nv + 2) c2]) X2 (fun q => (L q).length)) := (hG3.below ha (by omega)).keep k3 hFk (by have := ha.size; omega)
          have HO4 : Hid (OwnG 22 wi wf.heap.size (.slice (some ⟨g3, 0, none⟩) (i + 1) c3) (us ++ [.slice x2 (nv + 2) c2])) := o3
          have HU4 : Hid (∀ f, (Value.slice (some ⟨g3, 0, none⟩) (i + 1) c3).ownBlock = some f → ∀ q, q < vs.length → ∀ t, ¬ X2 q f t) := fun f hf q hq t hx => by
            obtain rfl : g3 = f := by simpa [Value.ownBlock] using hf
            rcases hway with h1 | h1
            · exact (hFk g3 (by simp [h1])).2.2 q hq t hx
            · have h2 := (hG3.fam.dom q hq g3 t hx).2
              have h3 := ha.size
              omega
          have HS4 : Hid (wf.heap.size ≤ wi.heap.size ∧ (us ++ [Value.slice x2 (nv + 2) c2]).length = i + 1) := ⟨by have h3 := ha.size; have h4 := k3.size; omega, by rw [List.length_append, hus]; rfl⟩
          replace r1 : (Builtin.append_ #[22, 22] 22 #[.slice xv nv cv, .slice (some ⟨wr.heap.size, 0, none⟩) 1 1]).run Try.prog (wr.alloc (.cells (wrA (-100 - (i : Int), secZ)) 29)) = .ok (.slice x1 n1 c1) wg := r1
          replace r2 : (Builtin.append_ #[22, 22] 22 #[.slice x1 n1 c1, .slice (some ⟨wg.heap.size, 0, none⟩) 1 1]).run Try.prog (wg.alloc (.cells (wrA (-100 - (i : Int), secZ)) 29)) = .ok (.slice x2 (nv + 2) c2) wh := r2
          replace r3 : (Builtin.append_ #[24, 24] 24 #[.slice xg i cg, .slice (some ⟨wh.heap.size, 0, none⟩) 1 1]).run Try.prog (wh.alloc (.cells #[.slice x2 (nv + 2) c2] 22)) = .ok (.slice (some ⟨g3, 0, none⟩) (i + 1) c3) wi := r3
          have hw1 : IntKind.i64.wrap (-100 - (i : Int)) = -100 - (i : Int) := by simp [IntKind.wrap, IntKind.bits, IntKind.signed]; omega
          have hwj : (i : Int) + 1 ≤ 1954687338267 * 2 := by omega
          clear hG2 oG hout hs2 hv hnv hnn9 hnv9 hG3 hs3 hfr ha oG2 o3 k3 hway hFk hus hsf hge
          go_upto_region 26 with (at_builtin; refine wpL_appT 22 rfl _ _ rfl _ wg (by exact r1) ?_)
          clear r1 q1
          go_wp2_with (at_builtin; first | refine wpL_appT 22 rfl _ _ rfl _ wh (by exact r2) ?_ | refine wpL_appT 24 rfl _ _ rfl _ wi (by exact r3) ?_)
          go_roundw
          case rel => exact ⟨i + 1, _, c3, _, X2, by omega, by go_num, rfl, HS4.out.2, HG4.out, HO4.out, HU4.out, HS4.out.1⟩
          case measure => simp [intOf]; omega
        · obtain rfl : i = nL := by omega
          have i1 : ¬ (i : Int) < (i : Int) := by omega
          obtain ⟨nL, rfl⟩ : ∃ q, q = i := ⟨_, rfl⟩
          obtain ⟨wz, rfl⟩ : ∃ q, q = wr := ⟨_, rfl⟩
          obtain ⟨gG, cG', he, -, -, -, -⟩ := oG.form (fun h9 => by rw [h9] at hus; simp at hus; have := HV.out.2.1; omega)
          simp only [Value.slice.injEq] at he
          obtain ⟨rfl, -, rfl⟩ := he
          have HZ : Hid (Grw w2 wz w2.heap.size gL vs us X1 (fun q => (L q).length) ∧ us.length = nL ∧ ∀ (q : Nat) u, us[q]? = some u → wz.cell? ⟨gG, q, none⟩ = some u) := ⟨hG2, hus, fun q u hu => oG.cell q u hu⟩
          clear hG2 oG hout hs2 hus
          go_wp2_with fail
          go_loopw [14] (fun iv wr => ∃ i : Nat, i ≤ nL ∧ iv = .int .i64 i ∧ wr = wz) (fun iv _ => nL - (intOf iv).toNat)
          case atStart => exact ⟨0, Nat.zero_le _, rfl, rfl⟩
          case round =>
            obtain ⟨i, hin, rfl, rfl⟩ := hrel
            by_cases hlt3 : i < nL
            · have i0 : (0 : Int) ≤ (i : Int) := by omega
              have i1 : (i : Int) < (nL : Int) := by omega
              obtain ⟨v, hv⟩ : ∃ q, vs[i]? = some q := ⟨_, List.getElem?_eq_getElem (by have := HV.out.1; omega)⟩
              obtain ⟨u, hu⟩ : ∃ q, us[i]? = some q := ⟨_, List.getElem?_eq_getElem (by have := HZ.out.2.1; omega)⟩
              have bV := HZ.out.1.fam.bit i v hv
              have bU := HZ.out.1.up i u hu
              have q1 := HZ.out.1.cel i v hv
              have q2 := HZ.out.2.2 i u hu
              obtain ⟨xv, cv, rfl⟩ := bV.form
              obtain ⟨xu, cu, rfl⟩ := bU.form
              obtain ⟨nv, hnv⟩ : ∃ q, (L i).length = q := ⟨_, rfl⟩
              simp only [hnv, List.length_append, List.length_replicate, List.length_cons, List.length_nil, Nat.zero_add, Nat.reduceAdd] at bV bU q1 q2
              have HBV : Hid (IsK wrE wr (.slice xv nv cv) (List.replicate nv (mk26 i))) := bV.isK
              have HBU : Hid (IsK wrE wr (.slice xu (nv + 2) cu) (List.replicate nv (mk26 i) ++ [mk26 i, mk26 i])) := bU.isK
              have hnn9 := HW.out.2.2.2.2.2.2.2.2
              have hnv9 : nv ≤ 8 + S.length := by rw [← hnv]; exact HV.out.2.2 i
              have hw1 : IntKind.i64.wrap (-100 - (i : Int)) = -100 - (i : Int) := by simp [IntKind.wrap, IntKind.bits, IntKind.signed]; omega
              have hwi : (i : Int) + 1 ≤ 1954687338267 * 2 := by omega
              clear bV bU hv hu hnv
              obtain ⟨wy, rfl⟩ : ∃ q, q = wr := ⟨_, rfl⟩
              go_wp2_with fail
              go_loopw [15] (fun jv wr => ∃ j : Nat, j ≤ nv + 2 ∧ jv = .int .i64 j ∧ wr = wy) (fun jv _ => nv + 2 - (intOf jv).toNat)
              case atStart => exact ⟨0, Nat.zero_le _, rfl, rfl⟩
              case round =>
                obtain ⟨j, hjn, rfl, rfl⟩ := hrel
                by_cases hjt : j < nv + 2
                · have j0 : (0 : Int) ≤ (j : Int) := by omega
                  have j1 : (j : Int) < ((nv + 2 : Nat) : Int) := by omega
                  have j2 : (j : Int) < (nv : Int) + 2 := by omega
                  have hwj : (j : Int) + 1 ≤ 1954687338267 * 2 := by omega
                  have hmu : (List.replicate nv (mk26 i) ++ [mk26 i, mk26 i])[j]? = some (mk26 i) := by
                    rw [show [mk26 i, mk26 i] = List.replicate 2 (mk26 i) from rfl, List.replicate_append_replicate, List.getElem?_replicate_of_lt hjt]
                  obtain ⟨gu, ou, rfl, -, hru⟩ := HBU.out.at j _ hmu
                  have q3 : wr.cell? ⟨gu, ou + j * 65, none⟩ = some (.int .i64 (-100 - (i : Int))) := wr_at26 hru
                  clear hmu hru
                  by_cases hjv : j < nv
                  · have k1 : (j : Int) < (nv : Int) := by omega
                    obtain ⟨gv, ov, rfl, -, hrv⟩ := HBV.out.at j (mk26 i) (List.getElem?_replicate_of_lt hjv)
                    have q4 : wr.cell? ⟨gv, ov + j * 65, none⟩ = some (.int .i64 (-100 - (i : Int))) := wr_at26 hrv
                    clear hrv
                    go_wp2
                    go_roundw
                    case rel => exact ⟨j + 1, by omega, by go_num, trivial⟩
                    case measure => simp [intOf]; omega
                  · have k1 : ¬ (j : Int) < (nv : Int) := by omega
                    go_wp2
                    go_roundw
                    case rel => exact ⟨j + 1, by omega, by go_num, trivial⟩
                    case measure => simp [intOf]; omega
                · obtain rfl : j = nv + 2 := by omega
                  have j1 : ¬ ((nv + 2 : Nat) : Int) < ((nv + 2 : Nat) : Int) := by omega
                  go_wp2
                  go_roundw
                  case rel => exact ⟨i + 1, by omega, by go_num, trivial⟩
                  case measure => simp [intOf]; omega
            · obtain rfl : i = nL := by omega
              have i1 : ¬ (i : Int) < (i : Int) := by omega
              have hbz := HZ.out.1.bel
              have hC := HW.out.1.cut l x0 n c wr HW.out.2.1 (HW.out.2.2.1.kept hbz) HW.out.2.2.2.1
              rw [HS.out] at hC
              go_wp2_with fail
              refine hC.mono ?_
              rintro e wx ⟨y5, k5, c5, p5, rfl, hk5, hP5, b5⟩
              clear hC
              have hlk := HW.out.2.2.2.2.2.1
              obtain rfl : k = k5 := by rw [← hk5, ← hlk, cutW_len]
              have hC := all26_any (cutW S) (cutW S) y5 yw k k c5 cw wx hlk hlk hP5.isLL ((HW.out.2.2.2.2.1.kept hbz).kept b5) (by omega) (fun d hd => by have := cutW_mem S d hd; omega)
              simp only [decide_true] at hC
              have HX : Hid (Below w2.heap.size w2 wx) := hbz.trans (b5.mono hbz.size)
              clear hP5 b5 hbz
              go_wp2_with fail
              refine hC.mono ?_
              rintro e wv ⟨rfl, b6⟩
              clear hC
              have HX2 : Hid (Below w.heap.size w wv) := HW.out.2.2.2.2.2.2.2.1.trans ((HX.out.trans (b6.mono HX.out.size)).mono HW.out.2.2.2.2.2.2.2.1.size)
              clear b6
              go_wp2
              go_ret
              exact ⟨rfl, HX2.out⟩
end Go.Proofs.Ytmbkkdojjfdliaa
