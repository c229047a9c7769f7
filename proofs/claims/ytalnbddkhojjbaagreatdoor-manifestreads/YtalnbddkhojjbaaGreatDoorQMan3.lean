import Derived.Test.YtalnbddkhojjbaaGreatDoorQMan1
import Derived.Test.YtalnbddkhojjbaaGreatDoorQJfd
import Derived.Test.YtalnbddkhojjbaaGreatDoorQDig2
namespace Go.Proofs.YtalnbddkhojjbaaGreatDoor
open Go.RowKit

theorem dc_bodyPost2 {fn : Func} {R : Ending → World → Prop} {a : Act} {w : World} (p q n : Nat) (c : Array Value) (hres : fn.results = #[.cell p 35, .tmp q]) (hp : a.tmps.getD p undef = .pointer (some ⟨n, 0, none⟩)) (hd : a.defers = [])
    (hok : RowC w n c) (hc : c.size = 33) (h : R (.returned (.tuple #[.agg c, a.tmps.getD q undef])) w) : bodyPost Tryz.prog fn R .ret a w := by
  obtain ⟨t, hg⟩ := row_of_L hok.1
  rw [hok.2] at hg
  have hp' : a.tmps[p]?.getD undef = .pointer (some ⟨n, 0, none⟩) := by simpa using hp
  have hl := run_loadVar_row (P := Tryz.prog) w n t 35 c (0, 0) _ hg Tryz.underlying35 rfl (by rw [sizeT_dc, hc])
  refine bodyPost_ret (v := .tuple #[.agg c, a.tmps.getD q undef]) ?_ hd h
  simp [results, hres, hp', asAddr, hl]
theorem NdF.kd3 {w : World} {F : Nat → Prop} {r : Rn} {d : Nd} (h : NdF w F r d) : r.k = d.kd ∧ r.n = d.nn ∧ lS r.s = d.ss := by
  cases d with
  | mk k n s ks vs =>
    obtain ⟨a, b, c, -⟩ := h.inv
    exact ⟨a, b, c⟩
def DsP (d : Nd) (w : World) (e : Ending) (w' : World) : Prop := (∃ r b, e = .returned (.tuple #[.agg (dcA r), .bool b]) ∧ (∀ x, dscN d = some x → r = x ∧ b = true) ∧ (dscN d = none → r = dcZ ∧ b = false)) ∧ Below w.heap.size w w'
theorem dscN_no (d : Nd) (h : ∀ x y, fldN d kD = some x → fldN d kS = some y → x.kd = 4 ∧ y.kd = 3 ∧ 0 ≤ y.nn ∧ y.nn ≤ 2147483647 ∧ PGood x.ss → False) : dscN d = none := by
  unfold dscN
  cases h1 : fldN d kD with
  | none => rfl
  | some x =>
    cases h2 : fldN d kS with
    | none => rfl
    | some y =>
      simp only
      rw [if_neg (fun h9 => h x y h1 h2 h9)]
theorem dscN_yes (d x y : Nd) (h1 : fldN d kD = some x) (h2 : fldN d kS = some y) (h : x.kd = 4 ∧ y.kd = 3 ∧ 0 ≤ y.nn ∧ y.nn ≤ 2147483647 ∧ PGood x.ss) : dscN d = some ⟨pval x.ss, y.nn⟩ := by
  unfold dscN
  rw [h1, h2]
  simp only
  rw [if_pos h]
theorem ds_no {d : Nd} {w x : World} {n0 g : Nat} (h : dscN d = none) (hb : Below n0 w x) (hn : w.heap.size = n0) (hg : n0 ≤ g) : DsP d w (.returned (.tuple #[.agg (dcA dcZ), .bool false])) (x.setRow g (dcA dcZ)) :=
  ⟨⟨_, _, rfl, fun y h9 => (by rw [h] at h9; cases h9), fun _ => ⟨rfl, rfl⟩⟩, by rw [hn]; exact below_row14 hb hg _⟩
set_option linter.unusedSimpArgs false in
set_option maxRecDepth 100000 in
set_option maxHeartbeats 16000000 in
theorem desc16_any (d : Nd) (w : World) (F : Nat → Prop) (a : Rn) (ha : NdF w F a d) : Calls Tryz.prog 25 #[.agg (rnA a)] w fun e w' => DsP d w e w' := by
  obtain ⟨n0, hn0⟩ : ∃ q, w.heap.size = q := ⟨_, rfl⟩
  have bA := below_alloc w (.cells (rnA a) 55)
  have bB := below_alloc (w.alloc (.cells (rnA a) 55)) (.cells (dcA dcZ) 35)
  have r1 := (RowC.new w (rnA a) 55).kept bB
  have r2 := RowC.new (w.alloc (.cells (rnA a) 55)) (dcA dcZ) 35
  have hBZ := bA.trans (bB.mono bA.size)
  have hsz1 : (w.alloc (.cells (rnA a) 55)).heap.size = n0 + 1 := by rw [alloc_sz15, hn0]
  rw [hsz1] at r2
  rw [hn0] at r1
  go_enter Tryz.func25, Tryz.ntmps25
  go_upto_region 1 with fail
  have HND : Hid (NdF ((w.alloc (.cells (rnA a) 55)).alloc (.cells (dcA dcZ) 35)) F a d) := ha.kept hBZ
  rw [hn0] at hBZ
  generalize (w.alloc (.cells (rnA a) 55)).alloc (.cells (dcA dcZ) 35) = Y at r1 r2 hBZ HND ⊢
  obtain ⟨g2, hg2e⟩ : ∃ q, n0 + 1 = q := ⟨_, rfl⟩
  rw [hg2e] at r2 ⊢
  have hg2 : n0 ≤ g2 := by omega
  clear ha bA bB hsz1 hg2e
  have hF := refField_any d ⟨#[100, 105, 103, 101, 115, 116]⟩ Y F a HND.out
  unfold FrP at hF
  obtain ⟨p1, p2⟩ := id r1
  have p3 : (rowAt Y n0).size = 5 := by rw [p2]; rfl
  go_wp2_with fail
  refine hF.mono ?_
  rintro e w1 ⟨⟨q1, b1, rfl, hy1, hz1⟩, hb1⟩
  clear hF p1 p2 p3
  obtain ⟨m1, hm1⟩ : ∃ q, w1.heap.size = q := ⟨_, rfl⟩
  have bC := below_alloc w1 (.cells (rnA q1) 55)
  have rD := RowC.new w1 (rnA q1) 55
  rw [hm1] at rD
  have hbz : Below Y.heap.size Y (w1.alloc (.cells (rnA q1) 55)) := hb1.trans (bC.mono hb1.size)
  go_upto_region 2 with fail
  have HX1 : Hid (∀ x, fldN d kD = some x → b1 = true ∧ q1.k = x.kd ∧ q1.n = x.nn ∧ lS q1.s = x.ss) := fun x h9 => by
    obtain ⟨e1, e2⟩ := hy1 x h9
    exact ⟨e1, e2.kd3⟩
  have HN1 : Hid (fldN d kD = none → b1 = false) := hz1
  generalize w1.alloc (.cells (rnA q1) 55) = Z1 at hbz rD ⊢
  have HND : Hid (NdF Z1 F a d) := NdF.kept HND.out hbz
  have r1 := r1.kept hbz
  have r2 := r2.kept hbz
  have rQ1 := rD
  have hBZ : Below n0 w Z1 := hBZ.trans (hbz.mono (by have := hBZ.size; omega))
  have hgm1 : Y.heap.size ≤ m1 := by rw [← hm1]; exact hb1.size
  clear hy1 hz1 hb1 bC rD hm1 hbz
  have hF := refField_any d ⟨#[115, 105, 122, 101]⟩ Z1 F a HND.out
  unfold FrP at hF
  obtain ⟨p1, p2⟩ := id r1
  have p3 : (rowAt Z1 n0).size = 5 := by rw [p2]; rfl
  go_wp2_with fail
  refine hF.mono ?_
  rintro e w2 ⟨⟨q2, b2, rfl, hy2, hz2⟩, hb2⟩
  clear hF p1 p2 p3
  obtain ⟨m2, hm2⟩ : ∃ q, w2.heap.size = q := ⟨_, rfl⟩
  have bC := below_alloc w2 (.cells (rnA q2) 55)
  have rD := RowC.new w2 (rnA q2) 55
  rw [hm2] at rD
  have hbz : Below Z1.heap.size Z1 (w2.alloc (.cells (rnA q2) 55)) := hb2.trans (bC.mono hb2.size)
  go_upto_region 3 with fail
  have HX2 : Hid (∀ x, fldN d kS = some x → b2 = true ∧ q2.k = x.kd ∧ q2.n = x.nn ∧ lS q2.s = x.ss) := fun x h9 => by
    obtain ⟨e1, e2⟩ := hy2 x h9
    exact ⟨e1, e2.kd3⟩
  have HN2 : Hid (fldN d kS = none → b2 = false) := hz2
  generalize w2.alloc (.cells (rnA q2) 55) = Z2 at hbz rD ⊢
  have HND : Hid (NdF Z2 F a d) := NdF.kept HND.out hbz
  have r1 := r1.kept hbz
  have r2 := r2.kept hbz
  have rQ1 := rQ1.kept hbz
  have rQ2 := rD
  have hBZ : Below n0 w Z2 := hBZ.trans (hbz.mono (by have := hBZ.size; omega))
  have hgm2 : Z1.heap.size ≤ m2 := by rw [← hm2]; exact hb2.size
  clear hy2 hz2 hb2 bC rD hm2 hbz
  obtain ⟨k1, n1, s1, ks1, vs1⟩ := q1
  obtain ⟨k2, n2, s2, ks2, vs2⟩ := q2
  simp only at HX1 HX2
  have c10 : Z2.cell? ⟨m1, 0, none⟩ = some (.int .i64 k1) := rQ1.cell 0
  have c12 : Z2.cell? ⟨m1, 2, none⟩ = some (.string s1) := rQ1.cell 2
  have c20 : Z2.cell? ⟨m2, 0, none⟩ = some (.int .i64 k2) := rQ2.cell 0
  have c21 : Z2.cell? ⟨m2, 1, none⟩ = some (.int .i64 n2) := rQ2.cell 1
  obtain ⟨p1, p2⟩ := id r2
  have p3 : (rowAt Z2 g2).size = 33 := by rw [p2]; exact dcA_size _
  cases hb1 : b1 with
  | false =>
    have HP : Hid _ := ds_no (dscN_no d (fun x y h1 h2 h3 => by have := (HX1.out x h1).1; rw [hb1] at this; cases this)) hBZ hn0 hg2
    clear HX1 HX2
    go_wp2
    exact dc_bodyPost2 2 3 g2 (dcA dcZ) rfl rfl rfl (RowC.setRow r2 _) (dcA_size _) (by exact HP.out)
  | true =>
    cases hb2 : b2 with
    | false =>
      have HP : Hid _ := ds_no (dscN_no d (fun x y h1 h2 h3 => by have := (HX2.out y h2).1; rw [hb2] at this; cases this)) hBZ hn0 hg2
      clear HX1 HX2
      go_wp2
      exact dc_bodyPost2 2 3 g2 (dcA dcZ) rfl rfl rfl (RowC.setRow r2 _) (dcA_size _) (by exact HP.out)
    | true =>
      by_cases e1 : k1 = 4
      · by_cases e2 : k2 = 3
        · by_cases e3 : n2 < 0
          · have i3 := e3
            have HP : Hid _ := ds_no (dscN_no d (fun x y h1 h2 h3 => by have := (HX2.out y h2).2.2.1; omega)) hBZ hn0 hg2
            clear HX1 HX2
            go_wp2
            exact dc_bodyPost2 2 3 g2 (dcA dcZ) rfl rfl rfl (RowC.setRow r2 _) (dcA_size _) (by exact HP.out)
          · by_cases e4 : 2147483647 < n2
            · have i3 := e4
              have HP : Hid _ := ds_no (dscN_no d (fun x y h1 h2 h3 => by have := (HX2.out y h2).2.2.1; omega)) hBZ hn0 hg2
              clear HX1 HX2
              go_wp2
              exact dc_bodyPost2 2 3 g2 (dcA dcZ) rfl rfl rfl (RowC.setRow r2 _) (dcA_size _) (by exact HP.out)
            · subst e1 e2
              have hPz := refParse4_any (lS s1) Z2
              have es1 : (⟨(lS s1).toArray⟩ : ByteArray) = s1 := lS_inj (lS_mk _)
              rw [es1] at hPz
              clear es1
              go_wp2_with fail
              refine hPz.mono ?_
              rintro e w5 ⟨⟨dg, ec, rfl, hpd⟩, hb5⟩
              clear hPz
              have hb6 := below_alloc w5 (.cells (dg_secA dg) 33)
              have hbz : Below Z2.heap.size Z2 (w5.alloc (.cells (dg_secA dg) 33)) := hb5.trans (hb6.mono hb5.size)
              have r2 := r2.kept hbz
              have c21 := cell_later hbz c21
              have hBZ : Below n0 w (w5.alloc (.cells (dg_secA dg) 33)) := hBZ.trans (hbz.mono (by have := hBZ.size; omega))
              obtain ⟨p1, p2⟩ := id r2
              have p3 : (rowAt (w5.alloc (.cells (dg_secA dg) 33)) g2).size = 33 := by rw [p2]; exact dcA_size _
              clear hb5 hb6 hbz c10 c12 c20
              rcases hpd with ⟨hpg, rfl, rfl⟩ | ⟨hpg, rfl, rfl⟩
              · obtain ⟨x1, hx1⟩ : ∃ x, fldN d kD = some x := by
                  cases h9 : fldN d kD with
                  | none => have := HN1.out h9; rw [hb1] at this; cases this
                  | some x => exact ⟨x, rfl⟩
                obtain ⟨x2, hx2⟩ : ∃ x, fldN d kS = some x := by
                  cases h9 : fldN d kS with
                  | none => have := HN2.out h9; rw [hb2] at this; cases this
                  | some x => exact ⟨x, rfl⟩
                obtain ⟨-, u1, -, u3⟩ := HX1.out x1 hx1
                obtain ⟨-, v1, v2, -⟩ := HX2.out x2 hx2
                have hds : dscN d = some ⟨pval (lS s1), n2⟩ := by
                  rw [dscN_yes d x1 x2 hx1 hx2 ⟨u1.symm, v1.symm, by omega, by omega, by rw [← u3]; exact hpg⟩, ← u3, ← v2]
                have HP : Hid (DsP d w (.returned (.tuple #[.agg (dcA ⟨pval (lS s1), n2⟩), .bool true])) ((w5.alloc (.cells (dg_secA (pval (lS s1))) 33)).setRow g2 (dcA ⟨pval (lS s1), n2⟩))) :=
                  ⟨⟨_, _, rfl, fun y h9 => by rw [hds] at h9; cases h9; exact ⟨rfl, rfl⟩, fun h9 => by rw [hds] at h9; cases h9⟩, by rw [hn0]; exact below_row14 hBZ hg2 _⟩
                clear HX1 HX2 HN1 HN2 u1 u3 v1 v2 hds hx1 hx2 hpg
                go_wp2
                exact dc_bodyPost2 2 3 g2 _ rfl rfl rfl (RowC.setRow r2 _) (dcA_size _) (by exact HP.out)
              · have HP : Hid _ := ds_no (dscN_no d (fun x y h1 h2 h3 => hpg (by rw [(HX1.out x h1).2.2.2]; exact h3.2.2.2.2))) hBZ hn0 hg2
                clear HX1 HX2 hpg
                go_wp2
                exact dc_bodyPost2 2 3 g2 (dcA dcZ) rfl rfl rfl (RowC.setRow r2 _) (dcA_size _) (by exact HP.out)
        · have i3 : (k2 == 3) = false := beq_eq_false_iff_ne.2 e2
          have HP : Hid _ := ds_no (dscN_no d (fun x y h1 h2 h3 => by have := (HX2.out y h2).2.1; exact e2 (by rw [this]; exact h3.2.1))) hBZ hn0 hg2
          clear HX1 HX2
          go_wp2
          exact dc_bodyPost2 2 3 g2 (dcA dcZ) rfl rfl rfl (RowC.setRow r2 _) (dcA_size _) (by exact HP.out)
      · have i3 : (k1 == 4) = false := beq_eq_false_iff_ne.2 e1
        have HP : Hid _ := ds_no (dscN_no d (fun x y h1 h2 h3 => by have := (HX1.out x h1).2.1; exact e1 (by rw [this]; exact h3.1))) hBZ hn0 hg2
        clear HX1 HX2
        go_wp2
        exact dc_bodyPost2 2 3 g2 (dcA dcZ) rfl rfl rfl (RowC.setRow r2 _) (dcA_size _) (by exact HP.out)
end Go.Proofs.YtalnbddkhojjbaaGreatDoor
namespace Go.Proofs.YtalnbddkhojjbaaGreatDoor
open Go.RowKit

def DlP (d : Nd) (w : World) (e : Ending) (w' : World) : Prop := (∃ y n c b, e = .returned (.tuple #[.slice y n c, .bool b]) ∧ (∀ l, dscL d = some l → b = true ∧ l.length = n ∧ OwnK dcE w' w.heap.size (.slice y n c) l) ∧ (dscL d = none → b = false)) ∧ Below w.heap.size w w'
theorem dscA_none : ∀ (vs : List Nd) (i : Nat) (d : Nd), vs[i]? = some d → dscN d = none → dscA vs = none
  | [], i, d, h, _ => by simp at h
  | a :: r, 0, d, h, hd => by
    simp at h
    subst h
    rw [dscA, hd]
  | a :: r, i + 1, d, h, hd => by
    rw [dscA, dscA_none r i d (by simpa using h) hd]
    cases dscN a <;> rfl
theorem szL_ge : ∀ (vs : List Nd), 80 * vs.length ≤ szL vs
  | [] => by simp
  | a :: r => by
    have := szL_ge r
    cases a with
    | mk k n s ks v => rw [szL, szN_mk, List.length_cons]; omega
set_option linter.unusedSimpArgs false in
set_option maxRecDepth 100000 in
set_option maxHeartbeats 16000000 in
theorem descs16_any (d : Nd) (w : World) (F : Nat → Prop) (a : Rn) (ha : NdF w F a d) (hz : szN d ≤ 1099511627776) : Calls Tryz.prog 24 #[.agg (rnA a)] w fun e w' => DlP d w e w' := by
  obtain ⟨k, n, s, ks, vs⟩ := d
  obtain ⟨a1, -, -, kb, rs, -, -, -, av, -, al, ⟨-, hmv⟩, ae⟩ := ha.inv
  have va := av.num
  have hvs : 80 * vs.length ≤ 1099511627776 := by rw [szN_mk] at hz; have := szL_ge vs; omega
  clear hz
  obtain ⟨n0, hn0⟩ : ∃ q, w.heap.size = q := ⟨_, rfl⟩
  have bA := below_alloc w (.cells (rnA a) 55)
  have rA := RowC.new w (rnA a) 55
  have hsz1 : (w.alloc (.cells (rnA a) 55)).heap.size = n0 + 1 := by rw [alloc_sz15, hn0]
  rw [hn0] at rA
  go_enter Tryz.func24, Tryz.ntmps24
  go_upto_region 1 with fail
  have HAV : Hid (IsK ndE (w.alloc (.cells (rnA a) 55)) a.vs.v rs) := av.kept bA
  have HAE : Hid (∀ (i : Nat) u d, rs[i]? = some u → vs[i]? = some d → NdF (w.alloc (.cells (rnA a) 55)) F u d) := fun i u d h1 h2 => (ae i u d h1 h2).kept bA
  rw [hn0] at bA
  generalize w.alloc (.cells (rnA a) 55) = Y at rA bA HAV HAE hsz1 ⊢
  obtain ⟨k9, n9, s9, kk9, ⟨xv, nv, cv⟩⟩ := a
  simp only at a1 va hmv HAV
  subst a1
  have HV : Hid (rs.length = nv ∧ vs.length = nv) := ⟨va.symm, by omega⟩
  have HBY : Hid (Below n0 w Y) := bA
  have c0 : Y.cell? ⟨n0, 0, none⟩ = some (.int .i64 k9) := rA.cell 0
  have c4 : Y.cell? ⟨n0, 4, none⟩ = some (.slice xv nv cv) := rA.cell 4
  have hnv : 80 * nv ≤ 1099511627776 := by rw [← HV.out.2]; exact hvs
  clear av ae ha bA al va hvs
  by_cases h5 : k9 = 5
  · subst h5
    have HDL : Hid (dscL (.mk 5 n s ks vs) = dscA vs) := by show _ = _; unfold dscL; rw [show (Nd.mk 5 n s ks vs).kd = 5 from rfl, if_pos rfl]; rfl
    go_wp2_with fail
    go_loopw [4, 5] (fun lv iv wr => ∃ (i : Nat) (y : Option Addr) (c : Nat) (L : List Dc), i ≤ nv ∧ lv = .slice y i c ∧ iv = .int .i64 (i : Int) ∧ dscA (vs.take i) = some L ∧ L.length = i ∧ OwnK dcE wr Y.heap.size (.slice y i c) L ∧ Below Y.heap.size Y wr) (fun _ iv _ => nv - (intOf iv).toNat)
    case atStart => exact ⟨0, none, 0, [], by omega, rfl, rfl, rfl, rfl, OwnK.nil _ _ _, Below.refl _ _⟩
    case round =>
      obtain ⟨i, y, c, L, hi, rfl, rfl, hL, hLl, hO, hB⟩ := hrel
      have q4 := cell_later hB c4
      by_cases hlt : i < nv
      · have i0 : (0 : Int) ≤ (i : Int) := by omega
        have i1 : (i : Int) < (nv : Int) := by omega
        obtain ⟨ra, hra⟩ : ∃ q, rs[i]? = some q := ⟨_, List.getElem?_eq_getElem (by have := HV.out; omega)⟩
        obtain ⟨dd, hdd⟩ : ∃ q, vs[i]? = some q := ⟨_, List.getElem?_eq_getElem (by have := HV.out; omega)⟩
        obtain ⟨ba, oa, rfl, -, ca⟩ := IsK.at HAV.out i ra hra
        have la := run_load_el (range_later ca hB)
        have l5 : ndE.k = 5 := rfl
        rw [l5] at la
        have hD := desc16_any dd wr F ra ((HAE.out i ra dd hra hdd).kept hB)
        have HLL : Hid (dscA (vs.take i) = some L ∧ L.length = i ∧ vs[i]? = some dd) := ⟨hL, hLl, hdd⟩
        have HOO : Hid (OwnK dcE wr Y.heap.size (.slice y i c) L ∧ Below Y.heap.size Y wr) := ⟨hO, hB⟩
        clear ca hra hdd hL hLl hO l5
        go_wp2_with fail
        refine hD.mono ?_
        rintro e w1 ⟨⟨r, b, rfl, hy, hz⟩, hb1⟩
        clear hD la q4 hB
        obtain ⟨m1, hm1⟩ : ∃ q, w1.heap.size = q := ⟨_, rfl⟩
        have bC := below_alloc w1 (.cells (dcA r) 35)
        have rC := RowC.new w1 (dcA r) 35
        rw [hm1] at rC
        have hbz : Below wr.heap.size wr (w1.alloc (.cells (dcA r) 35)) := hb1.trans (bC.mono hb1.size)
        have hO1 := HOO.out.1.keep hbz
        have hB1 : Below Y.heap.size Y (w1.alloc (.cells (dcA r) 35)) := HOO.out.2.trans (hbz.mono HOO.out.2.size)
        have hsY : Y.heap.size ≤ (w1.alloc (.cells (dcA r) 35)).heap.size := hB1.size
        clear hb1 bC hbz HOO
        cases hbb : b with
        | false =>
          have HDN : Hid (dscL (.mk 5 n s ks vs) = none) := by
            show _ = _
            rw [HDL.out]
            refine dscA_none vs i dd HLL.out.2.2 ?_
            cases h9 : dscN dd with
            | none => rfl
            | some x => have := (hy x h9).2; rw [hbb] at this; cases this
          have HBF : Hid (Below n0 w (w1.alloc (.cells (dcA r) 35))) := HBY.out.trans (hB1.mono (by omega))
          clear hy hz hO1 hB1 rC hsY
          go_wp2
          go_ret2
          exact ⟨⟨none, 0, 0, false, rfl, fun l h9 => (by rw [HDN.out] at h9; cases h9), fun _ => rfl⟩, by rw [hn0]; exact HBF.out⟩
        | true =>
          have hdr : dscN dd = some r := by
            cases h9 : dscN dd with
            | none => have := (hz h9).2; rw [hbb] at this; cases this
            | some x => rw [(hy x h9).1]
          have HLN : Hid (dscA (vs.take (i + 1)) = some (L ++ [r])) := by
            show _ = _
            rw [List.take_add_one, HLL.out.2.2, Option.toList_some, dscA_snoc, HLL.out.1, hdr]
          have hLl := HLL.out.2.1
          obtain ⟨p1, p2⟩ := id rC
          have p3 : (rowAt (w1.alloc (.cells (dcA r) 35)) m1).size = 33 := by rw [p2]; exact dcA_size _
          go_upto_region 10 with fail
          clear hy hz hdr rC
          generalize w1.alloc (.cells (dcA r) 35) = Z at hO1 hB1 hsY p1 p2 p3 ⊢
          have bD := below_alloc Z (.cells (dcA r) 35)
          have hO2 := hO1.keep bD
          have hrg := dc_lit_range Z r
          have hlt2 : Z.heap.size < (Z.alloc (.cells (dcA r) 35)).heap.size := by rw [alloc_sz15]; omega
          obtain ⟨z, hz⟩ : ∃ q, Z.heap.size = q := ⟨_, rfl⟩
          have hz' := hz
          obtain ⟨g, c', w3, hr3, hO3, -, hg3, -⟩ := run_app1K dcE_ok _ Y.heap.size Z.heap.size (.slice y i c) L r 22 hO2 hrg hlt2 (by rw [hLl]; show (i + 1) * 40 ≤ _; omega) (by rw [hLl]; unfold maxLen; omega) (by have := bD.size; omega)
          rw [hLl, hz] at hr3
          rw [hLl] at hO3
          have hB3 : Below Y.heap.size Y w3 := (hB1.trans (bD.mono hsY)).trans (hO2.below hg3 (by have := bD.size; omega))
          have hr3' : (Builtin.append_ #[22, 22] 22 #[.slice y i c, .slice (some ⟨z, 0, none⟩) 1 1]).run Tryz.prog (Z.alloc (.cells (dcA r) 35)) = .ok (.slice (some ⟨g, 0, none⟩) (i + 1) c') w3 := hr3
          have HR : Hid (i + 1 ≤ nv ∧ (L ++ [r]).length = i + 1 ∧ OwnK dcE w3 Y.heap.size (.slice (some ⟨g, 0, none⟩) (i + 1) c') (L ++ [r]) ∧ Below Y.heap.size Y w3) := ⟨by omega, by rw [List.length_append, hLl]; rfl, hO3, hB3⟩
          clear hr3 hO3 hg3 hB3 hO1 hO2 hrg hlt2 bD hB1 hLl hsY
          go_wp2_with (at_builtin; refine wpL_appG 22 rfl _ _ rfl _ w3 (by exact hr3') ?_)
          go_roundw
          case rel => first | exact ⟨i + 1, some ⟨g, 0, none⟩, c', L ++ [r], HR.out.1, rfl, by go_num, HLN.out, HR.out.2.1, HR.out.2.2.1, HR.out.2.2.2⟩ | ((repeat apply Exists.intro); refine ⟨⟨i + 1, some ⟨g, 0, none⟩, c', L ++ [r], HR.out.1, rfl, ?_, HLN.out, HR.out.2.1, HR.out.2.2.1, HR.out.2.2.2⟩, rfl⟩; go_num)
          case measure => have := HR.out.1; simp [intOf]; omega
      · obtain rfl : nv = i := by omega
        have i1 : ¬ (nv : Int) < (nv : Int) := by omega
        have HDS : Hid (dscL (.mk 5 n s ks vs) = some L) := by show _ = _; rw [HDL.out, ← hL, List.take_of_length_le (by rw [HV.out.2]; exact Nat.le_refl _)]
        have HBF : Hid (Below n0 w wr) := HBY.out.trans (hB.mono (by omega))
        have HOW : Hid (L.length = nv ∧ OwnK dcE wr w.heap.size (.slice y nv c) L) := ⟨hLl, hO.le (by omega)⟩
        clear hL hO hB hLl
        go_wp2
        go_ret2
        exact ⟨⟨y, nv, c, true, rfl, fun l h9 => (by rw [HDS.out] at h9; cases h9; exact ⟨rfl, HOW.out.1, HOW.out.2⟩), fun h9 => (by rw [HDS.out] at h9; cases h9)⟩, by rw [hn0]; exact HBF.out⟩
  · have f5 : (k9 == 5) = false := beq_eq_false_iff_ne.2 h5
    have HDN : Hid (dscL (.mk k9 n s ks vs) = none) := by show _ = _; unfold dscL; rw [show (Nd.mk k9 n s ks vs).kd = k9 from rfl, if_neg h5]
    go_wp2
    go_ret2
    exact ⟨⟨none, 0, 0, false, rfl, fun l h9 => (by rw [HDN.out] at h9; cases h9), fun _ => rfl⟩, by rw [hn0]; exact HBY.out⟩
end Go.Proofs.YtalnbddkhojjbaaGreatDoor
namespace Go.Proofs.YtalnbddkhojjbaaGreatDoor
open Go.RowKit

theorem run_appAll16 {α : Type} {E : EK α} (O : E.Ok) (w : World) (B : Nat) (v : Option Addr) (n c' : Nat) (ds es : List α) (x : Option Addr) (m c N : Nat) (ty : TypeId) (h : OwnK E w B (.slice v n c') ds) (hx : IsK E w (.slice x m c) es) (hn : ds.length = n) (hm : es.length = m) (hN : n + m = N) (hl : N * E.bytes ≤ 140737488355328) (h63 : N ≤ maxLen) (hb : B ≤ w.heap.size) :
    ∃ v' c'' w', (Builtin.append_ #[E.S, E.S] ty #[.slice v n c', .slice x m c]).run Tryz.prog w = .ok (.slice v' N c'') w' ∧ OwnK E w' B (.slice v' N c'') (ds ++ es) ∧ Below B w w' := by
  subst hn hm hN
  by_cases h0 : es = []
  · subst h0
    have hcap := (h.isK O).cap
    have hv0 : v = none → ds.length = 0 := fun hv => by
      subst hv
      rcases Nat.eq_zero_or_pos ds.length with h1 | h1
      · exact h1
      · obtain ⟨g, e, -⟩ := h.form h1
        cases e
    exact ⟨v, c', w, run_appK0 O w v ds.length c' hcap.2 x c ty hv0, by simpa using h, Below.refl _ _⟩
  · obtain ⟨g, c2, w', hr, hO, hg, hway⟩ := run_appK O w B (.slice v ds.length c') ds es x c ty h hx h0 hl h63 hb
    exact ⟨_, c2, w', hr, hO, h.below hg hb⟩
theorem fldK_sz (key : List UInt8) : ∀ (ks : List (List UInt8)) (vs : List Nd) (x : Nd), fldK key ks vs = some x → szN x ≤ szL vs
  | [], vs, x, h => by simp [fldK] at h
  | k :: ks, [], x, h => by simp [fldK] at h
  | k :: ks, v :: vs, x, h => by
    rw [fldK] at h
    rw [szL]
    split at h
    · cases h; omega
    · have := fldK_sz key ks vs x h; omega
theorem fldN_sz (d : Nd) (key : List UInt8) (x : Nd) (h : fldN d key = some x) : szN x ≤ szN d := by
  cases d with
  | mk k n s ks vs =>
    rw [fldN] at h
    split at h
    · have := fldK_sz key ks vs x h
      rw [szN_mk]; omega
    · cases h
def RdP16 (l : List UInt8) (w : World) (e : Ending) (w' : World) : Prop := (∃ y n c, e = .returned (.tuple #[.int .i64 (mRd l).1, .slice y n c]) ∧ (mRd l).2.length = n ∧ OwnK dcE w' w.heap.size (.slice y n c) (mRd l).2) ∧ Below w.heap.size w w'
theorem rd_no {l : List UInt8} {w x : World} (h : mRd l = (0, [])) (hb : Below w.heap.size w x) : RdP16 l w (.returned (.tuple #[.int .i64 0, .slice none 0 0])) x := by
  unfold RdP16
  rw [h]
  exact ⟨⟨none, 0, 0, rfl, rfl, OwnK.nil _ _ _⟩, hb⟩
set_option linter.unusedSimpArgs false in
set_option maxRecDepth 100000 in
set_option maxHeartbeats 32000000 in
theorem refRead16_any (hrs : ∀ l, (prsA l).2.1 = 0 → szN (prsA l).1 ≤ 1099511627776) (l : List UInt8) (x : Option Addr) (n c : Nat) (w : World) (hn : l.length = n) (h : IsB w (.slice x n c) l) (hn47 : n ≤ 140737488355328) : Calls Tryz.prog 11 #[.slice x n c] w fun e w' => RdP16 l w e w' := by
  by_cases h4 : 4096 < n
  · have i1 : (4096 : Int) < (n : Int) := by omega
    have HP : Hid _ := rd_no (l := l) (by unfold mRd; rw [if_pos (by omega)]) (Below.refl w.heap.size w)
    clear h hn
    go_enter Tryz.func11, Tryz.ntmps11
    go_wp2
    go_ret2
    exact HP.out
  · have i1 : ¬ (4096 : Int) < (n : Int) := by omega
    obtain ⟨n0, hn0⟩ : ∃ q, w.heap.size = q := ⟨_, rfl⟩
    have HN0 : Hid (w.heap.size = n0) := hn0
    have hPs := refParse_any l x n c w hn h hn47
    have hrl := hrs l
    have HM : Hid (mRd l = if (prsA l).2.1 ≠ 0 then (0, []) else mrN (prsA l).1) := by show _ = _; unfold mRd; rw [if_neg (by omega)]
    unfold PsP at hPs
    obtain ⟨PP, hPP⟩ : ∃ q, prsA l = q := ⟨_, rfl⟩
    rw [hPP] at hPs hrl HM
    obtain ⟨d, E, Pz⟩ := PP
    simp only at hPs hrl HM
    rw [hn0] at hPs
    clear h hn hPP h4 hn47 hrs
    go_enter Tryz.func11, Tryz.ntmps11
    go_wp2_with fail
    refine hPs.mono ?_
    rintro e w0 ⟨q0, rfl, hnd, hb0⟩
    clear hPs
    obtain ⟨m0, hm0⟩ : ∃ q, w0.heap.size = q := ⟨_, rfl⟩
    have bC := below_alloc w0 (.cells (rnA q0) 55)
    have r0 := RowC.new w0 (rnA q0) 55
    rw [hm0] at r0
    rw [← hn0] at hb0
    have hBZ : Below w.heap.size w (w0.alloc (.cells (rnA q0) 55)) := hb0.trans (bC.mono hb0.size)
    go_upto_region 4 with fail
    have HND : Hid (NdF (w0.alloc (.cells (rnA q0) 55)) (n0 ≤ ·) q0 d) := hnd.kept bC
    generalize w0.alloc (.cells (rnA q0) 55) = Z0 at r0 hBZ HND ⊢
    clear bC hb0 hnd hm0
    have hq0 := HND.out.kd3.1
    obtain ⟨K0, hK0⟩ : ∃ q, q0.k = q := ⟨_, rfl⟩
    rw [hK0] at hq0
    have c00 : Z0.cell? ⟨m0, 0, none⟩ = some (.int .i64 K0) := by rw [← hK0]; exact r0.cell 0
    by_cases hE : E = 0
    · subst hE
      have hsz := hrl rfl
      have HM : Hid (mRd l = mrN d) := by have h9 := HM.out; rw [if_neg (by simp)] at h9; exact h9
      by_cases h6 : K0 = 6
      · subst h6
        clear hrl
        have hF := refField_any d ⟨#[115, 99, 104, 101, 109, 97, 86, 101, 114, 115, 105, 111, 110]⟩ Z0 _ q0 HND.out
        unfold FrP at hF
        obtain ⟨p1, p2⟩ := id r0
        have p3 : (rowAt Z0 m0).size = 5 := by rw [p2]; rfl
        go_wp2_with fail
        refine hF.mono ?_
        rintro e w1 ⟨⟨q1, b1, rfl, hy1, hz1⟩, hb1⟩
        clear hF p1 p2 p3
        obtain ⟨m1, hm1⟩ : ∃ q, w1.heap.size = q := ⟨_, rfl⟩
        have bC := below_alloc w1 (.cells (rnA q1) 55)
        have rD := RowC.new w1 (rnA q1) 55
        rw [hm1] at rD
        have hbz : Below Z0.heap.size Z0 (w1.alloc (.cells (rnA q1) 55)) := hb1.trans (bC.mono hb1.size)
        go_upto_region 7 with fail
        have HX1 : Hid (∀ x, fldN d kV = some x → b1 = true ∧ NdF (w1.alloc (.cells (rnA q1) 55)) (n0 ≤ ·) q1 x) := fun x h9 => by
          obtain ⟨e1, e2⟩ := hy1 x h9
          exact ⟨e1, e2.kept bC⟩
        have HN1 : Hid (fldN d kV = none → b1 = false) := hz1
        generalize w1.alloc (.cells (rnA q1) 55) = Z1 at hbz rD HX1 ⊢
        have HND : Hid (NdF Z1 (n0 ≤ ·) q0 d) := NdF.kept HND.out hbz
        have r0 := r0.kept hbz
        have r1 := rD
        have hBZ : Below w.heap.size w Z1 := hBZ.trans (hbz.mono hBZ.size)
        have hs1 : n0 ≤ Z1.heap.size := by rw [← HN0.out]; exact hBZ.size
        clear hy1 hz1 hb1 bC rD hm1 hbz
        clear c00
        have HM : Hid (mRd l = mrA d) := by show _ = _; rw [HM.out]; unfold mrN; rw [if_neg (by rw [← hq0]; simp)]
        obtain ⟨kv, nv, sv, ksv, vsv⟩ := q1
        have c10 : Z1.cell? ⟨m1, 0, none⟩ = some (.int .i64 kv) := r1.cell 0
        have c11 : Z1.cell? ⟨m1, 1, none⟩ = some (.int .i64 nv) := r1.cell 1
        cases hV : fldN d kV with
        | none =>
          have hb9 := HN1.out hV
          subst hb9
          have HP : Hid _ := rd_no (l := l) (by rw [HM.out]; unfold mrA; rw [hV]) hBZ
          clear HX1 HN1 HM r0 r1
          go_wp2
          go_ret2
          exact HP.out
        | some v =>
          obtain ⟨hb9, hv9⟩ := HX1.out v hV
          subst hb9
          obtain ⟨u1, u2, -⟩ := hv9.kd3
          simp only at u1 u2
          by_cases e1 : kv = 3
          · by_cases e2 : nv = 2
            · subst e1 e2
              have HM : Hid (mRd l = mrB d) := by show _ = _; rw [HM.out]; unfold mrA; rw [hV]; simp only; rw [if_neg (by rw [← u1, ← u2]; simp)]
              clear u1 u2 hV hv9 HX1 HN1
              go_upto_region 9 with fail
              clear c10 c11 r1
              have hF := refField_any d ⟨#[108, 97, 121, 101, 114, 115]⟩ Z1 _ q0 HND.out
              unfold FrP at hF
              obtain ⟨p1, p2⟩ := id r0
              have p3 : (rowAt Z1 m0).size = 5 := by rw [p2]; rfl
              go_wp2_with fail
              refine hF.mono ?_
              rintro e w2 ⟨⟨q2, b2, rfl, hy2, hz2⟩, hb2⟩
              clear hF p1 p2 p3
              obtain ⟨m2, hm2⟩ : ∃ q, w2.heap.size = q := ⟨_, rfl⟩
              have bC := below_alloc w2 (.cells (rnA q2) 55)
              have rD := RowC.new w2 (rnA q2) 55
              rw [hm2] at rD
              have hbz : Below Z1.heap.size Z1 (w2.alloc (.cells (rnA q2) 55)) := hb2.trans (bC.mono hb2.size)
              go_upto_region 10 with fail
              have HX2 : Hid (∀ x, fldN d kL16 = some x → b2 = true ∧ NdF (w2.alloc (.cells (rnA q2) 55)) (n0 ≤ ·) q2 x) := fun x h9 => by
                obtain ⟨e1, e2⟩ := hy2 x h9
                exact ⟨e1, e2.kept bC⟩
              have HN2 : Hid (fldN d kL16 = none → b2 = false) := hz2
              generalize w2.alloc (.cells (rnA q2) 55) = Z2 at hbz rD HX2 ⊢
              have HND : Hid (NdF Z2 (n0 ≤ ·) q0 d) := NdF.kept HND.out hbz
              have r0 := r0.kept hbz
              have r2 := rD
              have hBZ : Below w.heap.size w Z2 := hBZ.trans (hbz.mono hBZ.size)
              have hs2 : n0 ≤ Z2.heap.size := by rw [← HN0.out]; exact hBZ.size
              clear hy2 hz2 hb2 bC rD hm2 hbz
              have hF := refField_any d ⟨#[109, 97, 110, 105, 102, 101, 115, 116, 115]⟩ Z2 _ q0 HND.out
              unfold FrP at hF
              obtain ⟨p1, p2⟩ := id r0
              have p3 : (rowAt Z2 m0).size = 5 := by rw [p2]; rfl
              go_wp2_with fail
              refine hF.mono ?_
              rintro e w3 ⟨⟨q3, b3, rfl, hy3, hz3⟩, hb3⟩
              clear hF p1 p2 p3
              obtain ⟨m3, hm3⟩ : ∃ q, w3.heap.size = q := ⟨_, rfl⟩
              have bC := below_alloc w3 (.cells (rnA q3) 55)
              have rD := RowC.new w3 (rnA q3) 55
              rw [hm3] at rD
              have hbz : Below Z2.heap.size Z2 (w3.alloc (.cells (rnA q3) 55)) := hb3.trans (bC.mono hb3.size)
              go_upto_region 11 with fail
              have HX3 : Hid (∀ x, fldN d kM = some x → b3 = true ∧ NdF (w3.alloc (.cells (rnA q3) 55)) (n0 ≤ ·) q3 x) := fun x h9 => by
                obtain ⟨e1, e2⟩ := hy3 x h9
                exact ⟨e1, e2.kept bC⟩
              have HN3 : Hid (fldN d kM = none → b3 = false) := hz3
              generalize w3.alloc (.cells (rnA q3) 55) = Z3 at hbz rD HX3 ⊢
              have HND : Hid (NdF Z3 (n0 ≤ ·) q0 d) := NdF.kept HND.out hbz
              have r0 := r0.kept hbz
              have r2 := r2.kept hbz
              have HX2 : Hid (∀ x, fldN d kL16 = some x → b2 = true ∧ NdF Z3 (n0 ≤ ·) q2 x) := fun x h9 => ⟨(HX2.out x h9).1, (HX2.out x h9).2.kept hbz⟩
              have r3 := rD
              have hBZ : Below w.heap.size w Z3 := hBZ.trans (hbz.mono hBZ.size)
              have hs3 : n0 ≤ Z3.heap.size := by rw [← HN0.out]; exact hBZ.size
              clear hy3 hz3 hb3 bC rD hm3 hbz
              cases hL : fldN d kL16 with
              | none =>
                have hb9 := HN2.out hL
                subst hb9
                cases hM : fldN d kM with
                | none =>
                  have hb9 := HN3.out hM
                  subst hb9
                  have HMZ : mrB d = (0, []) := by unfold mrB; rw [hL, hM]
                  have HP : Hid _ := rd_no (l := l) (by rw [HM.out]; exact HMZ) hBZ
                  clear HX2 HX3 HN2 HN3 HM r0 r2 r3 hL hM HMZ
                  go_wp2
                  go_ret2
                  exact HP.out
                | some m =>
                  obtain ⟨hb9, hv9⟩ := HX3.out m hM
                  subst hb9
                  have HMM : mrB d = mrM m := by unfold mrB; rw [hL, hM]
                  have hD := descs16_any m Z3 _ q3 hv9 (Nat.le_trans (fldN_sz d kM m hM) hsz)
                  unfold DlP at hD
                  obtain ⟨p1, p2⟩ := id r3
                  have p3 : (rowAt Z3 m3).size = 5 := by rw [p2]; rfl
                  clear HX2 HX3 HN2 HN3 r0 r2 r3 hL hM hv9
                  go_wp2_with fail
                  refine hD.mono ?_
                  rintro e w4 ⟨⟨y4, n4, c4, b4, rfl, hy4, hz4⟩, hb4⟩
                  clear hD p1 p2 p3
                  have hsZ : w.heap.size ≤ Z3.heap.size := hBZ.size
                  have hBZ : Below w.heap.size w w4 := hBZ.trans (hb4.mono hBZ.size)
                  cases hdl : dscL m with
                  | none =>
                    have hb9 := hz4 hdl
                    subst hb9
                    have HMZ : mrB d = (0, []) := by rw [HMM]; unfold mrM; rw [hdl]
                    have HP : Hid _ := rd_no (l := l) (by rw [HM.out]; exact HMZ) hBZ
                    clear hy4 hz4 hb4 hdl HMM HMZ HM hsZ
                    go_wp2
                    go_ret2
                    exact HP.out
                  | some L =>
                    obtain ⟨hb9, hln, hO⟩ := hy4 L hdl
                    subst hb9
                    by_cases h32 : 32 < n4
                    · have j1 : (32 : Int) < (n4 : Int) := by omega
                      have HMZ : mrB d = (0, []) := by rw [HMM]; unfold mrM; rw [hdl]; simp only; rw [if_pos (by omega)]
                      have HP : Hid _ := rd_no (l := l) (by rw [HM.out]; exact HMZ) hBZ
                      clear hy4 hz4 hb4 hdl HMM HMZ HM hsZ hO hln
                      go_wp2
                      go_ret2
                      exact HP.out
                    · have j1 : ¬ (32 : Int) < (n4 : Int) := by omega
                      have HMZ : mRd l = (2, L) := by rw [HM.out, HMM]; unfold mrM; rw [hdl]; simp only; rw [if_neg (by omega)]
                      have HP : Hid (RdP16 l w (.returned (.tuple #[.int .i64 2, .slice y4 n4 c4])) w4) := by
                        unfold Hid RdP16
                        rw [HMZ]
                        exact ⟨⟨y4, n4, c4, rfl, hln, hO.le hsZ⟩, hBZ⟩
                      clear hy4 hz4 hb4 hdl HMM HMZ HM hsZ hO hln
                      go_wp2
                      go_ret2
                      exact HP.out
              | some y =>
                obtain ⟨hb9, hvy⟩ := HX2.out y hL
                subst hb9
                cases hM : fldN d kM with
                | some m =>
                  have hb9 := (HX3.out m hM).1
                  subst hb9
                  have HMZ : mrB d = (0, []) := by unfold mrB; rw [hL, hM]
                  have HP : Hid _ := rd_no (l := l) (by rw [HM.out]; exact HMZ) hBZ
                  clear HX2 HX3 HN2 HN3 HM r0 r2 r3 hL hM HMZ hvy
                  go_wp2
                  go_ret2
                  exact HP.out
                | none =>
                  have hb9 := HN3.out hM
                  subst hb9
                  clear HX3 HN3 HN2 r3 hvy
                  have hF := refField_any d ⟨#[99, 111, 110, 102, 105, 103]⟩ Z3 _ q0 HND.out
                  unfold FrP at hF
                  obtain ⟨p1, p2⟩ := id r0
                  have p3 : (rowAt Z3 m0).size = 5 := by rw [p2]; rfl
                  go_wp2_with fail
                  refine hF.mono ?_
                  rintro e w4 ⟨⟨q4, b4, rfl, hy4, hz4⟩, hb4⟩
                  clear hF p1 p2 p3
                  obtain ⟨m4, hm4⟩ : ∃ q, w4.heap.size = q := ⟨_, rfl⟩
                  have bC := below_alloc w4 (.cells (rnA q4) 55)
                  have rD := RowC.new w4 (rnA q4) 55
                  rw [hm4] at rD
                  have hbz : Below Z3.heap.size Z3 (w4.alloc (.cells (rnA q4) 55)) := hb4.trans (bC.mono hb4.size)
                  go_upto_region 19 with fail
                  have HX4 : Hid (∀ x, fldN d kC = some x → b4 = true ∧ NdF (w4.alloc (.cells (rnA q4) 55)) (n0 ≤ ·) q4 x) := fun x h9 => by
                    obtain ⟨e1, e2⟩ := hy4 x h9
                    exact ⟨e1, e2.kept bC⟩
                  have HN4 : Hid (fldN d kC = none → b4 = false) := hz4
                  generalize w4.alloc (.cells (rnA q4) 55) = Z4 at hbz rD HX4 ⊢
                  have HND : Hid (NdF Z4 (n0 ≤ ·) q0 d) := NdF.kept HND.out hbz
                  have r0 := r0.kept hbz
                  have r2 := r2.kept hbz
                  have HX2 : Hid (∀ x, fldN d kL16 = some x → true = true ∧ NdF Z4 (n0 ≤ ·) q2 x) := fun x h9 => ⟨rfl, (HX2.out x h9).2.kept hbz⟩
                  have r4 := rD
                  have hBZ : Below w.heap.size w Z4 := hBZ.trans (hbz.mono hBZ.size)
                  have hs4 : n0 ≤ Z4.heap.size := by rw [← HN0.out]; exact hBZ.size
                  clear hy4 hz4 hb4 bC rD hm4 hbz
                  cases hC : fldN d kC with
                  | none =>
                    have hb9 := HN4.out hC
                    subst hb9
                    have HMZ : mrB d = (0, []) := by unfold mrB; rw [hL, hM, hC]
                    have HP : Hid _ := rd_no (l := l) (by rw [HM.out]; exact HMZ) hBZ
                    clear HX2 HX4 HN4 HM r0 r2 r4 hL hM hC HMZ
                    go_wp2
                    go_ret2
                    exact HP.out
                  | some cf =>
                    obtain ⟨hb9, hv9⟩ := HX4.out cf hC
                    subst hb9
                    have HMM : Hid (mRd l = mrL cf y) := by show _ = _; rw [HM.out]; unfold mrB; rw [hL, hM, hC]
                    have hvy := (HX2.out y hL).2
                    have hszy := Nat.le_trans (fldN_sz d kL16 y hL) hsz
                    have hD := desc16_any cf Z4 _ q4 hv9
                    unfold DsP at hD
                    obtain ⟨p1, p2⟩ := id r4
                    have p3 : (rowAt Z4 m4).size = 5 := by rw [p2]; rfl
                    clear HX2 HX4 HN4 r0 r4 hL hM hC hv9 HM
                    go_wp2_with fail
                    refine hD.mono ?_
                    rintro e w5 ⟨⟨r5, b5, rfl, hy5, hz5⟩, hb5⟩
                    clear hD p1 p2 p3
                    obtain ⟨m5, hm5⟩ : ∃ q, w5.heap.size = q := ⟨_, rfl⟩
                    have bC := below_alloc w5 (.cells (dcA r5) 35)
                    have rD := RowC.new w5 (dcA r5) 35
                    rw [hm5] at rD
                    have hbz : Below Z4.heap.size Z4 (w5.alloc (.cells (dcA r5) 35)) := hb5.trans (bC.mono hb5.size)
                    go_upto_region 22 with fail
                    generalize w5.alloc (.cells (dcA r5) 35) = Z5 at hbz rD ⊢
                    have hvy := hvy.kept hbz
                    have r2 := r2.kept hbz
                    have hBZ : Below w.heap.size w Z5 := hBZ.trans (hbz.mono hBZ.size)
                    have hD := descs16_any y Z5 _ q2 hvy hszy
                    unfold DlP at hD
                    obtain ⟨p1, p2⟩ := id r2
                    have p3 : (rowAt Z5 m2).size = 5 := by rw [p2]; rfl
                    clear hb5 bC hbz hvy r2 hm5
                    go_wp2_with fail
                    refine hD.mono ?_
                    rintro e w6 ⟨⟨y6, n6, c6, b6, rfl, hy6, hz6⟩, hb6⟩
                    clear hD p1 p2 p3
                    have hsZ : w.heap.size ≤ Z5.heap.size := hBZ.size
                    have hBZ : Below w.heap.size w w6 := hBZ.trans (hb6.mono hBZ.size)
                    have rD := rD.kept hb6
                    cases hdc : dscN cf with
                    | none =>
                      obtain ⟨hr9, hb9⟩ := hz5 hdc
                      subst hb9
                      have HMZ : mRd l = (0, []) := by rw [HMM.out]; unfold mrL; rw [hdc]
                      have HP : Hid _ := rd_no (l := l) (by exact HMZ) hBZ
                      clear hy5 hz5 hy6 hz6 hb6 hdc HMM HMZ hsZ rD hr9
                      go_wp2
                      go_ret2
                      exact HP.out
                    | some D =>
                      obtain ⟨hr9, hb9⟩ := hy5 D hdc
                      subst hb9 hr9
                      cases hdl : dscL y with
                      | none =>
                        have hb9 := hz6 hdl
                        subst hb9
                        have HMZ : mRd l = (0, []) := by rw [HMM.out]; unfold mrL; rw [hdc, hdl]
                        have HP : Hid _ := rd_no (l := l) (by exact HMZ) hBZ
                        clear hy5 hz5 hy6 hz6 hb6 hdc hdl HMM HMZ hsZ rD
                        go_wp2
                        go_ret2
                        exact HP.out
                      | some L =>
                        obtain ⟨hb9, hln, hO⟩ := hy6 L hdl
                        subst hb9
                        by_cases h32 : 32 ≤ n6
                        · have j1 : (32 : Int) ≤ (n6 : Int) := by omega
                          have HMZ : mRd l = (0, []) := by rw [HMM.out]; unfold mrL; rw [hdc, hdl]; simp only; rw [if_pos (by omega)]
                          have HP : Hid _ := rd_no (l := l) (by exact HMZ) hBZ
                          clear hy5 hz5 hy6 hz6 hb6 hdc hdl HMM HMZ hsZ rD hO hln
                          go_wp2
                          go_ret2
                          exact HP.out
                        · have j1 : ¬ (32 : Int) ≤ (n6 : Int) := by omega
                          have HMZ : mRd l = (1, r5 :: L) := by rw [HMM.out]; unfold mrL; rw [hdc, hdl]; simp only; rw [if_neg (by omega)]
                          obtain ⟨p1, p2⟩ := id rD
                          have p3 : (rowAt w6 m5).size = 33 := by rw [p2]; exact dcA_size _
                          have bD := below_alloc w6 (.cells (dcA r5) 35)
                          have hO2 := hO.keep bD
                          have hlit := dc_lit w6 r5
                          obtain ⟨z, hz⟩ : ∃ q, w6.heap.size = q := ⟨_, rfl⟩
                          obtain ⟨v7, c7, w7, hr7, hO7, hB7⟩ := run_appAll16 dcE_ok _ w6.heap.size (some ⟨w6.heap.size, 0, none⟩) 1 1 [r5] L y6 n6 c6 (n6 + 1) 22 hlit (hO2.isK dcE_ok) rfl hln (by omega) (by show (n6 + 1) * 40 ≤ _; omega) (by unfold maxLen; omega) bD.size
                          have HP : Hid (RdP16 l w (.returned (.tuple #[.int .i64 1, .slice v7 (n6 + 1) c7])) w7) := by
                            unfold Hid RdP16
                            rw [HMZ]
                            exact ⟨⟨v7, n6 + 1, c7, rfl, by simp [hln], hO7.le (Nat.le_trans hsZ hb6.size)⟩, (hBZ.trans (bD.mono hBZ.size)).trans (hB7.mono hBZ.size)⟩
                          rw [hz] at hr7
                          have hr7' : (Builtin.append_ #[22, 22] 22 #[.slice (some ⟨z, 0, none⟩) 1 1, .slice y6 n6 c6]).run Tryz.prog (w6.alloc (.cells (dcA r5) 35)) = .ok (.slice v7 (n6 + 1) c7) w7 := hr7
                          clear hy5 hz5 hy6 hz6 hb6 hdc hdl HMM HMZ hsZ rD hO hln hO2 hlit hr7 hO7 hB7 bD hBZ
                          go_wp2_with (at_builtin; refine wpL_appG 22 rfl _ _ rfl _ w7 (by exact hr7') ?_)
                          go_ret2
                          exact HP.out
            · have i3 : (nv == 2) = false := beq_eq_false_iff_ne.2 e2
              have HP : Hid _ := rd_no (l := l) (by rw [HM.out]; unfold mrA; rw [hV]; simp only; rw [if_pos (.inr (by rw [← u2]; exact e2))]) hBZ
              clear HX1 HN1 HM r0 r1 hv9 u1 u2 hV
              go_wp2
              go_ret2
              exact HP.out
          · have i3 : (kv == 3) = false := beq_eq_false_iff_ne.2 e1
            have HP : Hid _ := rd_no (l := l) (by rw [HM.out]; unfold mrA; rw [hV]; simp only; rw [if_pos (.inl (by rw [← u1]; exact e1))]) hBZ
            clear HX1 HN1 HM r0 r1 hv9 u1 u2 hV
            go_wp2
            go_ret2
            exact HP.out
      · have i6 : (K0 == 6) = false := beq_eq_false_iff_ne.2 h6
        have HP : Hid _ := rd_no (l := l) (by rw [HM.out]; unfold mrN; rw [if_pos (by rw [← hq0]; exact h6)]) hBZ
        clear HM r0 hrl hq0
        go_wp2
        go_ret2
        exact HP.out
    · have i0 : (E == 0) = false := beq_eq_false_iff_ne.2 hE
      have HP : Hid _ := rd_no (l := l) (by rw [HM.out, if_pos hE]) hBZ
      clear HM r0 hrl hq0
      go_wp2
      go_ret2
      exact HP.out
end Go.Proofs.YtalnbddkhojjbaaGreatDoor
