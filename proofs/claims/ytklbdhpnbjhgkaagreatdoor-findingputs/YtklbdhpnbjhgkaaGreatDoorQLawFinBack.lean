import Derived.Test.YtklbdhpnbjhgkaaGreatDoorQFiT
namespace Go.Proofs.YtklbdhpnbjhgkaaGreatDoor
open Go.RowKit Go.Sort

/-! FindingBack -/
theorem OwnB.slice22 {w : World} {B : Nat} {v : Value} {l : List UInt8} (h : OwnB w B v l) : ∃ x c, v = .slice x l.length c ∧ l.length ≤ c ∧ ∀ a, x = some a → a.block < w.heap.size := by
  obtain ⟨-, ⟨rfl, h1⟩ | ⟨g, cap, cur, rfl, hb, hg, hle, -⟩⟩ := h
  · refine ⟨none, 0, ?_, ?_, fun a ha => by cases ha⟩
    · rw [h1]
    · omega
  · refine ⟨_, cap, rfl, hle, fun a ha => ?_⟩
    cases ha
    exact (Array.getElem?_eq_some_iff.1 hg).1
theorem OwnK.cap22 {α : Type} {E : EK α} (O : E.Ok) {w : World} {B n c : Nat} {x : Option Addr} {ds : List α} (h : OwnK E w B (.slice x n c) ds) : ds.length = n := ((h.isK O).cap.1).symm
theorem ownI_num {w : World} {B n c : Nat} {x : Option Addr} {l : List Int} (h : OwnI w B (.slice x n c) l) : l.length = n := by
  have := OwnG.num h
  rw [inV_len] at this
  exact this.symm
theorem RpI.ofOwn {w : World} {B : Nat} {r : Rp} {xf : Option Addr} {nf cf : Nat} {xd : Option Addr} {nd cd : Nat} {xi : Option Addr} {ni ci : Nat} (h1 : OwnK fdE w B (.slice xf nf cf) r.fs) (h2 : OwnK dgE w B (.slice xd nd cd) r.ds) (h3 : OwnI w B (.slice xi ni ci) r.dr) : RpI w r xf nf cf xd nd cd xi ni ci :=
  ⟨h1.isK fdE_ok, h2.isK dgE_ok, OwnG.isG h3, h1.cap22 fdE_ok, h2.cap22 dgE_ok, ownI_num h3⟩
theorem body_len (r : Rp) (h : checkM r = 0) : (bytesM r).length ≤ 3000000 := by
  obtain ⟨-, ⟨a1, a2, a3⟩, -⟩ := (checkM_zero r).1 h
  unfold bytesM bodyM
  simp only [List.length_append, le4_len, two_len, flat_len fB 3 fB_len, flat_len dB 32 dB_len, flat_len sB 2 (fun _ => rfl), List.length_cons, List.length_nil]
  omega
/-- append([]byte{}, b...): a copy of one's own. -/
theorem copyB22 (w : World) (x : Option Addr) (n c : Nat) (b : List UInt8) (ty : TypeId) (hb : IsB w (.slice x n c) b) (hn : b.length = n) (hl : n ≤ 140737488355328) :
    ∃ v' w', (Builtin.append_ #[33, 33] ty #[.slice (some ⟨w.heap.size, 0, none⟩) 0 0, .slice x n c]).run Tryz.prog (w.alloc (.cells #[] 5)) = .ok v' w' ∧ OwnB w' w.heap.size v' b ∧ Below w.heap.size w w' := by
  have b0 := below_alloc w (.cells #[] 5)
  obtain ⟨v', w', h1, h2, h3, -⟩ := appB22 (w.alloc (.cells #[] 5)) w.heap.size (.slice (some ⟨w.heap.size, 0, none⟩) 0 0) [] x n c b ty (ownB_empty w) hn (hb.kept b0) (by simp; omega) b0.size
  exact ⟨v', w', h1, h2, b0.trans h3⟩
set_option linter.unusedSimpArgs false in
set_option maxRecDepth 100000 in
set_option maxHeartbeats 8000000 in
theorem lawFinBack (w : World) (r : Rp) (xf : Option Addr) (nf cf : Nat) (xd : Option Addr) (nd cd : Nat) (xi : Option Addr) (ni ci : Nat) (xb : Option Addr) (nb cb : Nat) (b : List UInt8) (short : Int) (hE : ETy w)
    (hI0 : RpI w r xf nf cf xd nd cd xi ni ci) (hCan : RpC r) (hs1 : nf * 16 ≤ 140737488355328) (hs2 : nd ≤ 140737488355328) (hs3 : ni ≤ 140737488355328) (hb : IsB w (.slice xb nb cb) b) (hnb : b.length = nb) (hs4 : nb ≤ 140737488355328) :
    Calls Tryz.prog 4 #[.agg (rpA r.st (.slice xf nf cf) (.slice xd nd cd) (.slice xi ni ci)), .slice xb nb cb, .int .i64 short] w fun e w' => e = .returned (.bool true) ∧ Below w.heap.size w w' := by
  have b0 := below_alloc w (.cells (rpA r.st (.slice xf nf cf) (.slice xd nd cd) (.slice xi ni ci)) 32)
  have z0 := RowC.new w (rpA r.st (.slice xf nf cf) (.slice xd nd cd) (.slice xi ni ci)) 32
  have hT := taken22 _ (hE.later b0)
  have HI0 : Hid (RpI w r xf nf cf xd nd cd xi ni ci) := hI0
  have HCan : Hid (RpC r) := hCan
  have HSZ : Hid (nd ≤ 140737488355328 ∧ ni ≤ 140737488355328) := ⟨hs2, hs3⟩
  have HCK : Hid ((sortM r.fs).length ≤ 140737488355328) := by
    have h9 := sortM_len r.fs []
    have := hI0.nf
    show _ ≤ _
    unfold sortM
    simp at h9
    omega
  have HE : Hid (ETy w) := hE
  clear hI0 hCan hs2 hs3 hE
  go_enter Tryz.func4, Tryz.ntmps4
  go_upto_region 1 with fail
  obtain ⟨z3, hz3⟩ : ∃ z, w.heap.size = z := ⟨_, rfl⟩
  have Z3 : Hid (w.heap.size = z3) := hz3
  try simp only [hz3]
  rw [hz3] at z0
  have HB0 : Hid (Below w.heap.size w (w.alloc (.cells (rpA r.st (.slice xf nf cf) (.slice xd nd cd) (.slice xi ni ci)) 32))) := b0
  have hb0 := hb.kept b0
  generalize w.alloc (.cells (rpA r.st (.slice xf nf cf) (.slice xd nd cd) (.slice xi ni ci)) 32) = W0 at HB0 z0 hT hb0 ⊢
  clear hz3 b0 hb
  go_wp2_with fail
  refine hT.mono ?_
  rintro e w1 ⟨rfl, b1⟩
  have z1 := z0.kept b1
  have hb1 := hb0.kept b1
  have HB1 : Hid (Below w.heap.size w w1) := HB0.out.trans (b1.mono HB0.out.size)
  clear hT z0 hb0 HB0 b1
  obtain ⟨v2, w2, hra, hO2, b2⟩ := copyB22 w1 xb nb cb b 33 hb1 hnb hs4
  obtain ⟨x2, c2, rfl, hc2, hx2⟩ := hO2.slice22
  rw [hnb] at hra hO2 hc2
  have hG := get22 w2 x2 nb c2 b hO2.isB hnb hc2 hs4 hx2
  have z2 := z1.kept b2
  have hb2 := hb1.kept b2
  have HB2 : Hid (Below w.heap.size w w2) := HB1.out.trans (b2.mono HB1.out.size)
  clear z1 hb1 HB1 b2 hO2 hc2 hx2
  go_wp2_with (first | (at_builtin; refine wpL_appG 33 rfl _ _ rfl _ w2 (by exact hra) ?_))
  try simp only [hnb]
  refine hG.mono ?_
  rintro e w3 ⟨b3, hm⟩
  have z4 := z2.kept b3
  have hb3 := hb2.kept b3
  have HB3 : Hid (Below w.heap.size w w3) := HB2.out.trans (b3.mono HB2.out.size)
  clear hG hra z2 hb2 HB2 b3
  cases hg : getM b with
  | error p =>
    rw [hg] at hm
    obtain ⟨q, rfl, -, -⟩ := hm
    have b4 := below_alloc w3 (.cells (rpA 0 (.slice none 0 0) (.slice none 0 0) (.slice none 0 0)) 32)
    have st := run_store_rp (w3.alloc (.cells (rpA 0 (.slice none 0 0) (.slice none 0 0) (.slice none 0 0)) 32)) w3.heap.size (rpA 0 (.slice none 0 0) (.slice none 0 0) (.slice none 0 0)) (RowC.new w3 _ _).1 (by rw [(RowC.new w3 _ _).2]; rfl) rfl (rpA_one _ _ _ _ _ _ _ _ _ _)
    have z3row := z4.kept b4
    have HB : Hid (Below w.heap.size w (w3.alloc (.cells (rpA 0 (.slice none 0 0) (.slice none 0 0) (.slice none 0 0)) 32))) := HB3.out.trans (b4.mono HB3.out.size)
    clear z4 hb3 HB3 b4 hg
    go_upto_region 8 with fail
    clear st
    generalize w3.alloc (.cells (rpA 0 (.slice none 0 0) (.slice none 0 0) (.slice none 0 0)) 32) = W at z3row HB ⊢
    have hI : RpI W r xf nf cf xd nd cd xi ni ci := HI0.out.kept HB.out
    have f1 : W.cell? ⟨z3, 1, none⟩ = some (.slice xf nf cf) := by rw [z3row.cell]; rfl
    have hS := sortF22 xf nf cf r.fs W hI.f hI.nf hs1
    go_wp2_with fail
    refine hS.mono ?_
    rintro e u1 ⟨vs, rfl, hOs, bs⟩
    obtain ⟨xs, cs, rfl⟩ := (hOs.isK fdE_ok).len
    obtain ⟨ns, hns⟩ : ∃ z, (sortM r.fs).length = z := ⟨_, rfl⟩
    rw [hns] at hOs
    try simp only [hns]
    have z3u := z3row.kept bs
    have fz := z3u.frozen 1
    have zc : u1.cell? ⟨z3, 1, none⟩ = some (.slice xf nf cf) := by rw [z3u.cell]; rfl
    have zl := z3row.lt
    have z3s : RowC (u1.setCell ⟨z3, 1, none⟩ (.slice xs ns cs)) z3 (rpA r.st (.slice xs ns cs) (.slice xd nd cd) (.slice xi ni ci)) := z3u.set 1 _
    have kc := Keep.cell1 u1 z3 1 (.slice xs ns cs)
    have bu : Below w.heap.size w u1 := HB.out.trans (bs.mono HB.out.size)
    have bv : Below w.heap.size w (u1.setCell ⟨z3, 1, none⟩ (.slice xs ns cs)) := bu.setCell (by show w.heap.size ≤ z3; rw [Z3.out]; exact Nat.le_refl _) _
    have hO9 : OwnK fdE (u1.setCell ⟨z3, 1, none⟩ (.slice xs ns cs)) W.heap.size (.slice xs ns cs) (sortM r.fs) := OwnK.keeps hOs kc (fun q hq => by have := (World.ownsRow.lt hOs q hq).1; simp; omega)
    obtain ⟨r2, hr2⟩ : ∃ q : Rp, ⟨r.st, sortM r.fs, r.ds, r.dr⟩ = q := ⟨_, rfl⟩
    have hI2 : RpI (u1.setCell ⟨z3, 1, none⟩ (.slice xs ns cs)) r2 xs ns cs xd nd cd xi ni ci := by
      rw [← hr2]
      exact ⟨hO9.isK fdE_ok, HI0.out.d.kept bv, HI0.out.i.kept bv, hns, HI0.out.nd, HI0.out.ni⟩
    have hst2 : r2.st = r.st := by rw [← hr2]
    have hC2 : RpC r2 := by rw [← hr2]; exact HCan.out
    have HCK2 : Hid (r2.fs.length ≤ 140737488355328) := by rw [← hr2]; exact HCK.out
    have ld := run_load_rp _ z3 z3s.1 (by rw [z3s.2]; rfl)
    rw [z3s.2] at ld
    clear hS f1 z3u hOs kc bs bu hns hr2 hO9 zl z3row hI HB
    go_upto_region 9 with fail
    generalize u1.setCell ⟨z3, 1, none⟩ (.slice xs ns cs) = X at z3s hI2 bv ld ⊢
    clear fz zc
    have hP := put22 X r2 xs ns cs xd nd cd xi ni ci hI2
    rw [hst2] at hP
    go_wp2_with fail
    refine hP.mono ?_
    rintro e u2 ⟨b2, vc, rfl, hOc⟩
    clear hP ld
    have z3t := z3s.kept b2
    have hI3 := hI2.kept b2
    have HB2 : Hid (Below w.heap.size w u2) := bv.trans (b2.mono bv.size)
    clear z3s hI2 bv b2
    by_cases hck : checkM r2 = 0
    · have hck' : ((checkM r2 : Nat) : Int) = 0 := by omega
      have hpm : putM r2 = bytesM r2 := by unfold putM; rw [if_pos hck]
      rw [hpm] at hOc
      have hlen := body_len r2 hck
      obtain ⟨L, hL⟩ : ∃ L, bytesM r2 = L := ⟨_, rfl⟩
      have g1 := getM_put r2 hC2 hck
      have g2 := getM_more r2 hC2 hck 0
      have g3 := getM_short r2 hC2 hck
      rw [hL] at hOc hlen g1 g2 g3
      obtain ⟨xc, cc, rfl, hcc, hxc⟩ := hOc.slice22
      obtain ⟨nc, hnc⟩ : ∃ z, L.length = z := ⟨_, rfl⟩
      rw [hnc] at hcc hlen g3 g2 hOc
      try simp only [hnc]
      have hIc := hOc.isB
      clear hpm hL hOc hck hC2
      obtain ⟨v3, u3, hra, hO3, b3⟩ := copyB22 u2 xc nc cc L 33 hIc hnc (by omega)
      obtain ⟨x3, c3, rfl, hc3, hx3⟩ := hO3.slice22
      rw [hnc] at hra hO3 hc3
      have hG := get22 u3 x3 nc c3 L hO3.isB hnc hc3 (by omega) hx3
      rw [g1] at hG
      go_wp2_with (first | (at_builtin; refine wpL_appG 33 rfl _ _ rfl _ u3 (by exact hra) ?_))
      try simp only [hnc]
      refine hG.mono ?_
      rintro e u4 ⟨b4, yf, mf, df, yd, md, dd, yi, mi, di, rfl, o1, o2, o3⟩
      clear hG hra
      have z4 := (z3t.kept b3).kept b4
      have hI4 := (hI3.kept b3).kept b4
      have hc4 := (hIc.kept b3).kept b4
      have hJ := RpI.ofOwn (r := r2) o1 o2 o3
      have e1 : mf = ns := hJ.nf.symm.trans hI4.nf
      have e2 : md = nd := hJ.nd.symm.trans hI4.nd
      have e3 : mi = ni := hJ.ni.symm.trans hI4.ni
      subst e1 e2 e3
      have HB4 : Hid (Below w.heap.size w u4) := (HB2.out.trans (b3.mono HB2.out.size)).trans (b4.mono (Nat.le_trans HB2.out.size b3.size))
      clear b3 b4 o1 o2 o3 z3t hI3 hIc hO3 hc3 hx3 HB2 hxc g1
      rw [hst2]
      obtain ⟨R, hR⟩ : ∃ R, rpA r.st (.slice yf mf df) (.slice yd md dd) (.slice yi mi di) = R := ⟨_, rfl⟩
      have b5 := below_alloc u4 (.cells R 32)
      have st := run_store_rp (u4.alloc (.cells (rpA 0 (.slice none 0 0) (.slice none 0 0) (.slice none 0 0)) 32)) u4.heap.size R (RowC.new u4 _ _).1 (by rw [(RowC.new u4 _ _).2]; rfl) (by rw [← hR]; rfl) (by rw [← hR]; exact rpA_one _ _ _ _ _ _ _ _ _ _)
      have r13 := RowC.new u4 R 32
      have z5 := z4.kept b5
      have ld1 := run_load_rp _ u4.heap.size r13.1 (by rw [r13.2, ← hR]; rfl)
      rw [r13.2] at ld1
      have ld2 := run_load_rp _ z3 z5.1 (by rw [z5.2]; rfl)
      rw [z5.2] at ld2
      have hA := alike22 (u4.alloc (.cells R 32)) r2 yf mf df yd md dd yi mi di xs cs xd cd xi ci (hJ.kept b5) (hI4.kept b5) (by have := hI4.nf; have := HCK2.out; omega) (by have := HSZ.out; omega) (by have := HSZ.out; omega)
      rw [hst2, hR] at hA
      have hc5 := hc4.kept b5
      have HB5 : Hid (Below w.heap.size w (u4.alloc (.cells R 32))) := HB4.out.trans (b5.mono HB4.out.size)
      simp only [hR]
      clear hJ hI4 b5 z4 hc4 HB4 r13 z5
      go_upto_region 13 with fail
      clear st
      generalize u4.alloc (.cells R 32) = Y at hA ld1 ld2 hc5 HB5 ⊢
      go_wp2_with fail
      refine hA.mono ?_
      rintro e u5 ⟨rfl, b6⟩
      have hc6 := hc5.kept b6
      have HB6 : Hid (Below w.heap.size w u5) := HB5.out.trans (b6.mono HB5.out.size)
      clear hA ld1 ld2 hc5 HB5 b6 hR
      obtain ⟨v7, u7, hra, hO7, b7⟩ := copyB22 u5 xc nc cc L 33 hc6 hnc (by omega)
      have bz := below_alloc u7 (.cells #[.int .u8 0] 5)
      obtain ⟨v8, u8, hra2, hO8, b8, -⟩ := appB22 (u7.alloc (.cells #[.int .u8 0] 5)) u5.heap.size v7 L (some ⟨u7.heap.size, 0, none⟩) 1 1 [0] 33 (hO7.keep bz) rfl ((show rowB (u7.alloc (.cells #[.int .u8 0] 5)) u7.heap.size [0] from heap_alloc_last u7 _).isB 1) (by simp; omega) (Nat.le_trans b7.size bz.size)
      obtain ⟨x8, c8, rfl, hc8, hx8⟩ := hO8.slice22
      have hn8 : (L ++ [0]).length = nc + 1 := by rw [List.length_append, hnc]; rfl
      rw [hn8] at hra2 hO8 hc8
      have hG := get22 u8 x8 (nc + 1) c8 (L ++ [0]) hO8.isB hn8 hc8 (by omega) hx8
      rw [g2] at hG
      have b58 : Below u5.heap.size u5 u8 := (b7.trans (bz.mono b7.size)).trans b8
      go_wp2_with (first | (at_builtin; refine wpL_appG 33 rfl _ _ rfl _ u7 (by exact hra) ?_) | (at_builtin; refine wpL_appG 33 rfl _ _ rfl _ u8 (by exact hra2) ?_))
      refine hG.mono ?_
      rintro e u9 ⟨b9, q, rfl, hq, hRq⟩
      have hc9 := (hc6.kept b58).kept b9
      have HB9 : Hid (Below w.heap.size w u9) := (HB6.out.trans (b58.mono HB6.out.size)).trans (b9.mono (Nat.le_trans HB6.out.size b58.size))
      have hF := fault22 q (nc : Int) 14 u9 (HE.out.later HB9.out) hRq
      clear hG hra hra2 hO7 bz hO8 b7 b8 hc8 hx8 hn8 b58 b9 hc6 HB6 hq g2
      go_wp2_with fail
      refine hF.mono ?_
      rintro e u10 ⟨rfl, b10⟩
      have hc10 := hc9.kept b10
      have HB10 : Hid (Below w.heap.size w u10) := HB9.out.trans (b10.mono HB9.out.size)
      clear hF hRq hc9 b10 HB9
      by_cases hsh : short < 0
      · clear g3
        go_wp2
        go_ret
        exact ⟨rfl, HB10.out⟩
      · by_cases hsh2 : (nc : Int) ≤ short
        · clear g3
          go_wp2
          go_ret
          exact ⟨rfl, HB10.out⟩
        · obtain ⟨m, rfl⟩ : ∃ m : Nat, short = (m : Int) := ⟨short.toNat, by omega⟩
          have hmn : m < nc := by omega
          obtain ⟨a9, ha9, g4⟩ := g3 m hmn
          have hcm := hc10.front9 m (by omega)
          have hmc : (m : Int) ≤ (cc : Int) := by omega
          have hx10 : ∀ a, xc = some a → a.block < u10.heap.size := fun a ha => by
            subst ha
            exact hc10.lt (by intro e9; have := hnc; rw [e9] at this; simp at this; omega)
          have hG := get22 u10 xc m cc (L.take m) hcm (by rw [List.length_take]; omega) (by omega) (by omega) hx10
          rw [g4] at hG
          clear g3 g4 hc10 hcm hx10
          go_wp2_with fail
          refine hG.mono ?_
          rintro e u11 ⟨b11, q2, rfl, hq2, hRq2⟩
          have HB11 : Hid (Below w.heap.size w u11) := HB10.out.trans (b11.mono HB10.out.size)
          have hF := fault22 q2 (a9 : Int) 10 u11 (HE.out.later HB11.out) hRq2
          have t1 : (0 : Int) ≤ (a9 : Int) := by omega
          have t2 : (a9 : Int) ≤ (m : Int) := by omega
          clear hG b11 HB10 hq2 ha9
          go_wp2_with fail
          refine hF.mono ?_
          rintro e u12 ⟨rfl, b12⟩
          have HB12 : Hid (Below w.heap.size w u12) := HB11.out.trans (b12.mono HB11.out.size)
          clear hF hRq2 b12 HB11
          go_wp2
          go_ret
          exact ⟨rfl, HB12.out⟩
    · have hck' : ¬ ((checkM r2 : Nat) : Int) = 0 := by omega
      have hpm : putM r2 = [] := by unfold putM; rw [if_neg hck]
      rw [hpm] at hOc
      obtain ⟨xc, cc, rfl, -, -⟩ := hOc.slice22
      clear hOc hpm hck
      go_wp2
      go_ret
      exact ⟨rfl, HB2.out⟩
  | ok x =>
    rw [hg] at hm
    obtain ⟨yf, mf, df, yd, md, dd, yi, mi, di, rfl, o1, o2, o3⟩ := hm
    obtain ⟨gc, gk, gb⟩ := getM_ok hg
    have hJ := RpI.ofOwn (r := x) o1 o2 o3
    obtain ⟨R, hR⟩ : ∃ R, rpA x.st (.slice yf mf df) (.slice yd md dd) (.slice yi mi di) = R := ⟨_, rfl⟩
    have b4 := below_alloc w3 (.cells R 32)
    have st := run_store_rp (w3.alloc (.cells (rpA 0 (.slice none 0 0) (.slice none 0 0) (.slice none 0 0)) 32)) w3.heap.size R (RowC.new w3 _ _).1 (by rw [(RowC.new w3 _ _).2]; rfl) (by rw [← hR]; rfl) (by rw [← hR]; exact rpA_one _ _ _ _ _ _ _ _ _ _)
    have r7 := RowC.new w3 R 32
    have ld := run_load_rp _ w3.heap.size r7.1 (by rw [r7.2, ← hR]; rfl)
    rw [r7.2] at ld
    have hP := put22 (w3.alloc (.cells R 32)) x yf mf df yd md dd yi mi di (hJ.kept b4)
    rw [hR] at hP
    have z5 := z4.kept b4
    have hb5 := hb3.kept b4
    have HB5 : Hid (Below w.heap.size w (w3.alloc (.cells R 32))) := HB3.out.trans (b4.mono HB3.out.size)
    have gp : putM x = b := by unfold putM; rw [if_pos gk]; exact gb.symm
    simp only [hR]
    clear hJ o1 o2 o3 z4 hb3 HB3 b4 r7 gc gb hg
    go_upto_region 5 with fail
    clear st
    generalize w3.alloc (.cells R 32) = Y at hP ld z5 hb5 HB5 ⊢
    go_wp2_with fail
    refine hP.mono ?_
    rintro e w5 ⟨b5, vc, rfl, hOc⟩
    rw [gp] at hOc
    have s1 := hOc.isB.str
    have s2 := (hb5.kept b5).str
    rw [gk]
    have HB : Hid (Below w.heap.size w w5) := HB5.out.trans (b5.mono HB5.out.size)
    have z3row := z5.kept b5
    clear hP ld z5 hb5 HB5 b5 hOc gp gk hR
    go_upto_region 8 with fail
    clear s1 s2
    generalize w5 = W at z3row HB ⊢
    have hI : RpI W r xf nf cf xd nd cd xi ni ci := HI0.out.kept HB.out
    have f1 : W.cell? ⟨z3, 1, none⟩ = some (.slice xf nf cf) := by rw [z3row.cell]; rfl
    have hS := sortF22 xf nf cf r.fs W hI.f hI.nf hs1
    go_wp2_with fail
    refine hS.mono ?_
    rintro e u1 ⟨vs, rfl, hOs, bs⟩
    obtain ⟨xs, cs, rfl⟩ := (hOs.isK fdE_ok).len
    obtain ⟨ns, hns⟩ : ∃ z, (sortM r.fs).length = z := ⟨_, rfl⟩
    rw [hns] at hOs
    try simp only [hns]
    have z3u := z3row.kept bs
    have fz := z3u.frozen 1
    have zc : u1.cell? ⟨z3, 1, none⟩ = some (.slice xf nf cf) := by rw [z3u.cell]; rfl
    have zl := z3row.lt
    have z3s : RowC (u1.setCell ⟨z3, 1, none⟩ (.slice xs ns cs)) z3 (rpA r.st (.slice xs ns cs) (.slice xd nd cd) (.slice xi ni ci)) := z3u.set 1 _
    have kc := Keep.cell1 u1 z3 1 (.slice xs ns cs)
    have bu : Below w.heap.size w u1 := HB.out.trans (bs.mono HB.out.size)
    have bv : Below w.heap.size w (u1.setCell ⟨z3, 1, none⟩ (.slice xs ns cs)) := bu.setCell (by show w.heap.size ≤ z3; rw [Z3.out]; exact Nat.le_refl _) _
    have hO9 : OwnK fdE (u1.setCell ⟨z3, 1, none⟩ (.slice xs ns cs)) W.heap.size (.slice xs ns cs) (sortM r.fs) := OwnK.keeps hOs kc (fun q hq => by have := (World.ownsRow.lt hOs q hq).1; simp; omega)
    obtain ⟨r2, hr2⟩ : ∃ q : Rp, ⟨r.st, sortM r.fs, r.ds, r.dr⟩ = q := ⟨_, rfl⟩
    have hI2 : RpI (u1.setCell ⟨z3, 1, none⟩ (.slice xs ns cs)) r2 xs ns cs xd nd cd xi ni ci := by
      rw [← hr2]
      exact ⟨hO9.isK fdE_ok, HI0.out.d.kept bv, HI0.out.i.kept bv, hns, HI0.out.nd, HI0.out.ni⟩
    have hst2 : r2.st = r.st := by rw [← hr2]
    have hC2 : RpC r2 := by rw [← hr2]; exact HCan.out
    have HCK2 : Hid (r2.fs.length ≤ 140737488355328) := by rw [← hr2]; exact HCK.out
    have ld := run_load_rp _ z3 z3s.1 (by rw [z3s.2]; rfl)
    rw [z3s.2] at ld
    clear hS f1 z3u hOs kc bs bu hns hr2 hO9 zl z3row hI HB
    go_upto_region 9 with fail
    generalize u1.setCell ⟨z3, 1, none⟩ (.slice xs ns cs) = X at z3s hI2 bv ld ⊢
    clear fz zc
    have hP := put22 X r2 xs ns cs xd nd cd xi ni ci hI2
    rw [hst2] at hP
    go_wp2_with fail
    refine hP.mono ?_
    rintro e u2 ⟨b2, vc, rfl, hOc⟩
    clear hP ld
    have z3t := z3s.kept b2
    have hI3 := hI2.kept b2
    have HB2 : Hid (Below w.heap.size w u2) := bv.trans (b2.mono bv.size)
    clear z3s hI2 bv b2
    by_cases hck : checkM r2 = 0
    · have hck' : ((checkM r2 : Nat) : Int) = 0 := by omega
      have hpm : putM r2 = bytesM r2 := by unfold putM; rw [if_pos hck]
      rw [hpm] at hOc
      have hlen := body_len r2 hck
      obtain ⟨L, hL⟩ : ∃ L, bytesM r2 = L := ⟨_, rfl⟩
      have g1 := getM_put r2 hC2 hck
      have g2 := getM_more r2 hC2 hck 0
      have g3 := getM_short r2 hC2 hck
      rw [hL] at hOc hlen g1 g2 g3
      obtain ⟨xc, cc, rfl, hcc, hxc⟩ := hOc.slice22
      obtain ⟨nc, hnc⟩ : ∃ z, L.length = z := ⟨_, rfl⟩
      rw [hnc] at hcc hlen g3 g2 hOc
      try simp only [hnc]
      have hIc := hOc.isB
      clear hpm hL hOc hck hC2
      obtain ⟨v3, u3, hra, hO3, b3⟩ := copyB22 u2 xc nc cc L 33 hIc hnc (by omega)
      obtain ⟨x3, c3, rfl, hc3, hx3⟩ := hO3.slice22
      rw [hnc] at hra hO3 hc3
      have hG := get22 u3 x3 nc c3 L hO3.isB hnc hc3 (by omega) hx3
      rw [g1] at hG
      go_wp2_with (first | (at_builtin; refine wpL_appG 33 rfl _ _ rfl _ u3 (by exact hra) ?_))
      try simp only [hnc]
      refine hG.mono ?_
      rintro e u4 ⟨b4, yf, mf, df, yd, md, dd, yi, mi, di, rfl, o1, o2, o3⟩
      clear hG hra
      have z4 := (z3t.kept b3).kept b4
      have hI4 := (hI3.kept b3).kept b4
      have hc4 := (hIc.kept b3).kept b4
      have hJ := RpI.ofOwn (r := r2) o1 o2 o3
      have e1 : mf = ns := hJ.nf.symm.trans hI4.nf
      have e2 : md = nd := hJ.nd.symm.trans hI4.nd
      have e3 : mi = ni := hJ.ni.symm.trans hI4.ni
      subst e1 e2 e3
      have HB4 : Hid (Below w.heap.size w u4) := (HB2.out.trans (b3.mono HB2.out.size)).trans (b4.mono (Nat.le_trans HB2.out.size b3.size))
      clear b3 b4 o1 o2 o3 z3t hI3 hIc hO3 hc3 hx3 HB2 hxc g1
      rw [hst2]
      obtain ⟨R, hR⟩ : ∃ R, rpA r.st (.slice yf mf df) (.slice yd md dd) (.slice yi mi di) = R := ⟨_, rfl⟩
      have b5 := below_alloc u4 (.cells R 32)
      have st := run_store_rp (u4.alloc (.cells (rpA 0 (.slice none 0 0) (.slice none 0 0) (.slice none 0 0)) 32)) u4.heap.size R (RowC.new u4 _ _).1 (by rw [(RowC.new u4 _ _).2]; rfl) (by rw [← hR]; rfl) (by rw [← hR]; exact rpA_one _ _ _ _ _ _ _ _ _ _)
      have r13 := RowC.new u4 R 32
      have z5 := z4.kept b5
      have ld1 := run_load_rp _ u4.heap.size r13.1 (by rw [r13.2, ← hR]; rfl)
      rw [r13.2] at ld1
      have ld2 := run_load_rp _ z3 z5.1 (by rw [z5.2]; rfl)
      rw [z5.2] at ld2
      have hA := alike22 (u4.alloc (.cells R 32)) r2 yf mf df yd md dd yi mi di xs cs xd cd xi ci (hJ.kept b5) (hI4.kept b5) (by have := hI4.nf; have := HCK2.out; omega) (by have := HSZ.out; omega) (by have := HSZ.out; omega)
      rw [hst2, hR] at hA
      have hc5 := hc4.kept b5
      have HB5 : Hid (Below w.heap.size w (u4.alloc (.cells R 32))) := HB4.out.trans (b5.mono HB4.out.size)
      simp only [hR]
      clear hJ hI4 b5 z4 hc4 HB4 r13 z5
      go_upto_region 13 with fail
      clear st
      generalize u4.alloc (.cells R 32) = Y at hA ld1 ld2 hc5 HB5 ⊢
      go_wp2_with fail
      refine hA.mono ?_
      rintro e u5 ⟨rfl, b6⟩
      have hc6 := hc5.kept b6
      have HB6 : Hid (Below w.heap.size w u5) := HB5.out.trans (b6.mono HB5.out.size)
      clear hA ld1 ld2 hc5 HB5 b6 hR
      obtain ⟨v7, u7, hra, hO7, b7⟩ := copyB22 u5 xc nc cc L 33 hc6 hnc (by omega)
      have bz := below_alloc u7 (.cells #[.int .u8 0] 5)
      obtain ⟨v8, u8, hra2, hO8, b8, -⟩ := appB22 (u7.alloc (.cells #[.int .u8 0] 5)) u5.heap.size v7 L (some ⟨u7.heap.size, 0, none⟩) 1 1 [0] 33 (hO7.keep bz) rfl ((show rowB (u7.alloc (.cells #[.int .u8 0] 5)) u7.heap.size [0] from heap_alloc_last u7 _).isB 1) (by simp; omega) (Nat.le_trans b7.size bz.size)
      obtain ⟨x8, c8, rfl, hc8, hx8⟩ := hO8.slice22
      have hn8 : (L ++ [0]).length = nc + 1 := by rw [List.length_append, hnc]; rfl
      rw [hn8] at hra2 hO8 hc8
      have hG := get22 u8 x8 (nc + 1) c8 (L ++ [0]) hO8.isB hn8 hc8 (by omega) hx8
      rw [g2] at hG
      have b58 : Below u5.heap.size u5 u8 := (b7.trans (bz.mono b7.size)).trans b8
      go_wp2_with (first | (at_builtin; refine wpL_appG 33 rfl _ _ rfl _ u7 (by exact hra) ?_) | (at_builtin; refine wpL_appG 33 rfl _ _ rfl _ u8 (by exact hra2) ?_))
      refine hG.mono ?_
      rintro e u9 ⟨b9, q, rfl, hq, hRq⟩
      have hc9 := (hc6.kept b58).kept b9
      have HB9 : Hid (Below w.heap.size w u9) := (HB6.out.trans (b58.mono HB6.out.size)).trans (b9.mono (Nat.le_trans HB6.out.size b58.size))
      have hF := fault22 q (nc : Int) 14 u9 (HE.out.later HB9.out) hRq
      clear hG hra hra2 hO7 bz hO8 b7 b8 hc8 hx8 hn8 b58 b9 hc6 HB6 hq g2
      go_wp2_with fail
      refine hF.mono ?_
      rintro e u10 ⟨rfl, b10⟩
      have hc10 := hc9.kept b10
      have HB10 : Hid (Below w.heap.size w u10) := HB9.out.trans (b10.mono HB9.out.size)
      clear hF hRq hc9 b10 HB9
      by_cases hsh : short < 0
      · clear g3
        go_wp2
        go_ret
        exact ⟨rfl, HB10.out⟩
      · by_cases hsh2 : (nc : Int) ≤ short
        · clear g3
          go_wp2
          go_ret
          exact ⟨rfl, HB10.out⟩
        · obtain ⟨m, rfl⟩ : ∃ m : Nat, short = (m : Int) := ⟨short.toNat, by omega⟩
          have hmn : m < nc := by omega
          obtain ⟨a9, ha9, g4⟩ := g3 m hmn
          have hcm := hc10.front9 m (by omega)
          have hmc : (m : Int) ≤ (cc : Int) := by omega
          have hx10 : ∀ a, xc = some a → a.block < u10.heap.size := fun a ha => by
            subst ha
            exact hc10.lt (by intro e9; have := hnc; rw [e9] at this; simp at this; omega)
          have hG := get22 u10 xc m cc (L.take m) hcm (by rw [List.length_take]; omega) (by omega) (by omega) hx10
          rw [g4] at hG
          clear g3 g4 hc10 hcm hx10
          go_wp2_with fail
          refine hG.mono ?_
          rintro e u11 ⟨b11, q2, rfl, hq2, hRq2⟩
          have HB11 : Hid (Below w.heap.size w u11) := HB10.out.trans (b11.mono HB10.out.size)
          have hF := fault22 q2 (a9 : Int) 10 u11 (HE.out.later HB11.out) hRq2
          have t1 : (0 : Int) ≤ (a9 : Int) := by omega
          have t2 : (a9 : Int) ≤ (m : Int) := by omega
          clear hG b11 HB10 hq2 ha9
          go_wp2_with fail
          refine hF.mono ?_
          rintro e u12 ⟨rfl, b12⟩
          have HB12 : Hid (Below w.heap.size w u12) := HB11.out.trans (b12.mono HB11.out.size)
          clear hF hRq2 b12 HB11
          go_wp2
          go_ret
          exact ⟨rfl, HB12.out⟩
    · have hck' : ¬ ((checkM r2 : Nat) : Int) = 0 := by omega
      have hpm : putM r2 = [] := by unfold putM; rw [if_neg hck]
      rw [hpm] at hOc
      obtain ⟨xc, cc, rfl, -, -⟩ := hOc.slice22
      clear hOc hpm hck
      go_wp2
      go_ret
      exact ⟨rfl, HB2.out⟩
end Go.Proofs.YtklbdhpnbjhgkaaGreatDoor
