import Derived.Test.YtklbdhpnbjhgkaaGreatDoorQFi3
namespace Go.Proofs.YtklbdhpnbjhgkaaGreatDoor
open Go.RowKit Go.Sort

/-! assayref22: gone, check -/
set_option linter.unusedSimpArgs false in
set_option maxRecDepth 100000 in
set_option maxHeartbeats 4000000 in
theorem refGone22 (w : World) (xl : Option Addr) (n c : Nat) (l : List Int) (i : Nat) (v : Int) (hl : IsG w (.slice xl n c) (inV l)) (hn : l.length = n) (hv : l[i]? = some v) (hs : n ≤ 65535) :
    Calls Tryz.prog 71 #[.slice xl n c, .int .i64 (i : Int)] w fun e w' => e = .returned (.int .i64 ((fndM okI ltI (prv l i) v : Nat) : Int)) ∧ Below w.heap.size w w' := by
  have hi : i < n := by rw [← hn]; exact (List.getElem?_eq_some_iff.1 hv).1
  have hA : IsG w (.slice xl (inV l).length c) (inV l) := by rw [inV_len, hn]; exact hl
  obtain ⟨gl, o, rfl, -, qa⟩ := hA.spot i (by rw [inV_len]; omega)
  have c0 := qa i _ (inV_get l i v hv)
  obtain ⟨RES, hres⟩ : ∃ r, fndM okI ltI (prv l i) v = r := ⟨_, rfl⟩
  rw [hres]
  have HRES : Hid _ := hres
  clear hres
  have i0 : (0 : Int) ≤ (i : Int) := by omega
  have i1 : (i : Int) < (n : Int) := by omega
  cases hok : okI v
  · have HE : Hid (RES = 13) := by show _ = _; rw [← HRES.out]; unfold fndM; rw [hok]; rfl
    have HK : Hid (¬ (0 ≤ v ∧ v ≤ 127)) := by show ¬ _; unfold okI at hok; simpa using hok
    clear hok hl hA qa
    go_enter Tryz.func71, Tryz.ntmps71
    go_wp2_with fail
    all_goals first
      | (exfalso; have := HK.out; omega)
      | (go_ret; exact ⟨by rw [HE.out]; rfl, Below.refl _ _⟩)
  · have HK : 0 ≤ v ∧ v ≤ 127 := by unfold okI at hok; simpa using hok
    obtain ⟨q1, q2⟩ := HK
    have HOK : Hid (okI v = true) := hok
    clear hok
    have CV : Hid (∀ y, Below w.heap.size w y → y.cell? ⟨gl, o + i, none⟩ = some (.int .i64 v)) := fun y hy => cell_later hy c0
    by_cases h0 : i = 0
    · subst h0
      have HE : Hid (RES = 0) := by show _ = _; rw [← HRES.out]; unfold fndM prv; rw [HOK.out]; rfl
      clear hl hA qa hv
      try rw [Nat.add_zero] at c0
      go_enter Tryz.func71, Tryz.ntmps71
      go_upto_region 3 with fail
      refine wp_reliesT [Fx (.int .i64 (((0 : Nat)) : Int)), Fx (.bool false), Fx (.bool false), Fx (undef), Fx (undef), Fx (undef), Fx (undef), Fx (undef), Fx (undef), Fx (undef), Fx (undef), Fx (undef), Fx (undef)] (by kernel_rfl) (by kernel_rfl) ?_ ?_ ?_
      · repeat' (first | exact all_nil | apply all_cons)
        all_goals intro v y y' hv hb
        all_goals first | exact Fx_mono _ _ _ _ hv hb
      · refine ⟨?_, ?_, ?_, ?_, ?_, ?_, ?_, ?_, ?_, ?_, ?_, ?_, ?_, trivial⟩
        all_goals
          intro ρ y9 hp ρc ρg ρf ho hd
          have o1 : ρ (.tmp 1) = .int .i64 (((0 : Nat)) : Int) := ho 1 rfl
          clear ho
          simp only [depsR, depR, slotR, Fx, List.getElem?_cons_succ, List.getElem?_cons_zero, Region.binds, forall_const] at hd
          simp only [guardR]
          go_split_ands
        · go_simp
        · go_simp
          try (unfold Fx; simp)
        · go_simp
        · refine ⟨fun hy => ?_, fun _ => rfl⟩
          exfalso; simp [yieldR, slotR, undef, *] at hy
        · refine ⟨fun hy => ?_, fun _ => rfl⟩
          exfalso; simp [yieldR, slotR, undef, *] at hy
        · refine ⟨fun hy => ?_, fun _ => rfl⟩
          exfalso; simp [yieldR, slotR, undef, *] at hy
        · refine ⟨fun hy => ?_, fun _ => rfl⟩
          exfalso; simp [yieldR, slotR, undef, *] at hy
        · refine ⟨fun hy => ?_, fun _ => rfl⟩
          exfalso; simp [yieldR, slotR, undef, *] at hy
        · refine ⟨fun hy => ?_, fun _ => rfl⟩
          exfalso; simp [yieldR, slotR, undef, *] at hy
        · refine ⟨fun hy => ?_, fun _ => rfl⟩
          exfalso; simp [yieldR, slotR, undef, *] at hy
        · refine ⟨fun hy => ?_, fun _ => rfl⟩
          exfalso; simp [yieldR, slotR, undef, *] at hy
        · refine ⟨fun hy => ?_, fun _ => rfl⟩
          exfalso; simp [yieldR, slotR, undef, *] at hy
        · refine ⟨fun hy => ?_, fun _ => rfl⟩
          exfalso; simp [yieldR, slotR, undef, *] at hy
      · intro us x1 hp1 hw
        simp only [owed, Fx] at hw
        obtain ⟨e0, e1, e2, e3, e4, e5, e6, e7, e8, e9, e10, e11, e12, -⟩ := hw
        simp only [List.length_cons, List.length_nil, List.take_succ_cons, List.take_zero, List.drop_succ_cons, List.drop_zero, asg, List.cons_append, List.nil_append, e0, e1, e2, e3, e4, e5, e6, e7, e8, e9, e10, e11, e12]
        clear e0 e1 e2 e3 e4 e5 e6 e7 e8 e9 e10 e11 e12
        go_wp2
        go_ret
        exact ⟨by rw [HE.out]; rfl, hp1⟩
    · obtain ⟨u, hu⟩ : ∃ u, l[i - 1]? = some u := ⟨_, List.getElem?_eq_getElem (by omega)⟩
      have c1 := qa (i - 1) _ (inV_get l (i - 1) u hu)
      have CU : Hid (∀ y, Below w.heap.size w y → y.cell? ⟨gl, o + (i - 1), none⟩ = some (.int .i64 u)) := fun y hy => cell_later hy c1
      have HE : Hid (RES = bif ltI u v then 0 else 11) := by
        show _ = _; rw [← HRES.out]; unfold fndM prv; rw [HOK.out, if_neg h0, hu]; rfl
      have leB : decide (v ≤ u) = !ltI u v := by unfold ltI; by_cases h : u < v <;> simp [h] <;> omega
      have wk1 : IntKind.i64.wrap ((i : Int) - 1) = ((i - 1 : Nat) : Int) := by rw [IntKind.wrap_i64]; omega
      have j0 : (0 : Int) ≤ ((i - 1 : Nat) : Int) := by omega
      have j1 : ((i - 1 : Nat) : Int) < (n : Int) := by omega
      have i2 : (0 : Int) < (i : Int) := by omega
      clear hl hA qa hv hu
      go_enter Tryz.func71, Tryz.ntmps71
      go_upto_region 3 with fail
      refine wp_reliesT [Fx (.int .i64 (i : Int)), Fx (.bool true), Fx (.bool true), Fx (.slice (some ⟨gl, o, none⟩) n c), Fx (.int .i64 (i : Int)), Fx (.int .i64 (((i - 1 : Nat)) : Int)), Fx (.pointer (some ⟨gl, o + (i - 1), none⟩)), Fx (.int .i64 (u : Int)), Fx (.slice (some ⟨gl, o, none⟩) n c), Fx (.int .i64 (i : Int)), Fx (.pointer (some ⟨gl, o + i, none⟩)), Fx (.int .i64 (v : Int)), Fx (.bool (!ltI u v))] (by kernel_rfl) (by kernel_rfl) ?_ ?_ ?_
      · repeat' (first | exact all_nil | apply all_cons)
        all_goals intro v y y' hv hb
        all_goals first | exact Fx_mono _ _ _ _ hv hb
      · refine ⟨?_, ?_, ?_, ?_, ?_, ?_, ?_, ?_, ?_, ?_, ?_, ?_, ?_, trivial⟩
        all_goals
          intro ρ y9 hp ρc ρg ρf ho hd
          have o0 : ρ (.tmp 0) = .slice (some ⟨gl, o, none⟩) n c := ho 0 rfl
          have o1 : ρ (.tmp 1) = .int .i64 (i : Int) := ho 1 rfl
          clear ho
          simp only [depsR, depR, slotR, Fx, List.getElem?_cons_succ, List.getElem?_cons_zero, Region.binds, forall_const] at hd
          simp only [guardR]
          go_split_ands
        · go_simp
        · go_simp
          try (unfold Fx; simp; omega)
        · go_simp
        · refine ⟨fun _ => ?_, fun hy => absurd (by simp [yieldR, slotR, *]) hy⟩
          go_simp
        · refine ⟨fun _ => ?_, fun hy => absurd (by simp [yieldR, slotR, *]) hy⟩
          go_simp
        · refine ⟨fun _ => ?_, fun hy => absurd (by simp [yieldR, slotR, *]) hy⟩
          go_simp
          try exact wk1
        · refine ⟨fun _ => ?_, fun hy => absurd (by simp [yieldR, slotR, *]) hy⟩
          go_simp
        · refine ⟨fun _ => ?_, fun hy => absurd (by simp [yieldR, slotR, *]) hy⟩
          have z1 := CU.out y9 hp
          go_simp
        · refine ⟨fun _ => ?_, fun hy => absurd (by simp [yieldR, slotR, *]) hy⟩
          go_simp
        · refine ⟨fun _ => ?_, fun hy => absurd (by simp [yieldR, slotR, *]) hy⟩
          go_simp
        · refine ⟨fun _ => ?_, fun hy => absurd (by simp [yieldR, slotR, *]) hy⟩
          go_simp
        · refine ⟨fun _ => ?_, fun hy => absurd (by simp [yieldR, slotR, *]) hy⟩
          have z1 := CV.out y9 hp
          go_simp
        · refine ⟨fun _ => ?_, fun hy => absurd (by simp [yieldR, slotR, *]) hy⟩
          go_simp
          try exact leB
      · intro us x1 hp1 hw
        simp only [owed, Fx] at hw
        obtain ⟨e0, e1, e2, e3, e4, e5, e6, e7, e8, e9, e10, e11, e12, -⟩ := hw
        simp only [List.length_cons, List.length_nil, List.take_succ_cons, List.take_zero, List.drop_succ_cons, List.drop_zero, asg, List.cons_append, List.nil_append, e0, e1, e2, e3, e4, e5, e6, e7, e8, e9, e10, e11, e12]
        clear e0 e1 e2 e3 e4 e5 e6 e7 e8 e9 e10 e11 e12
        cases hlt : ltI u v
        · rw [hlt] at HE
          go_wp2
          go_ret
          exact ⟨by rw [HE.out]; rfl, hp1⟩
        · rw [hlt] at HE
          go_wp2
          go_ret
          exact ⟨by rw [HE.out]; rfl, hp1⟩
theorem chk3_1 {r : Rp} {q : Nat} (h : chkL okF ltF none r.fs = q) (hq : q ≠ 0) : chk3 r = q := by unfold chk3; rw [h, if_pos hq]
theorem chk3_2a {r : Rp} (h : chkL okF ltF none r.fs = 0) (h2 : chkL okD ltD none r.ds = 11) : chk3 r = 11 := by unfold chk3; rw [h, h2]; rfl
theorem chk3_3 {r : Rp} (h : chkL okF ltF none r.fs = 0) (h2 : chkL okD ltD none r.ds = 0) : chk3 r = chkL okI ltI none r.dr := by unfold chk3; rw [h, h2]; rfl
theorem chk_one (ds : List Dg) : chkL okD ltD (prv ds 1) (ds.drop 1) = chkL okD ltD none ds := by
  cases ds with
  | nil => rfl
  | cons d r => rfl
set_option linter.unusedSimpArgs false in
set_option maxRecDepth 100000 in
set_option maxHeartbeats 8000000 in
theorem refCheckNo22 (w : World) (r : Rp) (xf : Option Addr) (nf cf : Nat) (xd : Option Addr) (nd cd : Nat) (xi : Option Addr) (ni ci : Nat) (h : RpI w r xf nf cf xd nd cd xi ni ci) (hok : okSt r.st = false) :
    Calls Tryz.prog 33 #[.agg (rpA r.st (.slice xf nf cf) (.slice xd nd cd) (.slice xi ni ci))] w fun e w' => e = .returned (.int .i64 (checkM r : Nat)) ∧ Below w.heap.size w w' := by
  have b0 := below_alloc w (.cells (rpA r.st (.slice xf nf cf) (.slice xd nd cd) (.slice xi ni ci)) 32)
  have r0 := RowC.new w (rpA r.st (.slice xf nf cf) (.slice xd nd cd) (.slice xi ni ci)) 32
  have h0 := h.kept b0
  have c0 : (w.alloc (.cells (rpA r.st (.slice xf nf cf) (.slice xd nd cd) (.slice xi ni ci)) 32)).cell? ⟨w.heap.size, 0, none⟩ = some (.int .i64 r.st) := by rw [r0.cell]; rfl
  have c1 : (w.alloc (.cells (rpA r.st (.slice xf nf cf) (.slice xd nd cd) (.slice xi ni ci)) 32)).cell? ⟨w.heap.size, 1, none⟩ = some (.slice xf nf cf) := by rw [r0.cell]; rfl
  have c2 : (w.alloc (.cells (rpA r.st (.slice xf nf cf) (.slice xd nd cd) (.slice xi ni ci)) 32)).cell? ⟨w.heap.size, 2, none⟩ = some (.slice xd nd cd) := by rw [r0.cell]; rfl
  have c3 : (w.alloc (.cells (rpA r.st (.slice xf nf cf) (.slice xd nd cd) (.slice xi ni ci)) 32)).cell? ⟨w.heap.size, 3, none⟩ = some (.slice xi ni ci) := by rw [r0.cell]; rfl
  obtain ⟨C, hC⟩ : ∃ C, checkM r = C := ⟨_, rfl⟩
  have HC : Hid (checkM r = C) := hC
  rw [hC]
  clear hC h r0
  go_enter Tryz.func33, Tryz.ntmps33
  go_upto_region 1 with fail
  obtain ⟨z, hz⟩ : ∃ z, w.heap.size = z := ⟨_, rfl⟩
  try simp only [hz]
  rw [hz] at c0 c1 c2 c3
  have HB0 : Hid (Below w.heap.size w (w.alloc (.cells (rpA r.st (.slice xf nf cf) (.slice xd nd cd) (.slice xi ni ci)) 32))) := b0
  generalize w.alloc (.cells (rpA r.st (.slice xf nf cf) (.slice xd nd cd) (.slice xi ni ci)) 32) = W at HB0 h0 c0 c1 c2 c3 ⊢
  clear hz b0
  have HE : Hid (C = 1) := by show _ = _; rw [← HC.out]; exact checkM_st hok
  have HQ : Hid (¬ r.st = 1 ∧ ¬ r.st = 2) := ⟨(fun h => by rw [h] at hok; cases hok), (fun h => by rw [h] at hok; cases hok)⟩
  generalize r.st = st at c0 HQ
  clear hok h0
  have q1 : (st != 1) = true := by simp [HQ.out.1]
  have q2 : (st != 2) = true := by simp [HQ.out.2]
  go_wp2
  go_ret
  exact ⟨by rw [HE.out]; rfl, HB0.out⟩
set_option linter.unusedSimpArgs false in
set_option maxRecDepth 100000 in
set_option maxHeartbeats 8000000 in
theorem refCheck122 (w : World) (r : Rp) (xf : Option Addr) (nf cf : Nat) (xd : Option Addr) (nd cd : Nat) (xi : Option Addr) (ni ci : Nat) (h : RpI w r xf nf cf xd nd cd xi ni ci) (hst : r.st = 1) :
    Calls Tryz.prog 33 #[.agg (rpA r.st (.slice xf nf cf) (.slice xd nd cd) (.slice xi ni ci))] w fun e w' => e = .returned (.int .i64 (checkM r : Nat)) ∧ Below w.heap.size w w' := by
  have HST : Hid (r.st = 1) := hst
  clear hst
  have b0 := below_alloc w (.cells (rpA r.st (.slice xf nf cf) (.slice xd nd cd) (.slice xi ni ci)) 32)
  have r0 := RowC.new w (rpA r.st (.slice xf nf cf) (.slice xd nd cd) (.slice xi ni ci)) 32
  have h0 := h.kept b0
  have c0 : (w.alloc (.cells (rpA r.st (.slice xf nf cf) (.slice xd nd cd) (.slice xi ni ci)) 32)).cell? ⟨w.heap.size, 0, none⟩ = some (.int .i64 r.st) := by rw [r0.cell]; rfl
  have c1 : (w.alloc (.cells (rpA r.st (.slice xf nf cf) (.slice xd nd cd) (.slice xi ni ci)) 32)).cell? ⟨w.heap.size, 1, none⟩ = some (.slice xf nf cf) := by rw [r0.cell]; rfl
  have c2 : (w.alloc (.cells (rpA r.st (.slice xf nf cf) (.slice xd nd cd) (.slice xi ni ci)) 32)).cell? ⟨w.heap.size, 2, none⟩ = some (.slice xd nd cd) := by rw [r0.cell]; rfl
  have c3 : (w.alloc (.cells (rpA r.st (.slice xf nf cf) (.slice xd nd cd) (.slice xi ni ci)) 32)).cell? ⟨w.heap.size, 3, none⟩ = some (.slice xi ni ci) := by rw [r0.cell]; rfl
  obtain ⟨C, hC⟩ : ∃ C, checkM r = C := ⟨_, rfl⟩
  have HC : Hid (checkM r = C) := hC
  rw [hC]
  clear hC h r0
  go_enter Tryz.func33, Tryz.ntmps33
  go_upto_region 1 with fail
  obtain ⟨z, hz⟩ : ∃ z, w.heap.size = z := ⟨_, rfl⟩
  try simp only [hz]
  rw [hz] at c0 c1 c2 c3
  have HB0 : Hid (Below w.heap.size w (w.alloc (.cells (rpA r.st (.slice xf nf cf) (.slice xd nd cd) (.slice xi ni ci)) 32))) := b0
  generalize w.alloc (.cells (rpA r.st (.slice xf nf cf) (.slice xd nd cd) (.slice xi ni ci)) 32) = W at HB0 h0 c0 c1 c2 c3 ⊢
  clear hz b0
  have HOK : Hid (okSt r.st = true) := by show _ = _; rw [HST.out]; rfl
  rw [HST.out] at c0
  have hlong : longM r = decide (65535 < nf ∨ 65535 < nd ∨ 65535 < ni) := by unfold longM; rw [h0.nf, h0.nd, h0.ni]
  by_cases hL : 65535 < nf ∨ 65535 < nd ∨ 65535 < ni
  · have HE : Hid (C = 2) := by show _ = _; rw [← HC.out]; exact checkM_long HOK.out (by rw [hlong]; exact decide_eq_true hL)
    clear hlong h0
    by_cases a1 : (65535 : Int) < (nf : Int)
    · clear hL
      go_wp2
      go_ret
      exact ⟨by rw [HE.out]; rfl, HB0.out⟩
    · by_cases a2 : (65535 : Int) < (nd : Int)
      · clear hL
        go_wp2
        go_ret
        exact ⟨by rw [HE.out]; rfl, HB0.out⟩
      · have a3 : (65535 : Int) < (ni : Int) := by omega
        clear hL
        go_wp2
        go_ret
        exact ⟨by rw [HE.out]; rfl, HB0.out⟩
  · have HE3 : Hid (C = chk3 r) := by show _ = _; rw [← HC.out]; exact checkM_3 HOK.out (by rw [hlong]; exact decide_eq_false hL)
    have m1 : ¬ (65535 : Int) < (nf : Int) := by omega
    have m2 : ¬ (65535 : Int) < (nd : Int) := by omega
    have m3 : ¬ (65535 : Int) < (ni : Int) := by omega
    have HI : Hid (RpI W r xf nf cf xd nd cd xi ni ci) := h0
    obtain ⟨C1, hC1⟩ : ∃ q, chkL okF ltF none r.fs = q := ⟨_, rfl⟩
    obtain ⟨C2, hC2⟩ : ∃ q, chkL okD ltD none r.ds = q := ⟨_, rfl⟩
    obtain ⟨C3, hC3⟩ : ∃ q, chkL okI ltI none r.dr = q := ⟨_, rfl⟩
    have H1 : Hid _ := hC1
    have H2 : Hid _ := hC2
    have H3 : Hid _ := hC3
    clear hlong hL h0 hC1 hC2 hC3
    go_wp2
    have D0 := c0
    have D1 := c1
    have D2 := c2
    have D3 := c3
    clear c0 c1 c2 c3
    go_loopw [3] (fun iv wr => ∃ i : Nat, i ≤ nf ∧ iv = .int .i64 (i : Int) ∧ chkL okF ltF (prv r.fs i) (r.fs.drop i) = C1 ∧ Below W.heap.size W wr) (fun iv _ => nf - (intOf iv).toNat)
    case atStart => exact ⟨0, by omega, rfl, H1.out, Below.refl _ _⟩
    case round =>
      obtain ⟨i, hi, rfl, hC, hB⟩ := hrel
      have c0 := cell_later hB D0
      have c1 := cell_later hB D1
      have c2 := cell_later hB D2
      have c3 := cell_later hB D3
      by_cases hlt : i < nf
      · have i0 : (0 : Int) ≤ (i : Int) := by omega
        have i1 : (i : Int) < (nf : Int) := by omega
        have wi : IntKind.i64.wrap ((i : Int) + 1) = (i : Int) + 1 := by rw [IntKind.wrap_i64]; omega
        obtain ⟨v, hv⟩ : ∃ v, r.fs[i]? = some v := ⟨_, List.getElem?_eq_getElem (by have := HI.out.nf; omega)⟩
        have hF := refFound22 wr xf nf cf r.fs i v (HI.out.kept hB).f (HI.out.nf) hv (by omega)
        have hst := chk_step okF ltF r.fs i v hv
        rw [hC] at hst
        generalize fndM okF ltF (prv r.fs i) v = q at hF hst
        have HST : Hid _ := hst
        have HBB : Hid _ := hB
        clear hst hB hv hC
        go_wp2_with fail
        refine hF.mono ?_
        rintro e w9 ⟨rfl, b9⟩
        clear hF
        have HB9 : Hid (Below W.heap.size W w9) := HBB.out.trans (b9.mono HBB.out.size)
        by_cases hq : q = 0
        · subst hq
          have HC9 : Hid (chkL okF ltF (prv r.fs (i + 1)) (r.fs.drop (i + 1)) = C1) := by have := HST.out; rw [if_pos rfl] at this; exact this.symm
          clear b9
          go_wp2
          go_roundw
          case rel => first | exact ⟨i + 1, by omega, by go_num, HC9.out, HB9.out⟩ | ((repeat apply Exists.intro); refine ⟨⟨i + 1, by omega, ?_, HC9.out, HB9.out⟩, rfl⟩; go_num)
          case measure => simp [intOf]; omega
        · have hq' : ¬ (q : Int) = 0 := by omega
          have HE : Hid (C1 = q) := by have := HST.out; rw [if_neg hq] at this; exact this
          clear b9
          go_wp2
          go_ret
          exact ⟨by rw [HE3.out, chk3_1 (H1.out.trans HE.out) hq]; rfl, HB0.out.trans (HB9.out.mono HB0.out.size)⟩
      · obtain rfl : nf = i := by omega
        have i1 : ¬ (nf : Int) < (nf : Int) := by omega
        have HZ : Hid (C1 = 0) := by show _ = _; rw [← hC]; exact chk_end _ _ _ _ (by have := HI.out.nf; omega)
        obtain ⟨W1, hW1⟩ : ∃ q, q = wr := ⟨_, rfl⟩
        subst hW1
        have HW1 : Hid (Below W.heap.size W W1) := hB
        have HI1 : Hid (RpI W1 r xf nf cf xd nd cd xi ni ci) := HI.out.kept hB
        have HC2 : Hid (chkL okD ltD (prv r.ds 1) (r.ds.drop 1) = C2) := by show _ = _; rw [chk_one]; exact H2.out
        have HZ1 : Hid (chkL okF ltF none r.fs = 0) := by show _ = _; rw [H1.out]; exact HZ.out
        clear HZ
        clear hC hB D0 D1 D2 D3 i1 hi HI
        have HI := HI1
        have D0 := c0
        have D1 := c1
        have D2 := c2
        have D3 := c3
        go_wp2
        clear c0 c1 c2 c3 hlt HI1
        go_loopw [5] (fun iv wr => ∃ i : Nat, 1 ≤ i ∧ (i ≤ nd ∨ i = 1) ∧ iv = .int .i64 (i : Int) ∧ chkL okD ltD (prv r.ds i) (r.ds.drop i) = C2 ∧ Below W1.heap.size W1 wr) (fun iv _ => nd - (intOf iv).toNat)
        case atStart => exact ⟨1, by omega, by omega, rfl, HC2.out, Below.refl _ _⟩
        case round =>
          obtain ⟨i, hi0, hi, rfl, hC, hB⟩ := hrel
          have c0 := cell_later hB D0
          have c1 := cell_later hB D1
          have c2 := cell_later hB D2
          have c3 := cell_later hB D3
          by_cases hlt : i < nd
          · have i0 : (0 : Int) ≤ (i : Int) := by omega
            have i1 : (i : Int) < (nd : Int) := by omega
            have wi : IntKind.i64.wrap ((i : Int) + 1) = (i : Int) + 1 := by rw [IntKind.wrap_i64]; omega
            have wk1 : IntKind.i64.wrap ((i : Int) - 1) = ((i - 1 : Nat) : Int) := by rw [IntKind.wrap_i64]; omega
            have j0 : (0 : Int) ≤ ((i - 1 : Nat) : Int) := by omega
            have j1 : ((i - 1 : Nat) : Int) < (nd : Int) := by omega
            obtain ⟨v, hv⟩ : ∃ v, r.ds[i]? = some v := ⟨_, List.getElem?_eq_getElem (by have := HI.out.nd; omega)⟩
            obtain ⟨u, hu⟩ : ∃ u, r.ds[i - 1]? = some u := ⟨_, List.getElem?_eq_getElem (by have := HI.out.nd; omega)⟩
            obtain ⟨gd, od, hgd, -⟩ := dg_at (HI.out.kept hB).d i v hv
            subst hgd
            have leB := dcmp_le u v
            have CU : Hid (∀ y, Below wr.heap.size wr y → (dg_secLoad (.pointer (some ⟨gd, od + (i - 1) * 32, none⟩))).run Tryz.prog y = .ok (.value (.agg (dg_secA u))) y) := fun y hy => by
              obtain ⟨b', o', he, -, k1, k2⟩ := dg_at ((HI.out.kept hB).d.kept hy) (i - 1) u hu
              cases he
              have h9 := run_dg_mid y gd (od + (i - 1) * 32) k1
              rw [k2] at h9
              exact h9
            have CV : Hid (∀ y, Below wr.heap.size wr y → (dg_secLoad (.pointer (some ⟨gd, od + i * 32, none⟩))).run Tryz.prog y = .ok (.value (.agg (dg_secA v))) y) := fun y hy => by
              obtain ⟨b', o', he, -, k1, k2⟩ := dg_at ((HI.out.kept hB).d.kept hy) i v hv
              cases he
              have h9 := run_dg_mid y gd (od + i * 32) k1
              rw [k2] at h9
              exact h9
            have hst := chk_step okD ltD r.ds i v hv
            have hq : fndM okD ltD (prv r.ds i) v = bif ltD u v then 0 else 11 := by unfold fndM prv; rw [if_neg (by omega), hu]; rfl
            rw [hC, hq] at hst
            have HST : Hid _ := hst
            have HBB : Hid _ := hB
            clear hst hB hv hC hq hu
            go_upto_region 14 with fail
            refine wp_reliesT [Fx (.pointer (some ⟨z, 2, none⟩)), Fx (.slice (some ⟨gd, od, none⟩) nd cd), Fx (.int .i64 (i : Int)), Fx (.int .i64 (((i - 1 : Nat)) : Int)), Fx (.pointer (some ⟨gd, od + (i - 1) * 32, none⟩)), Fx (.agg (dg_secA u)), Fx (.pointer (some ⟨z, 2, none⟩)), Fx (.slice (some ⟨gd, od, none⟩) nd cd), Fx (.int .i64 (i : Int)), Fx (.pointer (some ⟨gd, od + i * 32, none⟩)), Fx (.agg (dg_secA v)), Fx (.int .i64 ((dcmp u v) : Int))] (by kernel_rfl) (by kernel_rfl) ?_ ?_ ?_
            · repeat' (first | exact all_nil | apply all_cons)
              all_goals intro v y y' hv hb
              all_goals first | exact Fx_mono _ _ _ _ hv hb
            · refine ⟨?_, ?_, ?_, ?_, ?_, ?_, ?_, ?_, ?_, ?_, ?_, ?_, trivial⟩
              all_goals
                intro ρ y9 hp ρc ρg ρf ho hd
                have o1 : ρ (.tmp 1) = .pointer (some ⟨z, 0, none⟩) := ho 1 rfl
                have o5 : ρ (.tmp 5) = .int .i64 (i : Int) := ho 5 rfl
                clear ho
                replace c2 := cell_later hp c2
                simp only [depsR, depR, slotR, Fx, List.getElem?_cons_succ, List.getElem?_cons_zero, Region.binds, forall_const] at hd
                simp only [guardR]
                go_split_ands
              · go_simp
              · go_simp
              · go_simp
              · go_simp
                try exact wk1
              · go_simp
              · have z1 := CU.out y9 hp
                go_simp
              · go_simp
              · go_simp
              · go_simp
              · go_simp
              · have z1 := CV.out y9 hp
                go_simp
              · go_simp
                exact (refCompare22 _ _ _).mono fun e w' ⟨q1, q2⟩ => ⟨_, q1, rfl, q2⟩
            · intro us x1 hp1 hw
              simp only [owed, Fx] at hw
              obtain ⟨e0, e1, e2, e3, e4, e5, e6, e7, e8, e9, e10, e11, -⟩ := hw
              simp only [List.length_cons, List.length_nil, List.take_succ_cons, List.take_zero, List.drop_succ_cons, List.drop_zero, asg, List.cons_append, List.nil_append, e0, e1, e2, e3, e4, e5, e6, e7, e8, e9, e10, e11]
              clear e0 e1 e2 e3 e4 e5 e6 e7 e8 e9 e10 e11
              have HB9 : Hid (Below W1.heap.size W1 x1) := HBB.out.trans (hp1.mono HBB.out.size)
              clear CU CV
              cases hlt9 : ltD u v
              · have l9 : 0 ≤ dcmp u v := by rw [hlt9] at leB; simpa using leB
                clear leB
                have HE : Hid (C2 = 11) := by have := HST.out; rw [hlt9] at this; exact this
                go_wp2
                go_ret
                exact ⟨by rw [show C = 11 from by rw [HE3.out]; exact chk3_2a HZ1.out (H2.out.trans HE.out)]; rfl, HB0.out.trans ((HW1.out.trans (HB9.out.mono HW1.out.size)).mono HB0.out.size)⟩
              · have l9 : ¬ 0 ≤ dcmp u v := by rw [hlt9] at leB; simpa using leB
                clear leB
                have HC9 : Hid (chkL okD ltD (prv r.ds (i + 1)) (r.ds.drop (i + 1)) = C2) := by have := HST.out; rw [hlt9] at this; exact this.symm
                go_wp2
                go_roundw
                case rel => first | exact ⟨i + 1, by omega, by omega, by go_num, HC9.out, HB9.out⟩ | ((repeat apply Exists.intro); refine ⟨⟨i + 1, by omega, by omega, ?_, HC9.out, HB9.out⟩, rfl⟩; go_num)
                case measure => simp [intOf]; omega
          · have i1 : ¬ (i : Int) < (nd : Int) := by omega
            have HZ2 : Hid (C2 = 0) := by show _ = _; rw [← hC]; exact chk_end _ _ _ _ (by have := HI.out.nd; omega)
            obtain ⟨W2, hW1⟩ : ∃ q, q = wr := ⟨_, rfl⟩
            subst hW1
            have HW2 : Hid (Below W.heap.size W W2) := HW1.out.trans (hB.mono HW1.out.size)
            have HI1 : Hid (RpI W2 r xf nf cf xd nd cd xi ni ci) := HI.out.kept hB
            have HZ9 : Hid (chkL okD ltD none r.ds = 0) := by show _ = _; rw [H2.out]; exact HZ2.out
            have HE9 : Hid (C = C3) := by show _ = _; rw [HE3.out, chk3_3 HZ1.out HZ9.out]; exact H3.out
            clear HZ2 hi0
            clear hC hB D0 D1 D2 D3 i1 hi HI
            have HI := HI1
            have D0 := c0
            have D1 := c1
            have D2 := c2
            have D3 := c3
            go_wp2
            clear c0 c1 c2 c3 hlt HI1
            go_loopw [6] (fun iv wr => ∃ i : Nat, i ≤ ni ∧ iv = .int .i64 (i : Int) ∧ chkL okI ltI (prv r.dr i) (r.dr.drop i) = C3 ∧ Below W2.heap.size W2 wr) (fun iv _ => ni - (intOf iv).toNat)
            case atStart => exact ⟨0, by omega, rfl, H3.out, Below.refl _ _⟩
            case round =>
              obtain ⟨i, hi, rfl, hC, hB⟩ := hrel
              have c0 := cell_later hB D0
              have c1 := cell_later hB D1
              have c2 := cell_later hB D2
              have c3 := cell_later hB D3
              by_cases hlt : i < ni
              · have i0 : (0 : Int) ≤ (i : Int) := by omega
                have i1 : (i : Int) < (ni : Int) := by omega
                have wi : IntKind.i64.wrap ((i : Int) + 1) = (i : Int) + 1 := by rw [IntKind.wrap_i64]; omega
                obtain ⟨v, hv⟩ : ∃ v, r.dr[i]? = some v := ⟨_, List.getElem?_eq_getElem (by have := HI.out.ni; omega)⟩
                have hF := refGone22 wr xi ni ci r.dr i v (HI.out.kept hB).i (HI.out.ni) hv (by omega)
                have hst := chk_step okI ltI r.dr i v hv
                rw [hC] at hst
                generalize fndM okI ltI (prv r.dr i) v = q at hF hst
                have HST : Hid _ := hst
                have HBB : Hid _ := hB
                clear hst hB hv hC
                go_wp2_with fail
                refine hF.mono ?_
                rintro e w9 ⟨rfl, b9⟩
                clear hF
                have HB9 : Hid (Below W2.heap.size W2 w9) := HBB.out.trans (b9.mono HBB.out.size)
                by_cases hq : q = 0
                · subst hq
                  have HC9 : Hid (chkL okI ltI (prv r.dr (i + 1)) (r.dr.drop (i + 1)) = C3) := by have := HST.out; rw [if_pos rfl] at this; exact this.symm
                  clear b9
                  go_wp2
                  go_roundw
                  case rel => first | exact ⟨i + 1, by omega, by go_num, HC9.out, HB9.out⟩ | ((repeat apply Exists.intro); refine ⟨⟨i + 1, by omega, ?_, HC9.out, HB9.out⟩, rfl⟩; go_num)
                  case measure => simp [intOf]; omega
                · have hq' : ¬ (q : Int) = 0 := by omega
                  have HE : Hid (C3 = q) := by have := HST.out; rw [if_neg hq] at this; exact this
                  clear b9
                  go_wp2
                  go_ret
                  exact ⟨by rw [HE9.out, HE.out]; rfl, HB0.out.trans ((HW2.out.trans (HB9.out.mono HW2.out.size)).mono HB0.out.size)⟩
              · obtain rfl : ni = i := by omega
                have i1 : ¬ (ni : Int) < (ni : Int) := by omega
                have HZ : Hid (C3 = 0) := by show _ = _; rw [← hC]; exact chk_end _ _ _ _ (by have := HI.out.ni; omega)
                clear hC
                go_wp2
                go_ret
                exact ⟨by rw [HE9.out, HZ.out]; rfl, HB0.out.trans ((HW2.out.trans (hB.mono HW2.out.size)).mono HB0.out.size)⟩
set_option linter.unusedSimpArgs false in
set_option maxRecDepth 100000 in
set_option maxHeartbeats 8000000 in
theorem refCheck222 (w : World) (r : Rp) (xf : Option Addr) (nf cf : Nat) (xd : Option Addr) (nd cd : Nat) (xi : Option Addr) (ni ci : Nat) (h : RpI w r xf nf cf xd nd cd xi ni ci) (hst : r.st = 2) :
    Calls Tryz.prog 33 #[.agg (rpA r.st (.slice xf nf cf) (.slice xd nd cd) (.slice xi ni ci))] w fun e w' => e = .returned (.int .i64 (checkM r : Nat)) ∧ Below w.heap.size w w' := by
  have HST : Hid (r.st = 2) := hst
  clear hst
  have b0 := below_alloc w (.cells (rpA r.st (.slice xf nf cf) (.slice xd nd cd) (.slice xi ni ci)) 32)
  have r0 := RowC.new w (rpA r.st (.slice xf nf cf) (.slice xd nd cd) (.slice xi ni ci)) 32
  have h0 := h.kept b0
  have c0 : (w.alloc (.cells (rpA r.st (.slice xf nf cf) (.slice xd nd cd) (.slice xi ni ci)) 32)).cell? ⟨w.heap.size, 0, none⟩ = some (.int .i64 r.st) := by rw [r0.cell]; rfl
  have c1 : (w.alloc (.cells (rpA r.st (.slice xf nf cf) (.slice xd nd cd) (.slice xi ni ci)) 32)).cell? ⟨w.heap.size, 1, none⟩ = some (.slice xf nf cf) := by rw [r0.cell]; rfl
  have c2 : (w.alloc (.cells (rpA r.st (.slice xf nf cf) (.slice xd nd cd) (.slice xi ni ci)) 32)).cell? ⟨w.heap.size, 2, none⟩ = some (.slice xd nd cd) := by rw [r0.cell]; rfl
  have c3 : (w.alloc (.cells (rpA r.st (.slice xf nf cf) (.slice xd nd cd) (.slice xi ni ci)) 32)).cell? ⟨w.heap.size, 3, none⟩ = some (.slice xi ni ci) := by rw [r0.cell]; rfl
  obtain ⟨C, hC⟩ : ∃ C, checkM r = C := ⟨_, rfl⟩
  have HC : Hid (checkM r = C) := hC
  rw [hC]
  clear hC h r0
  go_enter Tryz.func33, Tryz.ntmps33
  go_upto_region 1 with fail
  obtain ⟨z, hz⟩ : ∃ z, w.heap.size = z := ⟨_, rfl⟩
  try simp only [hz]
  rw [hz] at c0 c1 c2 c3
  have HB0 : Hid (Below w.heap.size w (w.alloc (.cells (rpA r.st (.slice xf nf cf) (.slice xd nd cd) (.slice xi ni ci)) 32))) := b0
  generalize w.alloc (.cells (rpA r.st (.slice xf nf cf) (.slice xd nd cd) (.slice xi ni ci)) 32) = W at HB0 h0 c0 c1 c2 c3 ⊢
  clear hz b0
  have HOK : Hid (okSt r.st = true) := by show _ = _; rw [HST.out]; rfl
  rw [HST.out] at c0
  have hlong : longM r = decide (65535 < nf ∨ 65535 < nd ∨ 65535 < ni) := by unfold longM; rw [h0.nf, h0.nd, h0.ni]
  by_cases hL : 65535 < nf ∨ 65535 < nd ∨ 65535 < ni
  · have HE : Hid (C = 2) := by show _ = _; rw [← HC.out]; exact checkM_long HOK.out (by rw [hlong]; exact decide_eq_true hL)
    clear hlong h0
    by_cases a1 : (65535 : Int) < (nf : Int)
    · clear hL
      go_wp2
      go_ret
      exact ⟨by rw [HE.out]; rfl, HB0.out⟩
    · by_cases a2 : (65535 : Int) < (nd : Int)
      · clear hL
        go_wp2
        go_ret
        exact ⟨by rw [HE.out]; rfl, HB0.out⟩
      · have a3 : (65535 : Int) < (ni : Int) := by omega
        clear hL
        go_wp2
        go_ret
        exact ⟨by rw [HE.out]; rfl, HB0.out⟩
  · have HE3 : Hid (C = chk3 r) := by show _ = _; rw [← HC.out]; exact checkM_3 HOK.out (by rw [hlong]; exact decide_eq_false hL)
    have m1 : ¬ (65535 : Int) < (nf : Int) := by omega
    have m2 : ¬ (65535 : Int) < (nd : Int) := by omega
    have m3 : ¬ (65535 : Int) < (ni : Int) := by omega
    have HI : Hid (RpI W r xf nf cf xd nd cd xi ni ci) := h0
    obtain ⟨C1, hC1⟩ : ∃ q, chkL okF ltF none r.fs = q := ⟨_, rfl⟩
    obtain ⟨C2, hC2⟩ : ∃ q, chkL okD ltD none r.ds = q := ⟨_, rfl⟩
    obtain ⟨C3, hC3⟩ : ∃ q, chkL okI ltI none r.dr = q := ⟨_, rfl⟩
    have H1 : Hid _ := hC1
    have H2 : Hid _ := hC2
    have H3 : Hid _ := hC3
    clear hlong hL h0 hC1 hC2 hC3
    go_wp2
    have D0 := c0
    have D1 := c1
    have D2 := c2
    have D3 := c3
    clear c0 c1 c2 c3
    go_loopw [3] (fun iv wr => ∃ i : Nat, i ≤ nf ∧ iv = .int .i64 (i : Int) ∧ chkL okF ltF (prv r.fs i) (r.fs.drop i) = C1 ∧ Below W.heap.size W wr) (fun iv _ => nf - (intOf iv).toNat)
    case atStart => exact ⟨0, by omega, rfl, H1.out, Below.refl _ _⟩
    case round =>
      obtain ⟨i, hi, rfl, hC, hB⟩ := hrel
      have c0 := cell_later hB D0
      have c1 := cell_later hB D1
      have c2 := cell_later hB D2
      have c3 := cell_later hB D3
      by_cases hlt : i < nf
      · have i0 : (0 : Int) ≤ (i : Int) := by omega
        have i1 : (i : Int) < (nf : Int) := by omega
        have wi : IntKind.i64.wrap ((i : Int) + 1) = (i : Int) + 1 := by rw [IntKind.wrap_i64]; omega
        obtain ⟨v, hv⟩ : ∃ v, r.fs[i]? = some v := ⟨_, List.getElem?_eq_getElem (by have := HI.out.nf; omega)⟩
        have hF := refFound22 wr xf nf cf r.fs i v (HI.out.kept hB).f (HI.out.nf) hv (by omega)
        have hst := chk_step okF ltF r.fs i v hv
        rw [hC] at hst
        generalize fndM okF ltF (prv r.fs i) v = q at hF hst
        have HST : Hid _ := hst
        have HBB : Hid _ := hB
        clear hst hB hv hC
        go_wp2_with fail
        refine hF.mono ?_
        rintro e w9 ⟨rfl, b9⟩
        clear hF
        have HB9 : Hid (Below W.heap.size W w9) := HBB.out.trans (b9.mono HBB.out.size)
        by_cases hq : q = 0
        · subst hq
          have HC9 : Hid (chkL okF ltF (prv r.fs (i + 1)) (r.fs.drop (i + 1)) = C1) := by have := HST.out; rw [if_pos rfl] at this; exact this.symm
          clear b9
          go_wp2
          go_roundw
          case rel => first | exact ⟨i + 1, by omega, by go_num, HC9.out, HB9.out⟩ | ((repeat apply Exists.intro); refine ⟨⟨i + 1, by omega, ?_, HC9.out, HB9.out⟩, rfl⟩; go_num)
          case measure => simp [intOf]; omega
        · have hq' : ¬ (q : Int) = 0 := by omega
          have HE : Hid (C1 = q) := by have := HST.out; rw [if_neg hq] at this; exact this
          clear b9
          go_wp2
          go_ret
          exact ⟨by rw [HE3.out, chk3_1 (H1.out.trans HE.out) hq]; rfl, HB0.out.trans (HB9.out.mono HB0.out.size)⟩
      · obtain rfl : nf = i := by omega
        have i1 : ¬ (nf : Int) < (nf : Int) := by omega
        have HZ : Hid (C1 = 0) := by show _ = _; rw [← hC]; exact chk_end _ _ _ _ (by have := HI.out.nf; omega)
        obtain ⟨W1, hW1⟩ : ∃ q, q = wr := ⟨_, rfl⟩
        subst hW1
        have HW1 : Hid (Below W.heap.size W W1) := hB
        have HI1 : Hid (RpI W1 r xf nf cf xd nd cd xi ni ci) := HI.out.kept hB
        have HC2 : Hid (chkL okD ltD (prv r.ds 1) (r.ds.drop 1) = C2) := by show _ = _; rw [chk_one]; exact H2.out
        have HZ1 : Hid (chkL okF ltF none r.fs = 0) := by show _ = _; rw [H1.out]; exact HZ.out
        clear HZ
        clear hC hB D0 D1 D2 D3 i1 hi HI
        have HI := HI1
        have D0 := c0
        have D1 := c1
        have D2 := c2
        have D3 := c3
        go_wp2
        clear c0 c1 c2 c3 hlt HI1
        go_loopw [5] (fun iv wr => ∃ i : Nat, 1 ≤ i ∧ (i ≤ nd ∨ i = 1) ∧ iv = .int .i64 (i : Int) ∧ chkL okD ltD (prv r.ds i) (r.ds.drop i) = C2 ∧ Below W1.heap.size W1 wr) (fun iv _ => nd - (intOf iv).toNat)
        case atStart => exact ⟨1, by omega, by omega, rfl, HC2.out, Below.refl _ _⟩
        case round =>
          obtain ⟨i, hi0, hi, rfl, hC, hB⟩ := hrel
          have c0 := cell_later hB D0
          have c1 := cell_later hB D1
          have c2 := cell_later hB D2
          have c3 := cell_later hB D3
          by_cases hlt : i < nd
          · have i0 : (0 : Int) ≤ (i : Int) := by omega
            have i1 : (i : Int) < (nd : Int) := by omega
            have wi : IntKind.i64.wrap ((i : Int) + 1) = (i : Int) + 1 := by rw [IntKind.wrap_i64]; omega
            have wk1 : IntKind.i64.wrap ((i : Int) - 1) = ((i - 1 : Nat) : Int) := by rw [IntKind.wrap_i64]; omega
            have j0 : (0 : Int) ≤ ((i - 1 : Nat) : Int) := by omega
            have j1 : ((i - 1 : Nat) : Int) < (nd : Int) := by omega
            obtain ⟨v, hv⟩ : ∃ v, r.ds[i]? = some v := ⟨_, List.getElem?_eq_getElem (by have := HI.out.nd; omega)⟩
            obtain ⟨u, hu⟩ : ∃ u, r.ds[i - 1]? = some u := ⟨_, List.getElem?_eq_getElem (by have := HI.out.nd; omega)⟩
            obtain ⟨gd, od, hgd, -⟩ := dg_at (HI.out.kept hB).d i v hv
            subst hgd
            have leB := dcmp_le u v
            have CU : Hid (∀ y, Below wr.heap.size wr y → (dg_secLoad (.pointer (some ⟨gd, od + (i - 1) * 32, none⟩))).run Tryz.prog y = .ok (.value (.agg (dg_secA u))) y) := fun y hy => by
              obtain ⟨b', o', he, -, k1, k2⟩ := dg_at ((HI.out.kept hB).d.kept hy) (i - 1) u hu
              cases he
              have h9 := run_dg_mid y gd (od + (i - 1) * 32) k1
              rw [k2] at h9
              exact h9
            have CV : Hid (∀ y, Below wr.heap.size wr y → (dg_secLoad (.pointer (some ⟨gd, od + i * 32, none⟩))).run Tryz.prog y = .ok (.value (.agg (dg_secA v))) y) := fun y hy => by
              obtain ⟨b', o', he, -, k1, k2⟩ := dg_at ((HI.out.kept hB).d.kept hy) i v hv
              cases he
              have h9 := run_dg_mid y gd (od + i * 32) k1
              rw [k2] at h9
              exact h9
            have hst := chk_step okD ltD r.ds i v hv
            have hq : fndM okD ltD (prv r.ds i) v = bif ltD u v then 0 else 11 := by unfold fndM prv; rw [if_neg (by omega), hu]; rfl
            rw [hC, hq] at hst
            have HST : Hid _ := hst
            have HBB : Hid _ := hB
            clear hst hB hv hC hq hu
            go_upto_region 14 with fail
            refine wp_reliesT [Fx (.pointer (some ⟨z, 2, none⟩)), Fx (.slice (some ⟨gd, od, none⟩) nd cd), Fx (.int .i64 (i : Int)), Fx (.int .i64 (((i - 1 : Nat)) : Int)), Fx (.pointer (some ⟨gd, od + (i - 1) * 32, none⟩)), Fx (.agg (dg_secA u)), Fx (.pointer (some ⟨z, 2, none⟩)), Fx (.slice (some ⟨gd, od, none⟩) nd cd), Fx (.int .i64 (i : Int)), Fx (.pointer (some ⟨gd, od + i * 32, none⟩)), Fx (.agg (dg_secA v)), Fx (.int .i64 ((dcmp u v) : Int))] (by kernel_rfl) (by kernel_rfl) ?_ ?_ ?_
            · repeat' (first | exact all_nil | apply all_cons)
              all_goals intro v y y' hv hb
              all_goals first | exact Fx_mono _ _ _ _ hv hb
            · refine ⟨?_, ?_, ?_, ?_, ?_, ?_, ?_, ?_, ?_, ?_, ?_, ?_, trivial⟩
              all_goals
                intro ρ y9 hp ρc ρg ρf ho hd
                have o1 : ρ (.tmp 1) = .pointer (some ⟨z, 0, none⟩) := ho 1 rfl
                have o5 : ρ (.tmp 5) = .int .i64 (i : Int) := ho 5 rfl
                clear ho
                replace c2 := cell_later hp c2
                simp only [depsR, depR, slotR, Fx, List.getElem?_cons_succ, List.getElem?_cons_zero, Region.binds, forall_const] at hd
                simp only [guardR]
                go_split_ands
              · go_simp
              · go_simp
              · go_simp
              · go_simp
                try exact wk1
              · go_simp
              · have z1 := CU.out y9 hp
                go_simp
              · go_simp
              · go_simp
              · go_simp
              · go_simp
              · have z1 := CV.out y9 hp
                go_simp
              · go_simp
                exact (refCompare22 _ _ _).mono fun e w' ⟨q1, q2⟩ => ⟨_, q1, rfl, q2⟩
            · intro us x1 hp1 hw
              simp only [owed, Fx] at hw
              obtain ⟨e0, e1, e2, e3, e4, e5, e6, e7, e8, e9, e10, e11, -⟩ := hw
              simp only [List.length_cons, List.length_nil, List.take_succ_cons, List.take_zero, List.drop_succ_cons, List.drop_zero, asg, List.cons_append, List.nil_append, e0, e1, e2, e3, e4, e5, e6, e7, e8, e9, e10, e11]
              clear e0 e1 e2 e3 e4 e5 e6 e7 e8 e9 e10 e11
              have HB9 : Hid (Below W1.heap.size W1 x1) := HBB.out.trans (hp1.mono HBB.out.size)
              clear CU CV
              cases hlt9 : ltD u v
              · have l9 : 0 ≤ dcmp u v := by rw [hlt9] at leB; simpa using leB
                clear leB
                have HE : Hid (C2 = 11) := by have := HST.out; rw [hlt9] at this; exact this
                go_wp2
                go_ret
                exact ⟨by rw [show C = 11 from by rw [HE3.out]; exact chk3_2a HZ1.out (H2.out.trans HE.out)]; rfl, HB0.out.trans ((HW1.out.trans (HB9.out.mono HW1.out.size)).mono HB0.out.size)⟩
              · have l9 : ¬ 0 ≤ dcmp u v := by rw [hlt9] at leB; simpa using leB
                clear leB
                have HC9 : Hid (chkL okD ltD (prv r.ds (i + 1)) (r.ds.drop (i + 1)) = C2) := by have := HST.out; rw [hlt9] at this; exact this.symm
                go_wp2
                go_roundw
                case rel => first | exact ⟨i + 1, by omega, by omega, by go_num, HC9.out, HB9.out⟩ | ((repeat apply Exists.intro); refine ⟨⟨i + 1, by omega, by omega, ?_, HC9.out, HB9.out⟩, rfl⟩; go_num)
                case measure => simp [intOf]; omega
          · have i1 : ¬ (i : Int) < (nd : Int) := by omega
            have HZ2 : Hid (C2 = 0) := by show _ = _; rw [← hC]; exact chk_end _ _ _ _ (by have := HI.out.nd; omega)
            obtain ⟨W2, hW1⟩ : ∃ q, q = wr := ⟨_, rfl⟩
            subst hW1
            have HW2 : Hid (Below W.heap.size W W2) := HW1.out.trans (hB.mono HW1.out.size)
            have HI1 : Hid (RpI W2 r xf nf cf xd nd cd xi ni ci) := HI.out.kept hB
            have HZ9 : Hid (chkL okD ltD none r.ds = 0) := by show _ = _; rw [H2.out]; exact HZ2.out
            have HE9 : Hid (C = C3) := by show _ = _; rw [HE3.out, chk3_3 HZ1.out HZ9.out]; exact H3.out
            clear HZ2 hi0
            clear hC hB D0 D1 D2 D3 i1 hi HI
            have HI := HI1
            have D0 := c0
            have D1 := c1
            have D2 := c2
            have D3 := c3
            go_wp2
            clear c0 c1 c2 c3 hlt HI1
            go_loopw [6] (fun iv wr => ∃ i : Nat, i ≤ ni ∧ iv = .int .i64 (i : Int) ∧ chkL okI ltI (prv r.dr i) (r.dr.drop i) = C3 ∧ Below W2.heap.size W2 wr) (fun iv _ => ni - (intOf iv).toNat)
            case atStart => exact ⟨0, by omega, rfl, H3.out, Below.refl _ _⟩
            case round =>
              obtain ⟨i, hi, rfl, hC, hB⟩ := hrel
              have c0 := cell_later hB D0
              have c1 := cell_later hB D1
              have c2 := cell_later hB D2
              have c3 := cell_later hB D3
              by_cases hlt : i < ni
              · have i0 : (0 : Int) ≤ (i : Int) := by omega
                have i1 : (i : Int) < (ni : Int) := by omega
                have wi : IntKind.i64.wrap ((i : Int) + 1) = (i : Int) + 1 := by rw [IntKind.wrap_i64]; omega
                obtain ⟨v, hv⟩ : ∃ v, r.dr[i]? = some v := ⟨_, List.getElem?_eq_getElem (by have := HI.out.ni; omega)⟩
                have hF := refGone22 wr xi ni ci r.dr i v (HI.out.kept hB).i (HI.out.ni) hv (by omega)
                have hst := chk_step okI ltI r.dr i v hv
                rw [hC] at hst
                generalize fndM okI ltI (prv r.dr i) v = q at hF hst
                have HST : Hid _ := hst
                have HBB : Hid _ := hB
                clear hst hB hv hC
                go_wp2_with fail
                refine hF.mono ?_
                rintro e w9 ⟨rfl, b9⟩
                clear hF
                have HB9 : Hid (Below W2.heap.size W2 w9) := HBB.out.trans (b9.mono HBB.out.size)
                by_cases hq : q = 0
                · subst hq
                  have HC9 : Hid (chkL okI ltI (prv r.dr (i + 1)) (r.dr.drop (i + 1)) = C3) := by have := HST.out; rw [if_pos rfl] at this; exact this.symm
                  clear b9
                  go_wp2
                  go_roundw
                  case rel => first | exact ⟨i + 1, by omega, by go_num, HC9.out, HB9.out⟩ | ((repeat apply Exists.intro); refine ⟨⟨i + 1, by omega, ?_, HC9.out, HB9.out⟩, rfl⟩; go_num)
                  case measure => simp [intOf]; omega
                · have hq' : ¬ (q : Int) = 0 := by omega
                  have HE : Hid (C3 = q) := by have := HST.out; rw [if_neg hq] at this; exact this
                  clear b9
                  go_wp2
                  go_ret
                  exact ⟨by rw [HE9.out, HE.out]; rfl, HB0.out.trans ((HW2.out.trans (HB9.out.mono HW2.out.size)).mono HB0.out.size)⟩
              · obtain rfl : ni = i := by omega
                have i1 : ¬ (ni : Int) < (ni : Int) := by omega
                have HZ : Hid (C3 = 0) := by show _ = _; rw [← hC]; exact chk_end _ _ _ _ (by have := HI.out.ni; omega)
                clear hC
                go_wp2
                go_ret
                exact ⟨by rw [HE9.out, HZ.out]; rfl, HB0.out.trans ((HW2.out.trans (hB.mono HW2.out.size)).mono HB0.out.size)⟩
theorem refCheck22 (w : World) (r : Rp) (xf : Option Addr) (nf cf : Nat) (xd : Option Addr) (nd cd : Nat) (xi : Option Addr) (ni ci : Nat) (h : RpI w r xf nf cf xd nd cd xi ni ci) :
    Calls Tryz.prog 33 #[.agg (rpA r.st (.slice xf nf cf) (.slice xd nd cd) (.slice xi ni ci))] w fun e w' => e = .returned (.int .i64 (checkM r : Nat)) ∧ Below w.heap.size w w' := by
  cases hok : okSt r.st
  · exact refCheckNo22 w r xf nf cf xd nd cd xi ni ci h hok
  · have hq : r.st = 1 ∨ r.st = 2 := by unfold okSt at hok; simpa using hok
    rcases hq with hq | hq
    · exact refCheck122 w r xf nf cf xd nd cd xi ni ci h hq
    · exact refCheck222 w r xf nf cf xd nd cd xi ni ci h hq
end Go.Proofs.YtklbdhpnbjhgkaaGreatDoor
