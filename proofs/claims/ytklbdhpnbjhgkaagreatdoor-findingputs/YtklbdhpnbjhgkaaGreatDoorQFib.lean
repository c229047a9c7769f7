import Derived.Test.YtklbdhpnbjhgkaaGreatDoorQFia
namespace Go.Proofs.YtklbdhpnbjhgkaaGreatDoor
open Go.RowKit Go.Sort

/-! check; Put -/
/-- A report as a value. -/
structure RpI (w : World) (r : Rp) (xf : Option Addr) (nf cf : Nat) (xd : Option Addr) (nd cd : Nat) (xi : Option Addr) (ni ci : Nat) : Prop where
  f : IsK fdE w (.slice xf nf cf) r.fs
  d : IsK dgE w (.slice xd nd cd) r.ds
  i : IsG w (.slice xi ni ci) (inV r.dr)
  nf : r.fs.length = nf
  nd : r.ds.length = nd
  ni : r.dr.length = ni
theorem RpI.kept {w w' : World} {r : Rp} {xf : Option Addr} {nf cf : Nat} {xd : Option Addr} {nd cd : Nat} {xi : Option Addr} {ni ci : Nat} (h : RpI w r xf nf cf xd nd cd xi ni ci) (hb : Below w.heap.size w w') : RpI w' r xf nf cf xd nd cd xi ni ci :=
  ⟨h.f.kept hb, h.d.kept hb, h.i.kept hb, h.nf, h.nd, h.ni⟩
theorem checkM_st {r : Rp} (h : okSt r.st = false) : checkM r = 1 := by unfold checkM; rw [h]; rfl
theorem checkM_long {r : Rp} (h : okSt r.st = true) (hl : longM r = true) : checkM r = 2 := by unfold checkM; rw [h, hl]; rfl
theorem checkM_3 {r : Rp} (h : okSt r.st = true) (hl : longM r = false) : checkM r = chk3 r := by unfold checkM; rw [h, hl]; rfl
set_option linter.unusedSimpArgs false in
set_option maxHeartbeats 1600000 in
theorem check22 (w : World) (r : Rp) (xf : Option Addr) (nf cf : Nat) (xd : Option Addr) (nd cd : Nat) (xi : Option Addr) (ni ci : Nat) (h : RpI w r xf nf cf xd nd cd xi ni ci) :
    Calls Tryz.prog 26 #[.agg (rpA r.st (.slice xf nf cf) (.slice xd nd cd) (.slice xi ni ci))] w fun e w' => e = .returned (.int .i64 (checkM r : Nat)) ∧ Below w.heap.size w w' := by
  have b0 := below_alloc w (.cells (rpA r.st (.slice xf nf cf) (.slice xd nd cd) (.slice xi ni ci)) 32)
  have r0 := RowC.new w (rpA r.st (.slice xf nf cf) (.slice xd nd cd) (.slice xi ni ci)) 32
  have h0 := h.kept b0
  have hst := isStatus22 r.st (w.alloc (.cells (rpA r.st (.slice xf nf cf) (.slice xd nd cd) (.slice xi ni ci)) 32))
  have c0 : (w.alloc (.cells (rpA r.st (.slice xf nf cf) (.slice xd nd cd) (.slice xi ni ci)) 32)).cell? ⟨w.heap.size, 0, none⟩ = some (.int .i64 r.st) := by rw [r0.cell]; rfl
  have c1 : (w.alloc (.cells (rpA r.st (.slice xf nf cf) (.slice xd nd cd) (.slice xi ni ci)) 32)).cell? ⟨w.heap.size, 1, none⟩ = some (.slice xf nf cf) := by rw [r0.cell]; rfl
  have c2 : (w.alloc (.cells (rpA r.st (.slice xf nf cf) (.slice xd nd cd) (.slice xi ni ci)) 32)).cell? ⟨w.heap.size, 2, none⟩ = some (.slice xd nd cd) := by rw [r0.cell]; rfl
  have c3 : (w.alloc (.cells (rpA r.st (.slice xf nf cf) (.slice xd nd cd) (.slice xi ni ci)) 32)).cell? ⟨w.heap.size, 3, none⟩ = some (.slice xi ni ci) := by rw [r0.cell]; rfl
  obtain ⟨C, hC⟩ : ∃ C, checkM r = C := ⟨_, rfl⟩
  have HC : Hid (checkM r = C) := hC
  rw [hC]
  clear hC h r0
  go_enter Tryz.func26, Tryz.ntmps26
  go_upto_region 1 with fail
  obtain ⟨z, hz⟩ : ∃ z, w.heap.size = z := ⟨_, rfl⟩
  try simp only [hz]
  rw [hz] at c0 c1 c2 c3
  have b0' : Hid (Below w.heap.size w (w.alloc (.cells (rpA r.st (.slice xf nf cf) (.slice xd nd cd) (.slice xi ni ci)) 32))) := b0
  generalize w.alloc (.cells (rpA r.st (.slice xf nf cf) (.slice xd nd cd) (.slice xi ni ci)) 32) = W at b0' h0 hst c0 c1 c2 c3 ⊢
  clear hz b0
  cases hok : okSt r.st
  · rw [hok] at hst
    have HE : Hid (C = 1) := by show _ = _; rw [← HC.out]; exact checkM_st hok
    clear hok h0
    go_wp2_with fail
    refine hst.mono ?_
    rintro e w1 ⟨rfl, rfl⟩
    clear hst
    go_wp2
    go_ret
    exact ⟨by rw [HE.out]; rfl, b0'.out⟩
  · rw [hok] at hst
    have HOK : Hid (okSt r.st = true) := hok
    clear hok
    go_wp2_with fail
    refine hst.mono ?_
    rintro e w1 ⟨rfl, rfl⟩
    clear hst
    have hlong : longM r = decide (65535 < nf ∨ 65535 < nd ∨ 65535 < ni) := by unfold longM; rw [h0.nf, h0.nd, h0.ni]
    by_cases hL : 65535 < nf ∨ 65535 < nd ∨ 65535 < ni
    · have HE : Hid (C = 2) := by show _ = _; rw [← HC.out]; exact checkM_long HOK.out (by rw [hlong]; exact decide_eq_true hL)
      have HL : Hid _ := hL
      clear hlong h0 hL
      go_wp2_with fail
      all_goals first
        | (exfalso; have := HL.out; omega)
        | (go_ret; exact ⟨by rw [HE.out]; rfl, b0'.out⟩)
    · have HE : Hid (C = chk3 r) := by show _ = _; rw [← HC.out]; exact checkM_3 HOK.out (by rw [hlong]; exact decide_eq_false hL)
      have m1 : (nf : Int) ≤ 65535 := by omega
      have m2 : (nd : Int) ≤ 65535 := by omega
      have m3 : (ni : Int) ≤ 65535 := by omega
      have hF := check_fd22 w1 xf nf cf r.fs h0.f h0.nf (by omega)
      have HI : Hid (RpI w1 r xf nf cf xd nd cd xi ni ci) := h0
      have HL : Hid _ := hL
      have HB1 : Hid (Below w.heap.size w w1) := b0'
      clear hlong h0 hL b0'
      go_wp2_with fail
      all_goals first | (exfalso; omega) | skip
      all_goals (
        refine hF.mono ?_
        rintro e w2 ⟨rfl, b2⟩
        have d2 := cell_later b2 c2
        have d3 := cell_later b2 c3
        have HI2 : Hid (RpI w2 r xf nf cf xd nd cd xi ni ci) := HI.out.kept b2
        have HB2 : Hid (Below w.heap.size w w2) := HB1.out.trans (b2.mono HB1.out.size)
        clear hF HI HB1 b2 c0 c1 c2 c3
        by_cases q1 : chkL okF ltF none r.fs = 0
        · have hD := check_dg22 w2 xd nd cd r.ds HI2.out.d HI2.out.nd (by have := HL.out; omega)
          have q1' : ((chkL okF ltF none r.fs : Nat) : Int) = 0 := by omega
          go_wp2_with fail
          refine hD.mono ?_
          rintro e w3 ⟨rfl, b3⟩
          have f3 := cell_later b3 d3
          have HI3 : Hid (RpI w3 r xf nf cf xd nd cd xi ni ci) := HI2.out.kept b3
          have HB3 : Hid (Below w.heap.size w w3) := HB2.out.trans (b3.mono HB2.out.size)
          clear hD HI2 HB2 b3 d2 d3
          by_cases q2 : chkL okD ltD none r.ds = 0
          · have hN := check_in22 w3 xi ni ci r.dr HI3.out.i HI3.out.ni (by have := HL.out; omega)
            have q2' : ((chkL okD ltD none r.ds : Nat) : Int) = 0 := by omega
            have HE3 : Hid (C = chkL okI ltI none r.dr) := by show _ = _; rw [HE.out]; unfold chk3; rw [if_neg (by simp [q1]), if_neg (by simp [q2])]
            go_wp2_with fail
            refine hN.mono ?_
            rintro e w4 ⟨rfl, b4⟩
            have HB4 : Hid (Below w.heap.size w w4) := HB3.out.trans (b4.mono HB3.out.size)
            clear hN b4 f3 q1 q1' q2 q2'
            go_wp2
            go_ret
            exact ⟨by rw [HE3.out]; rfl, HB4.out⟩
          · have q2' : ¬ ((chkL okD ltD none r.ds : Nat) : Int) = 0 := by omega
            have HE3 : Hid (C = chkL okD ltD none r.ds) := by show _ = _; rw [HE.out]; unfold chk3; rw [if_neg (by simp [q1]), if_pos q2]
            clear f3 q1 q1' q2
            go_wp2
            go_ret
            exact ⟨by rw [HE3.out]; rfl, HB3.out⟩
        · have q1' : ¬ ((chkL okF ltF none r.fs : Nat) : Int) = 0 := by omega
          have HE3 : Hid (C = chkL okF ltF none r.fs) := by show _ = _; rw [HE.out]; unfold chk3; rw [if_pos q1]
          clear d2 d3 q1
          go_wp2
          go_ret
          exact ⟨by rw [HE3.out]; rfl, HB2.out⟩)
end Go.Proofs.YtklbdhpnbjhgkaaGreatDoor
