import Derived.Test.YtklbdhpnbjhgkaaGreatDoorQFin8
namespace Go.Proofs.YtklbdhpnbjhgkaaGreatDoor
open Go.RowKit Go.Sort

/-! The reader: a whole report; Get -/
theorem rdH9_err {b : List UInt8} {p : Nat × Nat} (h : rdH9 b = .error p) : rdH b = .error p := by
  unfold rdH9 at h
  cases h1 : rdH b with
  | error q => rw [h1] at h; dsimp only at h; cases h; rfl
  | ok s => rw [h1] at h; cases h
theorem rdH9_ok {b : List UInt8} {s : Int} {j : Nat} (h : rdH9 b = .ok (s, j)) : rdH b = .ok s ∧ j = 4 := by
  unfold rdH9 at h
  cases h1 : rdH b with
  | error q => rw [h1] at h; cases h
  | ok s' =>
    rw [h1] at h
    simp only [Except.ok.injEq, Prod.mk.injEq] at h
    exact ⟨by rw [h.1], h.2.symm⟩
/-- What reading a report leaves. -/
def RpQ (w : World) (g : Nat) (r : Except (Nat × Nat) Rp) (e : Ending) (w' : World) : Prop := Keep [g] w w' ∧ match r with
  | .ok r => ∃ xf nf cf xd nd cd xi ni ci, e = .returned (.tuple #[.agg (rpA r.st (.slice xf nf cf) (.slice xd nd cd) (.slice xi ni ci)), .pointer none]) ∧ OwnK fdE w' w.heap.size (.slice xf nf cf) r.fs ∧ OwnK dgE w' w.heap.size (.slice xd nd cd) r.ds ∧ OwnI w' w.heap.size (.slice xi ni ci) r.dr
  | .error p => ∃ u q, e = .returned (.tuple #[.agg u, .pointer (some ⟨q, 0, none⟩)]) ∧ u.size = 4 ∧ OneC u = true ∧ w.heap.size ≤ q ∧ RowC w' q (ftA p.1 p.2)
theorem Keep.mineC {F : List Nat} {w w1 : World} (h : Keep F w w1) {z : Nat} (hz : w.heap.size ≤ z) (i : Nat) (v : Value) : Keep F w (w1.setCell ⟨z, i, none⟩ v) :=
  ⟨h.os, h.tape, h.output, Nat.le_trans h.size (by simp [World.setCell]), fun k hk hn => by rw [heap_setCell_ne w1 z k i v (by omega)]; exact h.block k hk hn⟩
theorem Keep.cell1 (w : World) (z i : Nat) (v : Value) : Keep [z] w (w.setCell ⟨z, i, none⟩ v) := ⟨rfl, rfl, rfl, by simp [World.setCell], fun k _ hk => heap_setCell_ne w z k i v (by simp at hk; omega)⟩
theorem ownI_len {w : World} {B : Nat} {v : Value} {l : List Int} (h : OwnI w B v l) : ∃ x c, v = .slice x l.length c := by
  obtain ⟨x, c, h1⟩ := (OwnG.isG h).len
  exact ⟨x, c, by rw [h1, inV_len]⟩
theorem kok22 {G : List Nat} : KOk (Keep G) := ⟨fun h => Keep.of_below h, fun h k => h.trans k⟩
theorem size_setCell22 (w : World) (a : Addr) (v : Value) : (w.setCell a v).heap.size = w.heap.size := by simp [World.setCell]
theorem FtP.keepK {B : Nat} {a e : Int} {v : Value} {w w' : World} (h : FtP B a e v w) (hb : Below w.heap.size w w') : FtP B a e v w' := h.mono hb
set_option linter.unusedSimpArgs false in
set_option maxRecDepth 100000 in
set_option maxHeartbeats 6000000 in
theorem report22 (w : World) (g : Nat) (x : Option Addr) (n c : Nat) (b : List UInt8) (h : RdI w g x n c b 0) (hx0 : ∀ a, x = some a → a.block < w.heap.size) :
    Calls Tryz.prog 25 #[.pointer (some ⟨g, 0, none⟩)] w fun e w' => RpQ w g (getM b) e w' := by
  obtain ⟨RES, hres⟩ : ∃ r, getM b = r := ⟨_, rfl⟩
  rw [hres]
  have HRES : Hid (getM b = RES) := hres
  clear hres
  have b0 := below_al2 w (.cells (rpA 0 (.slice none 0 0) (.slice none 0 0) (.slice none 0 0)) 32) (.cells (rpA 0 (.slice none 0 0) (.slice none 0 0) (.slice none 0 0)) 32)
  have hg := h.row.lt
  have hR := h.later b0
  have z2row : RowC ((w.alloc (.cells (rpA 0 (.slice none 0 0) (.slice none 0 0) (.slice none 0 0)) 32)).alloc (.cells (rpA 0 (.slice none 0 0) (.slice none 0 0) (.slice none 0 0)) 32)) w.heap.size (rpA 0 (.slice none 0 0) (.slice none 0 0) (.slice none 0 0)) := (RowC.new w _ 32).kept (below_alloc _ _)
  have z4row : RowC ((w.alloc (.cells (rpA 0 (.slice none 0 0) (.slice none 0 0) (.slice none 0 0)) 32)).alloc (.cells (rpA 0 (.slice none 0 0) (.slice none 0 0) (.slice none 0 0)) 32)) (w.heap.size + 1) (rpA 0 (.slice none 0 0) (.slice none 0 0) (.slice none 0 0)) := by
    have := RowC.new (w.alloc (.cells (rpA 0 (.slice none 0 0) (.slice none 0 0) (.slice none 0 0)) 32)) (rpA 0 (.slice none 0 0) (.slice none 0 0) (.slice none 0 0)) 32
    rwa [World.size_alloc] at this
  obtain ⟨z2, hz2⟩ : ∃ z, w.heap.size = z := ⟨_, rfl⟩
  obtain ⟨z4, hz4⟩ : ∃ z, z2 + 1 = z := ⟨_, rfl⟩
  have Z2 : Hid (z2 ≠ g ∧ w.heap.size ≤ z2 ∧ z2 ≠ z4) := ⟨by omega, by omega, by omega⟩
  have Z4 : Hid (z4 ≠ g ∧ w.heap.size ≤ z4 ∧ z4 ≠ z2) := ⟨by omega, by omega, by omega⟩
  have HXZ : Hid (∀ a, x = some a → a.block ≠ z4) := fun a ha => by have := hx0 a ha; omega
  obtain ⟨BB, hBB⟩ : ∃ z, z4 + 1 = z := ⟨_, rfl⟩
  have ZB : Hid (z2 < BB ∧ z4 < BB ∧ g < BB ∧ w.heap.size ≤ BB) := ⟨by omega, by omega, by omega, by omega⟩
  have hB : BB ≤ ((w.alloc (.cells (rpA 0 (.slice none 0 0) (.slice none 0 0) (.slice none 0 0)) 32)).alloc (.cells (rpA 0 (.slice none 0 0) (.slice none 0 0) (.slice none 0 0)) 32)).heap.size := by simp; omega
  have hK : Keep [g] w ((w.alloc (.cells (rpA 0 (.slice none 0 0) (.slice none 0 0) (.slice none 0 0)) 32)).alloc (.cells (rpA 0 (.slice none 0 0) (.slice none 0 0) (.slice none 0 0)) 32)) := Keep.of_below b0
  rw [hz2, hz4] at z4row
  rw [hz2] at z2row
  clear b0 h hBB hx0 hg
  go_enter Tryz.func25, Tryz.ntmps25
  go_upto_region 3 with fail
  generalize (w.alloc (.cells (rpA 0 (.slice none 0 0) (.slice none 0 0) (.slice none 0 0)) 32)).alloc (.cells (rpA 0 (.slice none 0 0) (.slice none 0 0) (.slice none 0 0)) 32) = W at hR z2row z4row hB hK ⊢
  clear hz2 hz4
  have h1 := status22 W g x n c b hR
  have zl4 := z4row.lt
  have zl2 := z2row.lt
  cases hr0 : rdH9 b with
  | error p =>
    rw [hr0] at h1
    have HS : Hid (RES = .error p) := by show _ = _; rw [← HRES.out]; unfold getM rdR; rw [rdH9_err hr0]
    clear hr0 hR
    go_wp2_with fail
    refine h1.mono ?_
    rintro e w1 ⟨hK1, q, rfl, hq, hRq⟩
    clear h1
    have z4r := z4row.keepsF hK1 (by simpa using Z4.out.1)
    have z2r := z2row.keepsF hK1 (by simpa using Z2.out.1)
    have HK : Hid (Keep [g] w ((w1.setCell ⟨z4, 0, none⟩ (.int .i64 0)).setRow z2 (rpA 0 (.slice none 0 0) (.slice none 0 0) (.slice none 0 0)))) := ((hK.trans hK1).mineC Z4.out.2.1 _ _).mine Z2.out.2.1 _
    have fz := z4r.frozen 0
    have zc : w1.cell? ⟨z4, 0, none⟩ = some (.int .i64 0) := by rw [z4r.cell]; rfl
    have z4s : RowC (w1.setCell ⟨z4, 0, none⟩ (.int .i64 0)) z4 (rpA 0 (.slice none 0 0) (.slice none 0 0) (.slice none 0 0)) := z4r.set 0 _
    have z2s : RowC (w1.setCell ⟨z4, 0, none⟩ (.int .i64 0)) z2 (rpA 0 (.slice none 0 0) (.slice none 0 0) (.slice none 0 0)) := z2r.set_ne _ _ Z4.out.2.2
    have qs : Hid (RowC ((w1.setCell ⟨z4, 0, none⟩ (.int .i64 0)).setRow z2 (rpA 0 (.slice none 0 0) (.slice none 0 0) (.slice none 0 0))) q (ftA p.1 p.2)) := (hRq.set_ne _ _ (by omega)).setRow_ne _ (by omega)
    have hQ : Hid (w.heap.size ≤ q) := Nat.le_trans hK.size hq
    have z2t : Hid (RowC ((w1.setCell ⟨z4, 0, none⟩ (.int .i64 0)).setRow z2 (rpA 0 (.slice none 0 0) (.slice none 0 0) (.slice none 0 0))) z2 (rpA 0 (.slice none 0 0) (.slice none 0 0) (.slice none 0 0))) := z2s.setRow _
    have ld := run_load_rp _ z4 z4s.1 (by rw [z4s.2]; rfl)
    rw [z4s.2] at ld
    have st := run_store_rp _ z2 (rpA 0 (.slice none 0 0) (.slice none 0 0) (.slice none 0 0)) z2s.1 (by rw [z2s.2]; rfl) rfl (rpA_one _ _ _ _ _ _ _ _ _ _)
    clear z4r z2r z4s z2s hRq hq hK1 z4row z2row zl4 zl2 hK
    go_wp2
    (try simp only [Exit.inBlock, Exit.then])
    refine rp_ret2 2 3 z2 _ rfl rfl rfl z2t.out rfl ?_
    rw [HS.out]
    exact ⟨HK.out, _, q, rfl, rfl, rpA_one _ _ _ _ _ _ _ _ _ _, hQ.out, qs.out⟩
  | ok p =>
    obtain ⟨s, i0⟩ := p
    rw [hr0] at h1
    have HS0 : Hid (rdH b = .ok s) := (rdH9_ok hr0).1
    obtain rfl := (rdH9_ok hr0).2
    clear hr0 hR
    go_wp2_with fail
    refine h1.mono ?_
    rintro e w1 ⟨hK1, rfl, hR1⟩
    clear h1
    have z4r := z4row.keepsF hK1 (by simpa using Z4.out.1)
    have z2r := z2row.keepsF hK1 (by simpa using Z2.out.1)
    have hK2 : Keep [g] w (w1.setCell ⟨z4, 0, none⟩ (.int .i64 s)) := (hK.trans hK1).mineC Z4.out.2.1 _ _
    have fz := z4r.frozen 0
    have zc : w1.cell? ⟨z4, 0, none⟩ = some (.int .i64 0) := by rw [z4r.cell]; rfl
    have kc := Keep.cell1 w1 z4 0 (.int .i64 s)
    have z4s : RowC (w1.setCell ⟨z4, 0, none⟩ (.int .i64 s)) z4 (rpA s (.slice none 0 0) (.slice none 0 0) (.slice none 0 0)) := z4r.set 0 _
    have z2s : RowC (w1.setCell ⟨z4, 0, none⟩ (.int .i64 s)) z2 (rpA 0 (.slice none 0 0) (.slice none 0 0) (.slice none 0 0)) := z2r.set_ne _ _ Z4.out.2.2
    have hR2 := hR1.apart kc (by simpa using fun e : g = z4 => Z4.out.1 e.symm) (fun a ha => by simpa using HXZ.out _ ha)
    have hB2 : BB ≤ (w1.setCell ⟨z4, 0, none⟩ (.int .i64 s)).heap.size := by simp only [size_setCell22]; exact Nat.le_trans hB hK1.size
    clear z4row z2row zl4 zl2 hK hK1 hR1 kc z4r z2r hB
    go_upto_region 6 with fail
    clear fz zc
    generalize w1.setCell ⟨z4, 0, none⟩ (.int .i64 s) = W at hK2 z4s z2s hR2 hB2 ⊢
    have hK := hK2
    have z4row := z4s
    have z2row := z2s
    have hR := hR2
    have hB := hB2
    clear hK2 z4s z2s hR2 hB2
    have h1 := list_fd22 W g x n c b 4 hR
    have zl4 := z4row.lt
    have zl2 := z2row.lt
    cases hr1 : rdC rdF ltF b 4 with
    | error p =>
      rw [hr1] at h1
      have HS : Hid (RES = .error p) := by show _ = _; rw [← HRES.out]; unfold getM rdR; rw [HS0.out]; dsimp only; rw [hr1]
      clear hr1 hR
      go_wp2_with fail
      refine h1.mono ?_
      rintro e w1 ⟨hK1, q, rfl, hq, hRq⟩
      clear h1
      have z4r := z4row.keepsF hK1 (by simpa using Z4.out.1)
      have z2r := z2row.keepsF hK1 (by simpa using Z2.out.1)
      have HK : Hid (Keep [g] w ((w1.setCell ⟨z4, 1, none⟩ ((.slice none 0 0))).setRow z2 (rpA s (.slice none 0 0) (.slice none 0 0) (.slice none 0 0)))) := ((hK.trans hK1).mineC Z4.out.2.1 _ _).mine Z2.out.2.1 _
      have fz := z4r.frozen 1
      have zc : w1.cell? ⟨z4, 1, none⟩ = some ((.slice none 0 0)) := by rw [z4r.cell]; rfl
      have z4s : RowC (w1.setCell ⟨z4, 1, none⟩ ((.slice none 0 0))) z4 (rpA s (.slice none 0 0) (.slice none 0 0) (.slice none 0 0)) := z4r.set 1 _
      have z2s : RowC (w1.setCell ⟨z4, 1, none⟩ ((.slice none 0 0))) z2 (rpA 0 (.slice none 0 0) (.slice none 0 0) (.slice none 0 0)) := z2r.set_ne _ _ Z4.out.2.2
      have qs : Hid (RowC ((w1.setCell ⟨z4, 1, none⟩ ((.slice none 0 0))).setRow z2 (rpA s (.slice none 0 0) (.slice none 0 0) (.slice none 0 0))) q (ftA p.1 p.2)) := (hRq.set_ne _ _ (by omega)).setRow_ne _ (by omega)
      have hQ : Hid (w.heap.size ≤ q) := Nat.le_trans hK.size hq
      have z2t : Hid (RowC ((w1.setCell ⟨z4, 1, none⟩ ((.slice none 0 0))).setRow z2 (rpA s (.slice none 0 0) (.slice none 0 0) (.slice none 0 0))) z2 (rpA s (.slice none 0 0) (.slice none 0 0) (.slice none 0 0))) := z2s.setRow _
      have ld := run_load_rp _ z4 z4s.1 (by rw [z4s.2]; rfl)
      rw [z4s.2] at ld
      have st := run_store_rp _ z2 (rpA s (.slice none 0 0) (.slice none 0 0) (.slice none 0 0)) z2s.1 (by rw [z2s.2]; rfl) rfl (rpA_one _ _ _ _ _ _ _ _ _ _)
      clear z4r z2r z4s z2s hRq hq hK1 z4row z2row zl4 zl2 hK
      go_wp2
      (try simp only [Exit.inBlock, Exit.then])
      refine rp_ret2 2 3 z2 _ rfl rfl rfl z2t.out rfl ?_
      rw [HS.out]
      exact ⟨HK.out, _, q, rfl, rfl, rpA_one _ _ _ _ _ _ _ _ _ _, hQ.out, qs.out⟩
    | ok p =>
      obtain ⟨fs, i1⟩ := p
      rw [hr1] at h1
      have HS1 : Hid _ := hr1
      clear hr1 hR
      go_wp2_with fail
      refine h1.mono ?_
      rintro e w1 ⟨hK1, vv, rfl, hOn, hR1⟩
      obtain ⟨xf, cf, rfl⟩ := (hOn.isK fdE_ok).len
      obtain ⟨nf, hnn1⟩ : ∃ z, fs.length = z := ⟨_, rfl⟩
      rw [hnn1] at hOn
      try simp only [hnn1]
      clear hnn1
      clear h1
      have z4r := z4row.keepsF hK1 (by simpa using Z4.out.1)
      have z2r := z2row.keepsF hK1 (by simpa using Z2.out.1)
      have hK2 : Keep [g] w (w1.setCell ⟨z4, 1, none⟩ (.slice xf nf cf)) := (hK.trans hK1).mineC Z4.out.2.1 _ _
      have fz := z4r.frozen 1
      have zc : w1.cell? ⟨z4, 1, none⟩ = some ((.slice none 0 0)) := by rw [z4r.cell]; rfl
      have kc := Keep.cell1 w1 z4 1 (.slice xf nf cf)
      have z4s : RowC (w1.setCell ⟨z4, 1, none⟩ (.slice xf nf cf)) z4 (rpA s (.slice xf nf cf) (.slice none 0 0) (.slice none 0 0)) := z4r.set 1 _
      have z2s : RowC (w1.setCell ⟨z4, 1, none⟩ (.slice xf nf cf)) z2 (rpA 0 (.slice none 0 0) (.slice none 0 0) (.slice none 0 0)) := z2r.set_ne _ _ Z4.out.2.2
      have hR2 := hR1.apart kc (by simpa using fun e : g = z4 => Z4.out.1 e.symm) (fun a ha => by simpa using HXZ.out _ ha)
      have hB2 : BB ≤ (w1.setCell ⟨z4, 1, none⟩ (.slice xf nf cf)).heap.size := by simp only [size_setCell22]; exact Nat.le_trans hB hK1.size
      have hO1a : OwnK fdE w1 BB (.slice xf nf cf) fs := OwnK.le hOn hB
      have hO1b : OwnK fdE (w1.setCell ⟨z4, 1, none⟩ (.slice xf nf cf)) BB (.slice xf nf cf) fs := OwnK.keeps hO1a kc (fun q hq => by have := (World.ownsRow.lt hO1a q hq).1; have := ZB.out; simp; omega)
      clear z4row z2row zl4 zl2 hK hK1 hR1 kc z4r z2r hB hOn hO1a
      go_upto_region 9 with fail
      clear fz zc
      generalize w1.setCell ⟨z4, 1, none⟩ (.slice xf nf cf) = W at hK2 z4s z2s hR2 hB2 hO1b ⊢
      have hK := hK2
      have z4row := z4s
      have z2row := z2s
      have hR := hR2
      have hB := hB2
      have hO1 := hO1b
      clear hK2 z4s z2s hR2 hB2 hO1b
      have h1 := list_dg22 W g x n c b i1 hR
      have zl4 := z4row.lt
      have zl2 := z2row.lt
      cases hr2 : rdC rdD ltD b i1 with
      | error p =>
        rw [hr2] at h1
        have HS : Hid (RES = .error p) := by show _ = _; rw [← HRES.out]; unfold getM rdR; rw [HS0.out]; dsimp only; rw [HS1.out]; dsimp only; rw [hr2]
        clear hr2 hR
        go_wp2_with fail
        refine h1.mono ?_
        rintro e w1 ⟨hK1, q, rfl, hq, hRq⟩
        clear h1
        have z4r := z4row.keepsF hK1 (by simpa using Z4.out.1)
        have z2r := z2row.keepsF hK1 (by simpa using Z2.out.1)
        have HK : Hid (Keep [g] w ((w1.setCell ⟨z4, 2, none⟩ ((.slice none 0 0))).setRow z2 (rpA s (.slice xf nf cf) (.slice none 0 0) (.slice none 0 0)))) := ((hK.trans hK1).mineC Z4.out.2.1 _ _).mine Z2.out.2.1 _
        have fz := z4r.frozen 2
        have zc : w1.cell? ⟨z4, 2, none⟩ = some ((.slice none 0 0)) := by rw [z4r.cell]; rfl
        have z4s : RowC (w1.setCell ⟨z4, 2, none⟩ ((.slice none 0 0))) z4 (rpA s (.slice xf nf cf) (.slice none 0 0) (.slice none 0 0)) := z4r.set 2 _
        have z2s : RowC (w1.setCell ⟨z4, 2, none⟩ ((.slice none 0 0))) z2 (rpA 0 (.slice none 0 0) (.slice none 0 0) (.slice none 0 0)) := z2r.set_ne _ _ Z4.out.2.2
        have qs : Hid (RowC ((w1.setCell ⟨z4, 2, none⟩ ((.slice none 0 0))).setRow z2 (rpA s (.slice xf nf cf) (.slice none 0 0) (.slice none 0 0))) q (ftA p.1 p.2)) := (hRq.set_ne _ _ (by omega)).setRow_ne _ (by omega)
        have hQ : Hid (w.heap.size ≤ q) := Nat.le_trans hK.size hq
        have z2t : Hid (RowC ((w1.setCell ⟨z4, 2, none⟩ ((.slice none 0 0))).setRow z2 (rpA s (.slice xf nf cf) (.slice none 0 0) (.slice none 0 0))) z2 (rpA s (.slice xf nf cf) (.slice none 0 0) (.slice none 0 0))) := z2s.setRow _
        have ld := run_load_rp _ z4 z4s.1 (by rw [z4s.2]; rfl)
        rw [z4s.2] at ld
        have st := run_store_rp _ z2 (rpA s (.slice xf nf cf) (.slice none 0 0) (.slice none 0 0)) z2s.1 (by rw [z2s.2]; rfl) rfl (rpA_one _ _ _ _ _ _ _ _ _ _)
        clear z4r z2r z4s z2s hRq hq hK1 z4row z2row zl4 zl2 hK hO1
        go_wp2
        (try simp only [Exit.inBlock, Exit.then])
        refine rp_ret2 2 3 z2 _ rfl rfl rfl z2t.out rfl ?_
        rw [HS.out]
        exact ⟨HK.out, _, q, rfl, rfl, rpA_one _ _ _ _ _ _ _ _ _ _, hQ.out, qs.out⟩
      | ok p =>
        obtain ⟨ds, i2⟩ := p
        rw [hr2] at h1
        have HS2 : Hid _ := hr2
        clear hr2 hR
        go_wp2_with fail
        refine h1.mono ?_
        rintro e w1 ⟨hK1, vv, rfl, hOn, hR1⟩
        obtain ⟨xd, cd, rfl⟩ := (hOn.isK dgE_ok).len
        obtain ⟨nd, hnn2⟩ : ∃ z, ds.length = z := ⟨_, rfl⟩
        rw [hnn2] at hOn
        try simp only [hnn2]
        clear hnn2
        clear h1
        have z4r := z4row.keepsF hK1 (by simpa using Z4.out.1)
        have z2r := z2row.keepsF hK1 (by simpa using Z2.out.1)
        have hK2 : Keep [g] w (w1.setCell ⟨z4, 2, none⟩ (.slice xd nd cd)) := (hK.trans hK1).mineC Z4.out.2.1 _ _
        have fz := z4r.frozen 2
        have zc : w1.cell? ⟨z4, 2, none⟩ = some ((.slice none 0 0)) := by rw [z4r.cell]; rfl
        have kc := Keep.cell1 w1 z4 2 (.slice xd nd cd)
        have z4s : RowC (w1.setCell ⟨z4, 2, none⟩ (.slice xd nd cd)) z4 (rpA s (.slice xf nf cf) (.slice xd nd cd) (.slice none 0 0)) := z4r.set 2 _
        have z2s : RowC (w1.setCell ⟨z4, 2, none⟩ (.slice xd nd cd)) z2 (rpA 0 (.slice none 0 0) (.slice none 0 0) (.slice none 0 0)) := z2r.set_ne _ _ Z4.out.2.2
        have hR2 := hR1.apart kc (by simpa using fun e : g = z4 => Z4.out.1 e.symm) (fun a ha => by simpa using HXZ.out _ ha)
        have hB2 : BB ≤ (w1.setCell ⟨z4, 2, none⟩ (.slice xd nd cd)).heap.size := by simp only [size_setCell22]; exact Nat.le_trans hB hK1.size
        have hO1a : OwnK fdE w1 BB (.slice xf nf cf) fs := OwnK.keeps hO1 hK1 (fun q hq => by have := (World.ownsRow.lt hO1 q hq).1; have := ZB.out; simp; omega)
        have hO1b : OwnK fdE (w1.setCell ⟨z4, 2, none⟩ (.slice xd nd cd)) BB (.slice xf nf cf) fs := OwnK.keeps hO1a kc (fun q hq => by have := (World.ownsRow.lt hO1a q hq).1; have := ZB.out; simp; omega)
        have hO2a : OwnK dgE w1 BB (.slice xd nd cd) ds := OwnK.le hOn hB
        have hO2b : OwnK dgE (w1.setCell ⟨z4, 2, none⟩ (.slice xd nd cd)) BB (.slice xd nd cd) ds := OwnK.keeps hO2a kc (fun q hq => by have := (World.ownsRow.lt hO2a q hq).1; have := ZB.out; simp; omega)
        clear z4row z2row zl4 zl2 hK hK1 hR1 kc z4r z2r hB hOn hO1a hO2a hO1
        go_upto_region 12 with fail
        clear fz zc
        generalize w1.setCell ⟨z4, 2, none⟩ (.slice xd nd cd) = W at hK2 z4s z2s hR2 hB2 hO1b hO2b ⊢
        have hK := hK2
        have z4row := z4s
        have z2row := z2s
        have hR := hR2
        have hB := hB2
        have hO1 := hO1b
        have hO2 := hO2b
        clear hK2 z4s z2s hR2 hB2 hO1b hO2b
        have h1 := list_in22 W g x n c b i2 hR
        have zl4 := z4row.lt
        have zl2 := z2row.lt
        cases hr3 : rdC rdS ltI b i2 with
        | error p =>
          rw [hr3] at h1
          have HS : Hid (RES = .error p) := by show _ = _; rw [← HRES.out]; unfold getM rdR; rw [HS0.out]; dsimp only; rw [HS1.out]; dsimp only; rw [HS2.out]; dsimp only; rw [hr3]
          clear hr3 hR
          go_wp2_with fail
          refine h1.mono ?_
          rintro e w1 ⟨hK1, q, rfl, hq, hRq⟩
          clear h1
          have z4r := z4row.keepsF hK1 (by simpa using Z4.out.1)
          have z2r := z2row.keepsF hK1 (by simpa using Z2.out.1)
          have HK : Hid (Keep [g] w ((w1.setCell ⟨z4, 3, none⟩ ((.slice none 0 0))).setRow z2 (rpA s (.slice xf nf cf) (.slice xd nd cd) (.slice none 0 0)))) := ((hK.trans hK1).mineC Z4.out.2.1 _ _).mine Z2.out.2.1 _
          have fz := z4r.frozen 3
          have zc : w1.cell? ⟨z4, 3, none⟩ = some ((.slice none 0 0)) := by rw [z4r.cell]; rfl
          have z4s : RowC (w1.setCell ⟨z4, 3, none⟩ ((.slice none 0 0))) z4 (rpA s (.slice xf nf cf) (.slice xd nd cd) (.slice none 0 0)) := z4r.set 3 _
          have z2s : RowC (w1.setCell ⟨z4, 3, none⟩ ((.slice none 0 0))) z2 (rpA 0 (.slice none 0 0) (.slice none 0 0) (.slice none 0 0)) := z2r.set_ne _ _ Z4.out.2.2
          have qs : Hid (RowC ((w1.setCell ⟨z4, 3, none⟩ ((.slice none 0 0))).setRow z2 (rpA s (.slice xf nf cf) (.slice xd nd cd) (.slice none 0 0))) q (ftA p.1 p.2)) := (hRq.set_ne _ _ (by omega)).setRow_ne _ (by omega)
          have hQ : Hid (w.heap.size ≤ q) := Nat.le_trans hK.size hq
          have z2t : Hid (RowC ((w1.setCell ⟨z4, 3, none⟩ ((.slice none 0 0))).setRow z2 (rpA s (.slice xf nf cf) (.slice xd nd cd) (.slice none 0 0))) z2 (rpA s (.slice xf nf cf) (.slice xd nd cd) (.slice none 0 0))) := z2s.setRow _
          have ld := run_load_rp _ z4 z4s.1 (by rw [z4s.2]; rfl)
          rw [z4s.2] at ld
          have st := run_store_rp _ z2 (rpA s (.slice xf nf cf) (.slice xd nd cd) (.slice none 0 0)) z2s.1 (by rw [z2s.2]; rfl) rfl (rpA_one _ _ _ _ _ _ _ _ _ _)
          clear z4r z2r z4s z2s hRq hq hK1 z4row z2row zl4 zl2 hK hO1 hO2
          go_wp2
          (try simp only [Exit.inBlock, Exit.then])
          refine rp_ret2 2 3 z2 _ rfl rfl rfl z2t.out rfl ?_
          rw [HS.out]
          exact ⟨HK.out, _, q, rfl, rfl, rpA_one _ _ _ _ _ _ _ _ _ _, hQ.out, qs.out⟩
        | ok p =>
          obtain ⟨dr, i3⟩ := p
          rw [hr3] at h1
          have HS3 : Hid _ := hr3
          clear hr3 hR
          go_wp2_with fail
          refine h1.mono ?_
          rintro e w1 ⟨hK1, vv, rfl, hOn, hR1⟩
          obtain ⟨xi, ci, rfl⟩ := ownI_len hOn
          obtain ⟨ni, hnn3⟩ : ∃ z, dr.length = z := ⟨_, rfl⟩
          rw [hnn3] at hOn
          try simp only [hnn3]
          clear hnn3
          clear h1
          have z4r := z4row.keepsF hK1 (by simpa using Z4.out.1)
          have z2r := z2row.keepsF hK1 (by simpa using Z2.out.1)
          have hK2 : Keep [g] w (w1.setCell ⟨z4, 3, none⟩ (.slice xi ni ci)) := (hK.trans hK1).mineC Z4.out.2.1 _ _
          have fz := z4r.frozen 3
          have zc : w1.cell? ⟨z4, 3, none⟩ = some ((.slice none 0 0)) := by rw [z4r.cell]; rfl
          have kc := Keep.cell1 w1 z4 3 (.slice xi ni ci)
          have z4s : RowC (w1.setCell ⟨z4, 3, none⟩ (.slice xi ni ci)) z4 (rpA s (.slice xf nf cf) (.slice xd nd cd) (.slice xi ni ci)) := z4r.set 3 _
          have z2s : RowC (w1.setCell ⟨z4, 3, none⟩ (.slice xi ni ci)) z2 (rpA 0 (.slice none 0 0) (.slice none 0 0) (.slice none 0 0)) := z2r.set_ne _ _ Z4.out.2.2
          have hR2 := hR1.apart kc (by simpa using fun e : g = z4 => Z4.out.1 e.symm) (fun a ha => by simpa using HXZ.out _ ha)
          have hB2 : BB ≤ (w1.setCell ⟨z4, 3, none⟩ (.slice xi ni ci)).heap.size := by simp only [size_setCell22]; exact Nat.le_trans hB hK1.size
          have hO1a : OwnK fdE w1 BB (.slice xf nf cf) fs := OwnK.keeps hO1 hK1 (fun q hq => by have := (World.ownsRow.lt hO1 q hq).1; have := ZB.out; simp; omega)
          have hO1b : OwnK fdE (w1.setCell ⟨z4, 3, none⟩ (.slice xi ni ci)) BB (.slice xf nf cf) fs := OwnK.keeps hO1a kc (fun q hq => by have := (World.ownsRow.lt hO1a q hq).1; have := ZB.out; simp; omega)
          have hO2a : OwnK dgE w1 BB (.slice xd nd cd) ds := OwnK.keeps hO2 hK1 (fun q hq => by have := (World.ownsRow.lt hO2 q hq).1; have := ZB.out; simp; omega)
          have hO2b : OwnK dgE (w1.setCell ⟨z4, 3, none⟩ (.slice xi ni ci)) BB (.slice xd nd cd) ds := OwnK.keeps hO2a kc (fun q hq => by have := (World.ownsRow.lt hO2a q hq).1; have := ZB.out; simp; omega)
          have hO3a : OwnI w1 BB (.slice xi ni ci) dr := OwnG.le hOn hB
          have hO3b : OwnI (w1.setCell ⟨z4, 3, none⟩ (.slice xi ni ci)) BB (.slice xi ni ci) dr := OwnG.keepsF hO3a kc (fun q hq => by have := (OwnG.lt hO3a q hq).1; have := ZB.out; simp; omega)
          clear z4row z2row zl4 zl2 hK hK1 hR1 kc z4r z2r hB hOn hO1a hO2a hO3a hO1 hO2
          go_upto_region 15 with fail
          clear fz zc
          generalize w1.setCell ⟨z4, 3, none⟩ (.slice xi ni ci) = W at hK2 z4s z2s hR2 hB2 hO1b hO2b hO3b ⊢
          have hK := hK2
          have z4row := z4s
          have z2row := z2s
          have hR := hR2
          have hB := hB2
          have hO1 := hO1b
          have hO2 := hO2b
          have hO3 := hO3b
          clear hK2 z4s z2s hR2 hB2 hO1b hO2b hO3b
          have zl4 := z4row.lt
          have zl2 := z2row.lt
          have LD : Hid (∀ y, Keep [g] W y → (bigLoad 32 (.pointer (some ⟨z4, 0, none⟩))).run Tryz.prog y = .ok (.value (.agg (rpA s (.slice xf nf cf) (.slice xd nd cd) (.slice xi ni ci)))) y) := fun y hy => by
            have r9 := z4row.keepsF hy (by simpa using Z4.out.1)
            have h9 := run_load_rp y z4 r9.1 (by rw [r9.2]; rfl)
            rw [r9.2] at h9
            exact h9
          cases hrE : rdE b i3 with
          | none =>
            have HS : Hid (RES = .ok ⟨s, fs, ds, dr⟩) := by show _ = _; rw [← HRES.out]; unfold getM rdR; rw [HS0.out]; dsimp only; rw [HS1.out]; dsimp only; rw [HS2.out]; dsimp only; rw [HS3.out]; dsimp only; rw [hrE]
            refine wp_reliesK (kok22 (G := [g])) 2 [1] [Fx (.agg (rpA s (.slice xf nf cf) (.slice xd nd cd) (.slice xi ni ci))), Fx (.pointer (some ⟨g, 0, none⟩)), Fx (.pointer none)] (by simp) (by kernel_rfl) (by kernel_rfl) (by kernel_rfl) ?_ ?_ ?_ ?_
            · repeat' (first | exact all_nil | apply all_cons)
              all_goals intro v y y' hv hb
              all_goals first | exact Fx_mono _ _ _ _ hv hb | exact FtP.mono hv hb
            · simp only [List.eraseIdx]
              repeat' (first | exact all_nil | apply all_cons)
              all_goals intro v y y' hv hb
              all_goals first | exact (show Fx _ _ _ from hv) | exact FtP.keepK hv hb
            · refine ⟨?_, ?_, ?_, trivial⟩
              all_goals
                intro ρ y9 hk hp ρc ρg ρf ho hd
                first | (replace hp := hp (by decide)) | clear hp
                have o4 : ρ (.tmp 4) = .pointer (some ⟨z4, 0, none⟩) := ho 4 rfl
                have o0 : ρ (.tmp 0) = .pointer (some ⟨g, 0, none⟩) := ho 0 rfl
                clear ho
                simp only [depsR, depR, slotR, Fx, List.getElem?_cons_succ, List.getElem?_cons_zero, Region.binds, forall_const] at hd
                simp only [guardR, Nat.reduceBEq, cond_true, cond_false]
                go_split_ands
              · have z9 := LD.out y9 hk
                go_simp
              · go_simp
              · go_simp
                exact (end22 _ g x n c b i3 (hR.later hp)).mono fun e w' h9 => by rw [hrE] at h9; exact ⟨_, h9.2, rfl, h9.1⟩
            · intro us x1 hk hw
              simp only [owed, Fx] at hw
              obtain ⟨e0, e1, e2, -⟩ := hw
              simp only [List.length_cons, List.length_nil, List.take_succ_cons, List.take_zero, List.drop_succ_cons, List.drop_zero, asg, List.cons_append, List.nil_append, e0, e1, e2]
              clear e0 e1 e2
              have z2r := z2row.keepsF hk (by simpa using Z2.out.1)
              have st := run_store_rp x1 z2 (rpA s (.slice xf nf cf) (.slice xd nd cd) (.slice xi ni ci)) z2r.1 (by rw [z2r.2]; rfl) rfl (rpA_one _ _ _ _ _ _ _ _ _ _)
              have HK : Hid (Keep [g] w (x1.setRow z2 (rpA s (.slice xf nf cf) (.slice xd nd cd) (.slice xi ni ci)))) := (hK.trans hk).mine Z2.out.2.1 _
              have z2t : Hid (RowC (x1.setRow z2 (rpA s (.slice xf nf cf) (.slice xd nd cd) (.slice xi ni ci))) z2 (rpA s (.slice xf nf cf) (.slice xd nd cd) (.slice xi ni ci))) := z2r.setRow _
              have k9 := Keep.mine1 x1 z2 (rpA s (.slice xf nf cf) (.slice xd nd cd) (.slice xi ni ci))
              have HO1 : Hid (OwnK fdE (x1.setRow z2 (rpA s (.slice xf nf cf) (.slice xd nd cd) (.slice xi ni ci))) w.heap.size (.slice xf nf cf) fs) := OwnK.le (OwnK.keeps (OwnK.keeps hO1 hk (fun q hq => by have := (World.ownsRow.lt hO1 q hq).1; have := ZB.out; simp; omega)) k9 (fun q hq => by have := (World.ownsRow.lt hO1 q hq).1; have := ZB.out; simp; omega)) ZB.out.2.2.2
              have HO2 : Hid (OwnK dgE (x1.setRow z2 (rpA s (.slice xf nf cf) (.slice xd nd cd) (.slice xi ni ci))) w.heap.size (.slice xd nd cd) ds) := OwnK.le (OwnK.keeps (OwnK.keeps hO2 hk (fun q hq => by have := (World.ownsRow.lt hO2 q hq).1; have := ZB.out; simp; omega)) k9 (fun q hq => by have := (World.ownsRow.lt hO2 q hq).1; have := ZB.out; simp; omega)) ZB.out.2.2.2
              have HO3 : Hid (OwnI (x1.setRow z2 (rpA s (.slice xf nf cf) (.slice xd nd cd) (.slice xi ni ci))) w.heap.size (.slice xi ni ci) dr) := OwnG.le (OwnG.keepsF (OwnG.keepsF hO3 hk (fun q hq => by have := (OwnG.lt hO3 q hq).1; have := ZB.out; simp; omega)) k9 (fun q hq => by have := (OwnG.lt hO3 q hq).1; have := ZB.out; simp; omega)) ZB.out.2.2.2
              clear hk z2r k9 hO1 hO2 hO3 z4row z2row LD zl4 zl2 hK hR hrE
              go_wp2
              (try simp only [Exit.inBlock, Exit.then])
              refine rp_ret2 2 3 z2 _ rfl rfl rfl z2t.out rfl ?_
              rw [HS.out]
              exact ⟨HK.out, _, _, _, _, _, _, _, _, _, rfl, HO1.out, HO2.out, HO3.out⟩
          | some p =>
            have HS : Hid (RES = .error p) := by show _ = _; rw [← HRES.out]; unfold getM rdR; rw [HS0.out]; dsimp only; rw [HS1.out]; dsimp only; rw [HS2.out]; dsimp only; rw [HS3.out]; dsimp only; rw [hrE]
            refine wp_reliesK (kok22 (G := [g])) 2 [1] [Fx (.agg (rpA s (.slice xf nf cf) (.slice xd nd cd) (.slice xi ni ci))), Fx (.pointer (some ⟨g, 0, none⟩)), FtP W.heap.size (p.1 : Int) (p.2 : Int)] (by simp) (by kernel_rfl) (by kernel_rfl) (by kernel_rfl) ?_ ?_ ?_ ?_
            · repeat' (first | exact all_nil | apply all_cons)
              all_goals intro v y y' hv hb
              all_goals first | exact Fx_mono _ _ _ _ hv hb | exact FtP.mono hv hb
            · simp only [List.eraseIdx]
              repeat' (first | exact all_nil | apply all_cons)
              all_goals intro v y y' hv hb
              all_goals first | exact (show Fx _ _ _ from hv) | exact FtP.keepK hv hb
            · refine ⟨?_, ?_, ?_, trivial⟩
              all_goals
                intro ρ y9 hk hp ρc ρg ρf ho hd
                first | (replace hp := hp (by decide)) | clear hp
                have o4 : ρ (.tmp 4) = .pointer (some ⟨z4, 0, none⟩) := ho 4 rfl
                have o0 : ρ (.tmp 0) = .pointer (some ⟨g, 0, none⟩) := ho 0 rfl
                clear ho
                simp only [depsR, depR, slotR, Fx, List.getElem?_cons_succ, List.getElem?_cons_zero, Region.binds, forall_const] at hd
                simp only [guardR, Nat.reduceBEq, cond_true, cond_false]
                go_split_ands
              · have z9 := LD.out y9 hk
                go_simp
              · go_simp
              · go_simp
                exact (end22 _ g x n c b i3 (hR.later hp)).mono fun e w' h9 => by rw [hrE] at h9; obtain ⟨k9, q, e1, e2, e3⟩ := h9; exact ⟨_, e1, ⟨q, rfl, Nat.le_trans hp.size e2, e3⟩, k9⟩
            · intro us x1 hk hw
              simp only [owed, Fx] at hw
              obtain ⟨e0, e1, ⟨q, e2, eq2, eq3⟩, -⟩ := hw
              simp only [List.length_cons, List.length_nil, List.take_succ_cons, List.take_zero, List.drop_succ_cons, List.drop_zero, asg, List.cons_append, List.nil_append, e0, e1, e2]
              clear e0 e1 e2
              have z2r := z2row.keepsF hk (by simpa using Z2.out.1)
              have st := run_store_rp x1 z2 (rpA s (.slice xf nf cf) (.slice xd nd cd) (.slice xi ni ci)) z2r.1 (by rw [z2r.2]; rfl) rfl (rpA_one _ _ _ _ _ _ _ _ _ _)
              have HK : Hid (Keep [g] w (x1.setRow z2 (rpA s (.slice xf nf cf) (.slice xd nd cd) (.slice xi ni ci)))) := (hK.trans hk).mine Z2.out.2.1 _
              have z2t : Hid (RowC (x1.setRow z2 (rpA s (.slice xf nf cf) (.slice xd nd cd) (.slice xi ni ci))) z2 (rpA s (.slice xf nf cf) (.slice xd nd cd) (.slice xi ni ci))) := z2r.setRow _
              have qs : Hid (RowC (x1.setRow z2 (rpA s (.slice xf nf cf) (.slice xd nd cd) (.slice xi ni ci))) q (ftA p.1 p.2)) := eq3.setRow_ne _ (by omega)
              have hQ : Hid (w.heap.size ≤ q) := Nat.le_trans hK.size eq2
              clear hk z2r hO1 hO2 hO3 z4row z2row LD zl4 zl2 hK hR hrE eq3 eq2
              go_wp2
              (try simp only [Exit.inBlock, Exit.then])
              refine rp_ret2 2 3 z2 _ rfl rfl rfl z2t.out rfl ?_
              rw [HS.out]
              exact ⟨HK.out, _, q, rfl, rfl, rpA_one _ _ _ _ _ _ _ _ _ _, hQ.out, qs.out⟩
/-- What Get leaves. -/
def GtQ (w : World) (r : Except (Nat × Nat) Rp) (e : Ending) (w' : World) : Prop := Below w.heap.size w w' ∧ match r with
  | .ok r => ∃ xf nf cf xd nd cd xi ni ci, e = .returned (.tuple #[.agg (rpA r.st (.slice xf nf cf) (.slice xd nd cd) (.slice xi ni ci)), .nilIface]) ∧ OwnK fdE w' w.heap.size (.slice xf nf cf) r.fs ∧ OwnK dgE w' w.heap.size (.slice xd nd cd) r.ds ∧ OwnI w' w.heap.size (.slice xi ni ci) r.dr
  | .error p => ∃ q, e = .returned (.tuple #[.agg (rpA 0 (.slice none 0 0) (.slice none 0 0) (.slice none 0 0)), .iface 52 (.pointer (some ⟨q, 0, none⟩))]) ∧ w.heap.size ≤ q ∧ RowC w' q (ftA p.1 p.2)
set_option linter.unusedSimpArgs false in
set_option maxRecDepth 100000 in
set_option maxHeartbeats 1600000 in
theorem get22 (w : World) (x : Option Addr) (n c : Nat) (b : List UInt8) (hb : IsB w (.slice x n c) b) (hn : b.length = n) (hc : n ≤ c) (hs : n ≤ 140737488355328) (hx0 : ∀ a, x = some a → a.block < w.heap.size) :
    Calls Tryz.prog 11 #[.slice x n c] w fun e w' => GtQ w (getM b) e w' := by
  have b1 := below_alloc w (.cells (rpA 0 (.slice none 0 0) (.slice none 0 0) (.slice none 0 0)) 32)
  have r1 := RowC.new w (rpA 0 (.slice none 0 0) (.slice none 0 0) (.slice none 0 0)) 32
  have b2 := below_alloc (w.alloc (.cells (rpA 0 (.slice none 0 0) (.slice none 0 0) (.slice none 0 0)) 32)) (.cells (rdA (.slice x n c) 0) 61)
  have b12 := b1.trans (b2.mono b1.size)
  have r2 := r1.kept b2
  have r3 := RowC.new (w.alloc (.cells (rpA 0 (.slice none 0 0) (.slice none 0 0) (.slice none 0 0)) 32)) (rdA (.slice x n c) 0) 61
  rw [World.size_alloc] at r3
  have hR : RdI ((w.alloc (.cells (rpA 0 (.slice none 0 0) (.slice none 0 0) (.slice none 0 0)) 32)).alloc (.cells (rdA (.slice x n c) 0) 61)) (w.heap.size + 1) x n c b 0 := ⟨r3, hb.kept b12, hn, hc, fun a ha => by have := hx0 a ha; omega, hs, by omega⟩
  have hp := report22 _ _ x n c b hR (fun a ha => Nat.lt_of_lt_of_le (hx0 a ha) b12.size)
  obtain ⟨RES, hres⟩ : ∃ r, getM b = r := ⟨_, rfl⟩
  rw [hres] at hp ⊢
  clear hres hR r3 hb hn hc hs hx0 r1 b1 b2
  obtain ⟨z, hz⟩ : ∃ z, w.heap.size = z := ⟨_, rfl⟩
  have HZ : Hid (w.heap.size = z) := hz
  rw [hz] at r2 hp
  go_enter Tryz.func11, Tryz.ntmps11
  go_wp2_with fail
  generalize (w.alloc (.cells (rpA 0 (.slice none 0 0) (.slice none 0 0) (.slice none 0 0)) 32)).alloc (.cells (rdA (.slice x n c) 0) 61) = W at b12 r2 hp ⊢
  clear hz
  refine hp.mono ?_
  rintro e w1 ⟨hK, hm⟩
  clear hp
  have zl := r2.lt
  have r4 := r2.keepsF hK (by simp)
  have bK : Below w.heap.size w w1 := b12.trans (hK.below (fun q hq => by simp at hq; have := HZ.out; omega) b12.size)
  cases RES with
  | error p =>
    obtain ⟨u, q, rfl, hu, hu1, hq, hRq⟩ := hm
    have st1 := run_store_rp (w1.alloc (.cells (rpA 0 (.slice none 0 0) (.slice none 0 0) (.slice none 0 0)) 32)) w1.heap.size u (RowC.new w1 _ _).1 (by rw [(RowC.new w1 _ _).2]; rfl) hu hu1
    have bA := below_alloc w1 (.cells u 32)
    have r5 := r4.kept bA
    have qA := hRq.kept bA
    have st2 := run_store_rp (w1.alloc (.cells u 32)) z (rpA 0 (.slice none 0 0) (.slice none 0 0) (.slice none 0 0)) r5.1 (by rw [r5.2]; rfl) rfl (rpA_one _ _ _ _ _ _ _ _ _ _)
    have HB : Hid (Below w.heap.size w ((w1.alloc (.cells u 32)).setRow z (rpA 0 (.slice none 0 0) (.slice none 0 0) (.slice none 0 0)))) := below_row (bK.trans (bA.mono bK.size)) (by rw [HZ.out]; exact Nat.le_refl _) _
    have HQ : Hid (w.heap.size ≤ q) := Nat.le_trans b12.size hq
    have qz : q ≠ z := by omega
    have HR : Hid (RowC ((w1.alloc (.cells u 32)).setRow z (rpA 0 (.slice none 0 0) (.slice none 0 0) (.slice none 0 0))) q (ftA p.1 p.2)) := qA.setRow_ne _ qz
    have Hz : Hid (RowC ((w1.alloc (.cells u 32)).setRow z (rpA 0 (.slice none 0 0) (.slice none 0 0) (.slice none 0 0))) z (rpA 0 (.slice none 0 0) (.slice none 0 0) (.slice none 0 0))) := r5.setRow _
    clear r2 r4 r5 qA hRq hq hK b12 bK bA zl hu1 qz
    go_wp2
    (try simp only [Exit.inBlock, Exit.then])
    refine rp_ret2 2 3 z _ rfl rfl rfl Hz.out rfl ?_
    exact ⟨HB.out, q, rfl, HQ.out, HR.out⟩
  | ok r =>
    obtain ⟨xf, nf, cf, xd, nd, cd, xi, ni, ci, rfl, h1, h2, h3⟩ := hm
    obtain ⟨R, hR⟩ : ∃ R, rpA r.st (.slice xf nf cf) (.slice xd nd cd) (.slice xi ni ci) = R := ⟨_, rfl⟩
    have hR4 : R.size = 4 := by rw [← hR]; rfl
    have hR1 : OneC R = true := by rw [← hR]; exact rpA_one _ _ _ _ _ _ _ _ _ _
    have HR : Hid (rpA r.st (.slice xf nf cf) (.slice xd nd cd) (.slice xi ni ci) = R) := hR
    try simp only [hR]
    clear hR
    have st1 := run_store_rp (w1.alloc (.cells (rpA 0 (.slice none 0 0) (.slice none 0 0) (.slice none 0 0)) 32)) w1.heap.size R (RowC.new w1 _ _).1 (by rw [(RowC.new w1 _ _).2]; rfl) hR4 hR1
    have bA := below_alloc w1 (.cells R 32)
    have r5 := r4.kept bA
    have r6 := RowC.new w1 R 32
    have ld := run_load_rp _ w1.heap.size r6.1 (by rw [r6.2]; exact hR4)
    rw [r6.2] at ld
    have st2 := run_store_rp (w1.alloc (.cells R 32)) z R r5.1 (by rw [r5.2]; rfl) hR4 hR1
    have HB : Hid (Below w.heap.size w ((w1.alloc (.cells R 32)).setRow z R)) := below_row (bK.trans (bA.mono bK.size)) (by rw [HZ.out]; exact Nat.le_refl _) _
    have Hz : Hid (RowC ((w1.alloc (.cells R 32)).setRow z R) z R) := r5.setRow _
    have k9 := Keep.mine1 (w1.alloc (.cells R 32)) z R
    have H1 : Hid (OwnK fdE ((w1.alloc (.cells R 32)).setRow z R) w.heap.size (.slice xf nf cf) r.fs) := OwnK.le (OwnK.keeps (h1.keep bA) k9 (fun q hq => by have := (World.ownsRow.lt h1 q hq).1; simp; omega)) b12.size
    have H2 : Hid (OwnK dgE ((w1.alloc (.cells R 32)).setRow z R) w.heap.size (.slice xd nd cd) r.ds) := OwnK.le (OwnK.keeps (h2.keep bA) k9 (fun q hq => by have := (World.ownsRow.lt h2 q hq).1; simp; omega)) b12.size
    have H3 : Hid (OwnI ((w1.alloc (.cells R 32)).setRow z R) w.heap.size (.slice xi ni ci) r.dr) := OwnG.le (OwnG.keepsF (h3.keep bA) k9 (fun q hq => by have := (OwnG.lt h3 q hq).1; simp; omega)) b12.size
    clear r2 r4 r5 r6 hK b12 bK bA zl h1 h2 h3 k9 hR1
    go_wp2
    (try simp only [Exit.inBlock, Exit.then])
    refine rp_ret2 2 3 z _ rfl rfl rfl Hz.out hR4 ?_
    rw [← HR.out]
    rw [← HR.out] at H1 H2 H3 HB
    exact ⟨HB.out, _, _, _, _, _, _, _, _, _, rfl, H1.out, H2.out, H3.out⟩
end Go.Proofs.YtklbdhpnbjhgkaaGreatDoor
