import Derived.Test.YtklbdhpnbjhgkaaGreatDoorQFrf
namespace Go.Proofs.YtklbdhpnbjhgkaaGreatDoor
open Go.RowKit Go.Sort

/-! What Get leaves, as the law holds it -/
def GotO (w : World) (B : Nat) (r : Except (Nat × Nat) Rp) (R : Array Value) (v : Value) : Prop := match r with
  | .ok r => ∃ xf nf cf xd nd cd xi ni ci, R = rpA r.st (.slice xf nf cf) (.slice xd nd cd) (.slice xi ni ci) ∧ v = .nilIface ∧ OwnK fdE w B (.slice xf nf cf) r.fs ∧ OwnK dgE w B (.slice xd nd cd) r.ds ∧ OwnI w B (.slice xi ni ci) r.dr
  | .error p => ∃ q, R = rpA 0 (.slice none 0 0) (.slice none 0 0) (.slice none 0 0) ∧ v = .iface 52 (.pointer (some ⟨q, 0, none⟩)) ∧ B ≤ q ∧ RowC w q (ftA p.1 p.2)
theorem GotO.keeps {w w' : World} {B : Nat} {r : Except (Nat × Nat) Rp} {R : Array Value} {v : Value} {F : List Nat} (h : GotO w B r R v) (hK : Keep F w w') (hF : ∀ q ∈ F, q < B) : GotO w' B r R v := by
  cases r with
  | ok r =>
    obtain ⟨xf, nf, cf, xd, nd, cd, xi, ni, ci, h1, h2, h3, h4, h5⟩ := h
    exact ⟨xf, nf, cf, xd, nd, cd, xi, ni, ci, h1, h2, OwnK.keeps h3 hK (fun q hq hm => by have := (World.ownsRow.lt h3 q hq).1; have := hF q hm; omega), OwnK.keeps h4 hK (fun q hq hm => by have := (World.ownsRow.lt h4 q hq).1; have := hF q hm; omega), OwnG.keepsF h5 hK (fun q hq hm => by have := (OwnG.lt h5 q hq).1; have := hF q hm; omega)⟩
  | error p =>
    obtain ⟨q, h1, h2, h3, h4⟩ := h
    exact ⟨q, h1, h2, h3, h4.keepsF hK (fun hm => by have := hF q hm; omega)⟩
theorem GotO.keep {w w' : World} {B : Nat} {r : Except (Nat × Nat) Rp} {R : Array Value} {v : Value} (h : GotO w B r R v) (hb : Below w.heap.size w w') : GotO w' B r R v := h.keeps (F := []) (Keep.of_below hb) (fun _ hq => by cases hq)
theorem GotO.form {w : World} {B : Nat} {r : Except (Nat × Nat) Rp} {R : Array Value} {v : Value} (h : GotO w B r R v) : R.size = 4 ∧ OneC R = true := by
  cases r with
  | ok r =>
    obtain ⟨xf, nf, cf, xd, nd, cd, xi, ni, ci, rfl, -⟩ := h
    exact ⟨rfl, rpA_one _ _ _ _ _ _ _ _ _ _⟩
  | error p =>
    obtain ⟨q, rfl, -⟩ := h
    exact ⟨rfl, rpA_one _ _ _ _ _ _ _ _ _ _⟩
/-- The lists that Get leaves, whatever it answers. -/
theorem GotO.xs {w : World} {B : Nat} {b : List UInt8} {R : Array Value} {v : Value} (h : GotO w B (getM b) R v) : ∃ st xf nf cf xd nd cd xi ni ci l1 l2 l3, R = rpA st (.slice xf nf cf) (.slice xd nd cd) (.slice xi ni ci) ∧ OwnK fdE w B (.slice xf nf cf) l1 ∧ OwnK dgE w B (.slice xd nd cd) l2 ∧ OwnI w B (.slice xi ni ci) l3 ∧ l1.length = nf ∧ l2.length = nd ∧ l3.length = ni ∧ nf ≤ 65535 ∧ nd ≤ 65535 ∧ ni ≤ 65535 := by
  cases hm : getM b with
  | ok r =>
    rw [hm] at h
    obtain ⟨xf, nf, cf, xd, nd, cd, xi, ni, ci, rfl, -, h3, h4, h5⟩ := h
    obtain ⟨-, hc, -⟩ := getM_ok hm
    obtain ⟨-, ⟨a1, a2, a3⟩, -⟩ := (checkM_zero r).1 hc
    have e1 := h3.cap22 fdE_ok
    have e2 := h4.cap22 dgE_ok
    have e3 := ownI_num h5
    exact ⟨r.st, xf, nf, cf, xd, nd, cd, xi, ni, ci, r.fs, r.ds, r.dr, rfl, h3, h4, h5, e1, e2, e3, by omega, by omega, by omega⟩
  | error p =>
    rw [hm] at h
    obtain ⟨q, rfl, -⟩ := h
    exact ⟨0, none, 0, 0, none, 0, 0, none, 0, 0, [], [], [], rfl, OwnK.nil _ _ _, OwnK.nil _ _ _, World.ownsRow_nil _ _ _ _, rfl, rfl, rfl, by omega, by omega, by omega⟩
theorem got22 (w : World) (x : Option Addr) (n c : Nat) (b : List UInt8) (hb : IsB w (.slice x n c) b) (hn : b.length = n) (hc : n ≤ c) (hs : n ≤ 140737488355328) (hx0 : ∀ a, x = some a → a.block < w.heap.size) :
    Calls Tryz.prog 11 #[.slice x n c] w fun e w' => ∃ R v, e = .returned (.tuple #[.agg R, v]) ∧ GotO w' w.heap.size (getM b) R v ∧ Below w.heap.size w w' := by
  refine (get22 w x n c b hb hn hc hs hx0).mono ?_
  rintro e w' ⟨hB, hq⟩
  cases hm : getM b with
  | ok r =>
    rw [hm] at hq
    obtain ⟨xf, nf, cf, xd, nd, cd, xi, ni, ci, he, h3, h4, h5⟩ := hq
    exact ⟨_, _, he, ⟨xf, nf, cf, xd, nd, cd, xi, ni, ci, rfl, rfl, h3, h4, h5⟩, hB⟩
  | error p =>
    rw [hm] at hq
    obtain ⟨q, he, h1, h2⟩ := hq
    exact ⟨_, _, he, ⟨q, rfl, rfl, h1, h2⟩, hB⟩
set_option linter.unusedSimpArgs false in
set_option maxRecDepth 100000 in
set_option maxHeartbeats 4000000 in
theorem told22 (w : World) (B : Nat) (R : Array Value) (v : Value) (x : Option Addr) (n c : Nat) (b : List UInt8) (hE : ETy w) (hG : GotO w B (getM b) R v) (hb : IsB w (.slice x n c) b) (hn : b.length = n) (hc : n ≤ c) (hs : n ≤ 140737488355328) (hx : ∀ a, x = some a → a.block < w.heap.size) :
    Calls Tryz.prog 18 #[.agg R, v, .slice x n c] w fun e w' => e = .returned (.bool true) ∧ Below w.heap.size w w' := by
  cases hm : getM b with
  | ok r =>
    rw [hm] at hG
    obtain ⟨xf, nf, cf, xd, nd, cd, xi, ni, ci, rfl, rfl, o1, o2, o3⟩ := hG
    have hI := RpI.ofOwn (r := r) o1 o2 o3
    obtain ⟨-, hck, -⟩ := getM_ok hm
    obtain ⟨-, ⟨a1, a2, a3⟩, -⟩ := (checkM_zero r).1 hck
    have n1 : nf ≤ 65535 := by have := hI.nf; omega
    have n2 : nd ≤ 65535 := by have := hI.nd; omega
    have n3 : ni ≤ 65535 := by have := hI.ni; omega
    clear o1 o2 o3 a1 a2 a3 hck
    have b0 := below_alloc w (.cells (rpA r.st (.slice xf nf cf) (.slice xd nd cd) (.slice xi ni ci)) 32)
    have z0 := RowC.new w (rpA r.st (.slice xf nf cf) (.slice xd nd cd) (.slice xi ni ci)) 32
    have hI0 := hI.kept b0
    have hb0 := hb.kept b0
    have HE0 : Hid (ETy _) := hE.later b0
    have HB0 : Hid (Below w.heap.size w (w.alloc (.cells (rpA r.st (.slice xf nf cf) (.slice xd nd cd) (.slice xi ni ci)) 32))) := b0
    have hx1 : ∀ a, x = some a → a.block < (w.alloc (.cells (rpA r.st (.slice xf nf cf) (.slice xd nd cd) (.slice xi ni ci)) 32)).heap.size := fun a ha => Nat.lt_of_lt_of_le (hx a ha) b0.size
    go_enter Tryz.func18, Tryz.ntmps18
    go_upto_region 1 with fail
    obtain ⟨z3, hz3⟩ : ∃ z, w.heap.size = z := ⟨_, rfl⟩
    try simp only [hz3]
    rw [hz3] at z0
    generalize w.alloc (.cells (rpA r.st (.slice xf nf cf) (.slice xd nd cd) (.slice xi ni ci)) 32) = W0 at z0 hI0 hb0 HE0 HB0 hx1 ⊢
    clear hz3 b0 hb hE hx hI
    have hGet := refGet22 W0 x n c b hb0 hn hc hs hx1
    go_wp2_with fail
    refine hGet.mono ?_
    rintro e w1 ⟨b1, hq⟩
    rw [hm] at hq
    clear hGet
    obtain ⟨yf, mf, df, yd, md, dd, yi, mi, di, rfl, p1, p2, p3⟩ := hq
    have hJ := RpI.ofOwn (r := r) p1 p2 p3
    have hI1 := hI0.kept b1
    have e1 : nf = mf := hI1.nf.symm.trans hJ.nf
    have e2 : nd = md := hI1.nd.symm.trans hJ.nd
    have e3 : ni = mi := hI1.ni.symm.trans hJ.ni
    subst e1 e2 e3
    clear p1 p2 p3 hI0
    have st := run_store_rp (w1.alloc (.cells (rpA 0 (.slice none 0 0) (.slice none 0 0) (.slice none 0 0)) 32)) w1.heap.size (rpA r.st (.slice yf nf df) (.slice yd nd dd) (.slice yi ni di)) (RowC.new w1 _ _).1 (by rw [(RowC.new w1 _ _).2]; rfl) rfl (rpA_one _ _ _ _ _ _ _ _ _ _)
    have b2 := below_alloc w1 (.cells (rpA r.st (.slice yf nf df) (.slice yd nd dd) (.slice yi ni di)) 32)
    have r7 := RowC.new w1 (rpA r.st (.slice yf nf df) (.slice yd nd dd) (.slice yi ni di)) 32
    have z2 := (z0.kept b1).kept b2
    have HB2 : Hid (Below w.heap.size w (w1.alloc (.cells (rpA r.st (.slice yf nf df) (.slice yd nd dd) (.slice yi ni di)) 32))) := (HB0.out.trans (b1.mono HB0.out.size)).trans (b2.mono (Nat.le_trans HB0.out.size b1.size))
    have hI2 := hI1.kept b2
    have hJ2 := hJ.kept b2
    have HE2 : Hid (ETy _) := (HE0.out.later b1).later b2
    clear z0 HB0 HE0 b1 b2 hb0 hx1 hI1 hJ
    go_upto_region 2 with fail
    clear st
    obtain ⟨z7, hz7⟩ : ∃ z, w1.heap.size = z := ⟨_, rfl⟩
    rw [hz7] at r7
    try simp only [hz7]
    generalize w1.alloc (.cells (rpA r.st (.slice yf nf df) (.slice yd nd dd) (.slice yi ni di)) 32) = W2 at r7 z2 hI2 hJ2 HE2 HB2 ⊢
    clear hz7
    have hF := fault_nil W2
    go_wp2_with fail
    refine hF.mono ?_
    rintro e u ⟨rfl, rfl⟩
    clear hF
    have ld1 := run_load_rp u z3 z2.1 (by rw [z2.2]; rfl)
    rw [z2.2] at ld1
    have ld2 := run_load_rp u z7 r7.1 (by rw [r7.2]; rfl)
    rw [r7.2] at ld2
    have hA := alike22 u r xf nf cf xd nd cd xi ni ci yf df yd dd yi di hI2 hJ2 (by omega) (by omega) (by omega)
    clear r7 z2 hI2 hJ2
    go_wp2_with fail
    refine hA.mono ?_
    rintro e w5 ⟨rfl, b5⟩
    clear hA ld1 ld2
    go_wp2
    go_ret
    exact ⟨rfl, HB2.out.trans (b5.mono HB2.out.size)⟩
  | error p =>
    obtain ⟨a9, cd⟩ := p
    have hg0 := getRs_is b
    rw [hm] at hG hg0
    have hcd0 : cd ≠ 0 := hg0.1
    obtain ⟨q, rfl, rfl, -, hRq⟩ := hG
    clear hg0
    have b0 := below_alloc w (.cells (rpA 0 (.slice none 0 0) (.slice none 0 0) (.slice none 0 0)) 32)
    have z0 := RowC.new w (rpA 0 (.slice none 0 0) (.slice none 0 0) (.slice none 0 0)) 32
    have hRq0 := hRq.kept b0
    have hb0 := hb.kept b0
    have HE0 : Hid (ETy _) := hE.later b0
    have HB0 : Hid (Below w.heap.size w (w.alloc (.cells (rpA 0 (.slice none 0 0) (.slice none 0 0) (.slice none 0 0)) 32))) := b0
    have hx1 : ∀ a, x = some a → a.block < (w.alloc (.cells (rpA 0 (.slice none 0 0) (.slice none 0 0) (.slice none 0 0)) 32)).heap.size := fun a ha => Nat.lt_of_lt_of_le (hx a ha) b0.size
    go_enter Tryz.func18, Tryz.ntmps18
    go_upto_region 1 with fail
    obtain ⟨z3, hz3⟩ : ∃ z, w.heap.size = z := ⟨_, rfl⟩
    try simp only [hz3]
    rw [hz3] at z0
    generalize w.alloc (.cells (rpA 0 (.slice none 0 0) (.slice none 0 0) (.slice none 0 0)) 32) = W0 at z0 hRq0 hb0 HE0 HB0 hx1 ⊢
    clear hz3 b0 hb hE hx hRq
    have hGet := refGet22 W0 x n c b hb0 hn hc hs hx1
    go_wp2_with fail
    refine hGet.mono ?_
    rintro e w1 ⟨b1, hq⟩
    rw [hm] at hq
    clear hGet
    subst hq
    have hRq1 := hRq0.kept b1
    clear hRq0
    have st := run_store_rp (w1.alloc (.cells (rpA 0 (.slice none 0 0) (.slice none 0 0) (.slice none 0 0)) 32)) w1.heap.size (rpA 0 (.slice none 0 0) (.slice none 0 0) (.slice none 0 0)) (RowC.new w1 _ _).1 (by rw [(RowC.new w1 _ _).2]; rfl) rfl (rpA_one _ _ _ _ _ _ _ _ _ _)
    have b2 := below_alloc w1 (.cells (rpA 0 (.slice none 0 0) (.slice none 0 0) (.slice none 0 0)) 32)
    have r7 := RowC.new w1 (rpA 0 (.slice none 0 0) (.slice none 0 0) (.slice none 0 0)) 32
    have z2 := (z0.kept b1).kept b2
    have HB2 : Hid (Below w.heap.size w (w1.alloc (.cells (rpA 0 (.slice none 0 0) (.slice none 0 0) (.slice none 0 0)) 32))) := (HB0.out.trans (b1.mono HB0.out.size)).trans (b2.mono (Nat.le_trans HB0.out.size b1.size))
    have hRq2 := hRq1.kept b2
    have HE2 : Hid (ETy _) := (HE0.out.later b1).later b2
    clear z0 HB0 HE0 b1 b2 hb0 hx1 hRq1
    go_upto_region 2 with fail
    clear st
    obtain ⟨z7, hz7⟩ : ∃ z, w1.heap.size = z := ⟨_, rfl⟩
    rw [hz7] at r7
    try simp only [hz7]
    generalize w1.alloc (.cells (rpA 0 (.slice none 0 0) (.slice none 0 0) (.slice none 0 0)) 32) = W2 at r7 z2 hRq2 HE2 HB2 ⊢
    clear hz7
    have hF := fault22 q (a9 : Int) (cd : Int) W2 HE2.out hRq2
    go_wp2_with fail
    refine hF.mono ?_
    rintro e u ⟨rfl, b4⟩
    clear hF hRq2
    have z4 := z2.kept b4
    have r8 := r7.kept b4
    have ld1 := run_load_rp u z3 z4.1 (by rw [z4.2]; rfl)
    rw [z4.2] at ld1
    have ld2 := run_load_rp u z7 r8.1 (by rw [r8.2]; rfl)
    rw [r8.2] at ld2
    have hA := alike22 u ⟨0, [], [], []⟩ none 0 0 none 0 0 none 0 0 none 0 none 0 none 0 (rpI_nil u 0) (rpI_nil u 0) (by omega) (by omega) (by omega)
    have hcd : ¬ ((cd : Nat) : Int) = 0 := by omega
    have hcd2 : (((cd : Nat) : Int) == 0) = false := beq_eq_false_iff_ne.2 hcd
    clear r7 z2 z4 r8
    go_wp2_with fail
    refine hA.mono ?_
    rintro e w5 ⟨rfl, b5⟩
    clear hA ld1 ld2
    go_wp2
    go_ret
    exact ⟨rfl, (HB2.out.trans (b4.mono HB2.out.size)).trans (b5.mono (Nat.le_trans HB2.out.size b4.size))⟩
end Go.Proofs.YtklbdhpnbjhgkaaGreatDoor
