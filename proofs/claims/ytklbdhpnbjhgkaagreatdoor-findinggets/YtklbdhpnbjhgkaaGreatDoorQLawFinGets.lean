import Derived.Test.YtklbdhpnbjhgkaaGreatDoorQFri
namespace Go.Proofs.YtklbdhpnbjhgkaaGreatDoor
open Go.RowKit Go.Sort

/-! FindingGets -/
theorem xor_one22 (a : UInt8) : bits .xor .u8 (a.toNat : Int) 1 = ((a ^^^ 1).toNat : Int) := by
  have h : ∀ n : Fin 256, bits .xor .u8 ((UInt8.ofNat n.val).toNat : Int) 1 = ((UInt8.ofNat n.val ^^^ 1).toNat : Int) := by decide +kernel
  have := h ⟨a.toNat, a.toNat_lt⟩
  simpa using this
theorem own_front {w : World} {B go nb co : Nat} {l : List UInt8} {x : UInt8} (h : OwnB w B (.slice (some ⟨go, 0, none⟩) (nb + 1) co) (l ++ [x])) (hn : l.length = nb) : IsB w (.slice (some ⟨go, 0, none⟩) nb co) l := by
  have := h.isB.front9 nb (by rw [List.length_append]; omega)
  rwa [List.take_append_of_le_length (by omega), List.take_of_length_le (by omega)] at this
theorem dg9_lit : dg_secA dg9 = #[.int .u8 9, .int .u8 0, .int .u8 0, .int .u8 0, .int .u8 0, .int .u8 0, .int .u8 0, .int .u8 0, .int .u8 0, .int .u8 0, .int .u8 0, .int .u8 0, .int .u8 0, .int .u8 0, .int .u8 0, .int .u8 0, .int .u8 0, .int .u8 0, .int .u8 0, .int .u8 0, .int .u8 0, .int .u8 0, .int .u8 0, .int .u8 0, .int .u8 0, .int .u8 0, .int .u8 0, .int .u8 0, .int .u8 0, .int .u8 0, .int .u8 0, .int .u8 0] := by kernel_rfl
theorem dg9_store {W W' : World} {g o : Nat} (h : (bigStore 50 (.pointer (some ⟨g, o, none⟩)) (.agg (dg_secA dg9))).run Tryz.prog W = .ok .skip W') : (dg_secStore (.pointer (some ⟨g, o, none⟩)) (.agg #[.int .u8 9, .int .u8 0, .int .u8 0, .int .u8 0, .int .u8 0, .int .u8 0, .int .u8 0, .int .u8 0, .int .u8 0, .int .u8 0, .int .u8 0, .int .u8 0, .int .u8 0, .int .u8 0, .int .u8 0, .int .u8 0, .int .u8 0, .int .u8 0, .int .u8 0, .int .u8 0, .int .u8 0, .int .u8 0, .int .u8 0, .int .u8 0, .int .u8 0, .int .u8 0, .int .u8 0, .int .u8 0, .int .u8 0, .int .u8 0, .int .u8 0, .int .u8 0])).run Tryz.prog W = .ok .skip W' := by
  rw [dg9_lit] at h
  exact h
@[go_sem] theorem dg9_one (W : World) : (dgLit1 (.agg #[.int .u8 9, .int .u8 0, .int .u8 0, .int .u8 0, .int .u8 0, .int .u8 0, .int .u8 0, .int .u8 0, .int .u8 0, .int .u8 0, .int .u8 0, .int .u8 0, .int .u8 0, .int .u8 0, .int .u8 0, .int .u8 0, .int .u8 0, .int .u8 0, .int .u8 0, .int .u8 0, .int .u8 0, .int .u8 0, .int .u8 0, .int .u8 0, .int .u8 0, .int .u8 0, .int .u8 0, .int .u8 0, .int .u8 0, .int .u8 0, .int .u8 0, .int .u8 0])).run Tryz.prog W = .ok (.value (.slice (some ⟨W.heap.size, 0, none⟩) 1 1)) (W.alloc (.cells (dg_secA dg9) 50)) := by
  rw [← dg9_lit]
  exact run_dgLit1 W dg9
/-- A report is got and laid. -/
theorem row_new9 (w : World) (R : Array Value) (h : R.size = 4 ∧ OneC R = true) : (bigStore 32 (.pointer (some ⟨w.heap.size, 0, none⟩)) (.agg R)).run Tryz.prog (w.alloc (.cells (rpA 0 (.slice none 0 0) (.slice none 0 0) (.slice none 0 0)) 32)) = .ok .skip ((w.alloc (.cells (rpA 0 (.slice none 0 0) (.slice none 0 0) (.slice none 0 0)) 32)).setRow w.heap.size R) :=
  run_store_rp (w.alloc (.cells (rpA 0 (.slice none 0 0) (.slice none 0 0) (.slice none 0 0)) 32)) w.heap.size R (RowC.new w _ _).1 (by rw [(RowC.new w _ _).2]; rfl) h.1 h.2
set_option linter.unusedSimpArgs false in
set_option maxRecDepth 100000 in
set_option maxHeartbeats 40000000 in
theorem lawFinGets (w : World) (xb : Option Addr) (nb cb : Nat) (b : List UInt8) (xc : Option Addr) (nc cc : Nat) (b2 : List UInt8) (at_ : Int) (hE : ETy w) (hb : IsB w (.slice xb nb cb) b) (hn : b.length = nb) (hcb : nb ≤ cb) (hxb : ∀ a, xb = some a → a.block < w.heap.size) (s1 : nb ≤ 140737488351232)
    (hc : IsB w (.slice xc nc cc) b2) (hn2 : b2.length = nc) (hcc : nc ≤ cc) (hxc : ∀ a, xc = some a → a.block < w.heap.size) (s2 : nc ≤ 140737488351232) :
    Calls Tryz.prog 6 #[.slice xb nb cb, .slice xc nc cc, .int .i64 at_] w fun e w' => e = .returned (.bool true) ∧ Below w.heap.size w w' := by
  have HB_ : Hid (IsB w (.slice xb nb cb) b ∧ nb ≤ cb ∧ (∀ a, xb = some a → a.block < w.heap.size) ∧ nb ≤ 140737488351232) := ⟨hb, hcb, hxb, s1⟩
  have HC_ : Hid (IsB w (.slice xc nc cc) b2 ∧ nc ≤ cc ∧ (∀ a, xc = some a → a.block < w.heap.size) ∧ nc ≤ 140737488351232) := ⟨hc, hcc, hxc, s2⟩
  have HE : Hid (ETy w) := hE
  clear hb hcb hxb s1 hc hcc hxc s2
  have hT := taken22 w hE
  clear hE
  go_enter Tryz.func6, Tryz.ntmps6
  go_wp2_with fail
  refine hT.mono ?_
  rintro e w0 ⟨rfl, c0⟩
  clear hT
  obtain ⟨v1, w1, hra, hO1, c1⟩ := copyB22 w0 xb nb cb b 33 (HB_.out.1.kept c0) hn (by have := HB_.out; omega)
  have bz := below_alloc w1 (.cells #[.int .u8 126] 5)
  obtain ⟨v2, w2, hra2, hO2, c2, -⟩ := appB22 (w1.alloc (.cells #[.int .u8 126] 5)) w0.heap.size v1 b (some ⟨w1.heap.size, 0, none⟩) 1 1 [126] 33 (hO1.keep bz) rfl ((show rowB (w1.alloc (.cells #[.int .u8 126] 5)) w1.heap.size [126] from heap_alloc_last w1 _).isB 1) (by have := HB_.out; simp; omega) (Nat.le_trans c1.size bz.size)
  obtain ⟨go, co, hv2, -, hcap, -⟩ := OwnB.form hO2 (by simp)
  have hl2 : (b ++ [126]).length = nb + 1 := by rw [List.length_append, hn]; rfl
  rw [hl2] at hv2 hcap
  subst hv2
  have C2 : Hid (Below w.heap.size w w2) := ((c0.trans (c1.mono c0.size)).trans (bz.mono (Nat.le_trans c0.size c1.size))).trans (c2.mono c0.size)
  have HO : Hid (OwnB w2 w0.heap.size (.slice (some ⟨go, 0, none⟩) (nb + 1) co) (b ++ [126]) ∧ nb + 1 ≤ co ∧ w.heap.size ≤ w0.heap.size) := ⟨hO2, hcap, c0.size⟩
  have hgo : go < w2.heap.size := (OwnB.lt22 hO2 go rfl).2
  have cap1 : (nb : Int) ≤ (co : Int) := by omega
  have cap0 : (0 : Int) ≤ (nb : Int) := by omega
  have hG := got22 w2 (some ⟨go, 0, none⟩) nb co b (own_front hO2 hn) hn (by omega) (by have := HB_.out; omega) (fun a ha => by cases ha; exact hgo)
  clear hO1 hO2 c0 c1 bz c2 hl2
  go_wp2_with (first | (at_builtin; refine wpL_appG 33 rfl _ _ rfl _ w1 (by exact hra) ?_) | (at_builtin; refine wpL_appG 33 rfl _ _ rfl _ w2 (by exact hra2) ?_))
  refine hG.mono ?_
  rintro e w3 ⟨Rx, ex, rfl, gx0, c3⟩
  clear hG hra hra2
  have st := row_new9 w3 Rx gx0.form
  have c4 := below_alloc w3 (.cells Rx 32)
  have rx := RowC.new w3 Rx 32
  have gx1 := gx0.keep c4
  have C24 : Hid (Below w2.heap.size w2 (w3.alloc (.cells Rx 32))) := c3.trans (c4.mono c3.size)
  have FX : Hid (Rx.size = 4 ∧ OneC Rx = true) := gx0.form
  have hs3 : Hid (w2.heap.size ≤ w3.heap.size) := c3.size
  have HX0 : Hid (∀ st v1 v2 v3, Rx = rpA st v1 v2 v3 → ∀ q, (v1.ownBlock = some q ∨ v2.ownBlock = some q ∨ v3.ownBlock = some q) → w2.heap.size ≤ q ∧ q < w3.heap.size) := gx0.lts
  clear gx0 c3 c4
  go_upto_region 5 with fail
  clear st
  obtain ⟨gx, hgx⟩ : ∃ z, w3.heap.size = z := ⟨_, rfl⟩
  have HGX : Hid (w2.heap.size ≤ gx) := by have := hs3.out; show _ ≤ _; omega
  rw [hgx] at rx HX0
  try simp only [hgx]
  generalize w3.alloc (.cells Rx 32) = w4 at rx gx1 C24 ⊢
  clear hgx hs3
  obtain ⟨v5, w5, hra, hO5, c5⟩ := copyB22 w4 xc nc cc b2 33 ((HC_.out.1.kept C2.out).kept C24.out) hn2 (by have := HC_.out; omega)
  obtain ⟨x5, k5, rfl, hc5, hx5⟩ := hO5.slice22
  rw [hn2] at hra hO5 hc5
  have hG := got22 w5 x5 nc k5 b2 hO5.isB hn2 hc5 (by have := HC_.out; omega) hx5
  have rx5 := rx.kept c5
  have gx5 := gx1.keep c5
  have C25 : Hid (Below w2.heap.size w2 w5) := C24.out.trans (c5.mono C24.out.size)
  have HGL : Hid (gx < w5.heap.size) := Nat.lt_of_lt_of_le rx.lt c5.size
  clear rx gx1 C24 c5 hO5 hc5 hx5
  go_wp2_with (first | (at_builtin; refine wpL_appG 33 rfl _ _ rfl _ w5 (by exact hra) ?_))
  try simp only [hn2]
  refine hG.mono ?_
  rintro e w6 ⟨Ry, ey, rfl, gy0, c6⟩
  clear hG hra
  have st := row_new9 w6 Ry gy0.form
  have c7 := below_alloc w6 (.cells Ry 32)
  have ry := RowC.new w6 Ry 32
  have gy1 := gy0.keep c7
  have rx7 := (rx5.kept c6).kept c7
  have gx7 := (gx5.keep c6).keep c7
  have C27 : Hid (Below w2.heap.size w2 (w6.alloc (.cells Ry 32))) := (C25.out.trans (c6.mono C25.out.size)).trans (c7.mono (Nat.le_trans C25.out.size c6.size))
  have FY : Hid (Ry.size = 4 ∧ OneC Ry = true) := gy0.form
  have HGY : Hid (gx < w6.heap.size) := Nat.lt_of_lt_of_le HGL.out c6.size
  clear gy0 c6 c7 rx5 gx5 C25
  go_upto_region 6 with fail
  clear st
  obtain ⟨gy, hgy⟩ : ∃ z, w6.heap.size = z := ⟨_, rfl⟩
  rw [hgy] at ry HGY
  try simp only [hgy]
  generalize w6.alloc (.cells Ry 32) = w7 at ry gy1 rx7 gx7 C27 ⊢
  clear hgy
  have hG := got22 w7 (some ⟨go, 0, none⟩) nb co b (own_front (HO.out.1.keep C27.out) hn) hn (by have := HO.out; omega) (by have := HB_.out; omega) (fun a ha => by cases ha; exact Nat.lt_of_lt_of_le hgo C27.out.size)
  go_wp2_with fail
  refine hG.mono ?_
  rintro e w8 ⟨Rz, ez, rfl, gz0, c8⟩
  clear hG
  have st := row_new9 w8 Rz gz0.form
  have c9 := below_alloc w8 (.cells Rz 32)
  have c79 := c8.trans (c9.mono c8.size)
  have rz := RowC.new w8 Rz 32
  have gz1 := gz0.keep c9
  have rx9 := rx7.kept c79
  have gx9 := gx7.keep c79
  have ry9 := ry.kept c79
  have gy9 := gy1.keep c79
  have C29 : Hid (Below w2.heap.size w2 (w8.alloc (.cells Rz 32))) := C27.out.trans (c79.mono C27.out.size)
  have FZ : Hid (Rz.size = 4 ∧ OneC Rz = true) := gz0.form
  have HGZ : Hid (gx < w8.heap.size) := Nat.lt_of_lt_of_le rx7.lt c8.size
  have HGW : Hid (gx < w7.heap.size) := rx7.lt
  clear gz0 c8 c9 c79 rx7 gx7 ry gy1 C27
  go_upto_region 7 with fail
  clear st
  obtain ⟨gz, hgz⟩ : ∃ z, w8.heap.size = z := ⟨_, rfl⟩
  rw [hgz] at rz HGZ
  try simp only [hgz]
  generalize w8.alloc (.cells Rz 32) = w9 at rz gz1 rx9 gx9 ry9 gy9 C29 ⊢
  clear hgz
  have ld := run_load_rp w9 gx rx9.1 (by rw [rx9.2]; exact FX.out.1)
  rw [rx9.2] at ld
  have hTl := told22 w9 _ Rx ex xb nb cb b (HE.out.later (C2.out.trans (C29.out.mono C2.out.size))) gx9 ((HB_.out.1.kept C2.out).kept C29.out) hn HB_.out.2.1 (by have := HB_.out; omega) (fun a ha => Nat.lt_of_lt_of_le (HB_.out.2.2.1 a ha) (Nat.le_trans C2.out.size C29.out.size))
  go_wp2_with fail
  refine hTl.mono ?_
  rintro e w10 ⟨rfl, c10⟩
  clear hTl ld
  have rx10 := rx9.kept c10
  have gx10 := gx9.keep c10
  have ry10 := ry9.kept c10
  have gy10 := gy9.keep c10
  have rz10 := rz.kept c10
  have gz10 := gz1.keep c10
  have C2a : Hid (Below w2.heap.size w2 w10) := C29.out.trans (c10.mono C29.out.size)
  clear rx9 gx9 ry9 gy9 rz gz1 C29 c10
  have ld := run_load_rp w10 gy ry10.1 (by rw [ry10.2]; exact FY.out.1)
  rw [ry10.2] at ld
  have hTl := told22 w10 _ Ry ey xc nc cc b2 (HE.out.later (C2.out.trans (C2a.out.mono C2.out.size))) gy10 ((HC_.out.1.kept C2.out).kept C2a.out) hn2 HC_.out.2.1 (by have := HC_.out; omega) (fun a ha => Nat.lt_of_lt_of_le (HC_.out.2.2.1 a ha) (Nat.le_trans C2.out.size C2a.out.size))
  go_wp2_with fail
  refine hTl.mono ?_
  rintro e w11 ⟨rfl, c11⟩
  clear hTl ld
  have rx11 := rx10.kept c11
  have gx11 := gx10.keep c11
  have ry11 := ry10.kept c11
  have gy11 := gy10.keep c11
  have rz11 := rz10.kept c11
  have gz11 := gz10.keep c11
  have C2b : Hid (Below w2.heap.size w2 w11) := C2a.out.trans (c11.mono C2a.out.size)
  clear rx10 gx10 ry10 gy10 rz10 gz10 C2a c11
  have ld := run_load_rp w11 gz rz11.1 (by rw [rz11.2]; exact FZ.out.1)
  rw [rz11.2] at ld
  have hTl := told22 w11 _ Rz ez xb nb cb b (HE.out.later (C2.out.trans (C2b.out.mono C2.out.size))) gz11 ((HB_.out.1.kept C2.out).kept C2b.out) hn HB_.out.2.1 (by have := HB_.out; omega) (fun a ha => Nat.lt_of_lt_of_le (HB_.out.2.2.1 a ha) (Nat.le_trans C2.out.size C2b.out.size))
  go_wp2_with fail
  refine hTl.mono ?_
  rintro e W0 ⟨rfl, c12⟩
  clear hTl ld
  have rx12 := rx11.kept c12
  have gx12 := gx11.keep c12
  have RY : Hid (RowC W0 gy Ry) := ry11.kept c12
  have GY : Hid (GotO W0 w5.heap.size (getM b2) Ry ey) := gy11.keep c12
  have RZ : Hid (RowC W0 gz Rz) := rz11.kept c12
  have GZ : Hid (GotO W0 w7.heap.size (getM b) Rz ez) := gz11.keep c12
  have C2c : Hid (Below w2.heap.size w2 W0) := C2b.out.trans (c12.mono C2b.out.size)
  clear rx11 gx11 ry11 gy11 rz11 gz11 C2b c12
  have s1 := (own_front (HO.out.1.keep C2c.out) hn).str
  have s2 := ((HB_.out.1.kept C2.out).kept C2c.out).str
  have mk := OwnB.cellB (HO.out.1.keep C2c.out) nb (by rw [List.length_append, hn]; simp)
  have mk1 : lB (b ++ [126]) nb = 126 := by unfold lB; rw [List.getElem?_append_right (by omega), hn, Nat.sub_self]; rfl
  rw [mk1] at mk
  have wn : IntKind.i64.wrap ((nb : Int) + 1) = (nb : Int) + 1 := by rw [IntKind.wrap_i64]; have := HB_.out; omega
  have cap2 : (nb : Int) + 1 ≤ (co : Int) := by have := HO.out.2.1; omega
  have cap3 : (nb : Int) < (nb : Int) + 1 := by omega
  clear mk1
  go_wp2
  obtain ⟨st, xf, nf, cf, xd, nd, cd, xi, ni, ci, l1, l2, l3, hRx, o1, o2, o3, n1, n2, n3, m1, m2, m3⟩ := gx12.xs
  have hlt := HX0.out _ _ _ _ hRx
  subst hRx
  obtain ⟨Fl, hFl⟩ : ∃ z, z = gx :: ((Value.slice xf nf cf).ownBlock.toList ++ ((Value.slice xd nd cd).ownBlock.toList ++ (Value.slice xi ni ci).ownBlock.toList)) := ⟨_, rfl⟩
  have HF : Hid (∀ q ∈ Fl, w2.heap.size ≤ q ∧ q ≤ gx) := by
    intro q hq
    rw [hFl] at hq
    rcases List.mem_cons.1 hq with hq | hq
    · have := HGX.out; omega
    · have h9 : w2.heap.size ≤ q ∧ q < gx := by
        rcases List.mem_append.1 hq with hq | hq
        · exact hlt q (.inl (by simpa using hq))
        · rcases List.mem_append.1 hq with hq | hq
          · exact hlt q (.inr (.inl (by simpa using hq)))
          · exact hlt q (.inr (.inr (by simpa using hq)))
      omega
  have HI : Hid (XI W0 W0 Fl w2.heap.size gx st (.slice xf nf cf) (.slice xd nd cd) (.slice xi ni ci) nf nd ni 0) := ⟨l1, l2, l3, n1, n2, n3, fun j hj => by omega, Keep.refl _ _, rx12, o1, o2, o3,
    fun q hq => ⟨.inl (by rw [hFl]; exact List.mem_cons_of_mem _ (List.mem_append_left _ (by rw [hq]; simp))), by have := (hlt q (.inl hq)).2; omega⟩,
    fun q hq => ⟨.inl (by rw [hFl]; exact List.mem_cons_of_mem _ (List.mem_append_right _ (List.mem_append_left _ (by rw [hq]; simp)))), by have := (hlt q (.inr (.inl hq))).2; omega⟩,
    fun q hq => ⟨.inl (by rw [hFl]; exact List.mem_cons_of_mem _ (List.mem_append_right _ (List.mem_append_right _ (by rw [hq]; simp)))), by have := (hlt q (.inr (.inr hq))).2; omega⟩,
    by rw [hFl]; exact List.mem_cons_self, C2c.out.size⟩
  have NS : Hid (nf ≤ 65535 ∧ nd ≤ 65535 ∧ ni ≤ 65535) := ⟨m1, m2, m3⟩
  clear o1 o2 o3 n1 n2 n3 m1 m2 m3 rx12 gx12 hFl hlt s1 s2 mk wn cap2 cap3 HX0
  go_loopw [14] (fun iv wr => ∃ i : Nat, i ≤ nf ∧ iv = .int .i64 (i : Int) ∧ XI W0 wr Fl w2.heap.size gx st (.slice xf nf cf) (.slice xd nd cd) (.slice xi ni ci) nf nd ni 0) (fun iv _ => nf - (intOf iv).toNat)
  case atStart => exact ⟨0, by omega, rfl, HI.out⟩
  case round =>
    clear HI
    obtain ⟨i, hi, rfl, hX⟩ := hrel
    have cc1 := hX.c1
    by_cases hlt : i < nf
    · have i0 : (0 : Int) ≤ (i : Int) := by omega
      have i1 : (i : Int) < (nf : Int) := by omega
      have wi : IntKind.i64.wrap ((i : Int) + 1) = (i : Int) + 1 := by rw [IntKind.wrap_i64]; have := NS.out; omega
      obtain ⟨g, u, hg, zc, fz, hX2⟩ := hX.mark1 i hlt
      subst hg
      have HR : Hid (XI W0 (wr.setCell ⟨g, i * 2, none⟩ (.int .i64 (-1))) Fl w2.heap.size gx st (.slice (some ⟨g, 0, none⟩) nf cf) (.slice xd nd cd) (.slice xi ni ci) nf nd ni 0) := hX2
      clear hX hX2
      go_wp2
      go_roundw
      case rel => exact ⟨i + 1, by omega, by go_num, HR.out⟩
      case measure => simp [intOf]; omega
    · obtain rfl : nf = i := by omega
      have i1 : ¬ (nf : Int) < (nf : Int) := by omega
      have HI1 : Hid (_) := hX
      obtain ⟨W1, rfl⟩ : ∃ q, q = wr := ⟨_, rfl⟩
      clear hX hlt hi
      go_wp2
      clear cc1 i1
      go_loopw [15] (fun iv wr => ∃ i : Nat, i ≤ nd ∧ iv = .int .i64 (i : Int) ∧ XI W0 wr Fl w2.heap.size gx st (.slice xf nf cf) (.slice xd nd cd) (.slice xi ni ci) nf nd ni 0) (fun iv _ => nd - (intOf iv).toNat)
      case atStart => exact ⟨0, by omega, rfl, HI1.out⟩
      case round =>
        clear HI1
        obtain ⟨i, hi, rfl, hX⟩ := hrel
        have cc2 := hX.c2
        by_cases hlt : i < nd
        · have i0 : (0 : Int) ≤ (i : Int) := by omega
          have i1 : (i : Int) < (nd : Int) := by omega
          have wi : IntKind.i64.wrap ((i : Int) + 1) = (i : Int) + 1 := by rw [IntKind.wrap_i64]; have := NS.out; omega
          obtain ⟨g, w9, hg, hst0, hX2⟩ := hX.mark2 i dg9 hlt
          subst hg
          have hst := dg9_store hst0
          clear hst0
          have HR : Hid (XI W0 w9 Fl w2.heap.size gx st (.slice xf nf cf) (.slice (some ⟨g, 0, none⟩) nd cd) (.slice xi ni ci) nf nd ni 0) := hX2
          clear hX hX2
          go_wp2
          go_roundw
          case rel => exact ⟨i + 1, by omega, by go_num, HR.out⟩
          case measure => simp [intOf]; omega
        · obtain rfl : nd = i := by omega
          have i1 : ¬ (nd : Int) < (nd : Int) := by omega
          have HI2 : Hid (_) := hX
          obtain ⟨W2, rfl⟩ : ∃ q, q = wr := ⟨_, rfl⟩
          clear hX hlt hi
          go_wp2
          clear cc2 i1
          go_loopw [16] (fun iv wr => ∃ i : Nat, i ≤ ni ∧ iv = .int .i64 (i : Int) ∧ XI W0 wr Fl w2.heap.size gx st (.slice xf nf cf) (.slice xd nd cd) (.slice xi ni ci) nf nd ni i) (fun iv _ => ni - (intOf iv).toNat)
          case atStart => exact ⟨0, by omega, rfl, HI2.out⟩
          case round =>
            clear HI2
            obtain ⟨i, hi, rfl, hX⟩ := hrel
            have cc3 := hX.c3
            by_cases hlt : i < ni
            · have i0 : (0 : Int) ≤ (i : Int) := by omega
              have i1 : (i : Int) < (ni : Int) := by omega
              have wi : IntKind.i64.wrap ((i : Int) + 1) = (i : Int) + 1 := by rw [IntKind.wrap_i64]; have := NS.out; omega
              obtain ⟨g, u, hg, zc, fz, hX2⟩ := hX.mark3 hlt
              subst hg
              have HR : Hid (XI W0 (wr.setCell ⟨g, i, none⟩ (.int .i64 (-1))) Fl w2.heap.size gx st (.slice xf nf cf) (.slice xd nd cd) (.slice (some ⟨g, 0, none⟩) ni ci) nf nd ni (i + 1)) := hX2
              clear hX hX2
              go_wp2
              go_roundw
              case rel => exact ⟨i + 1, by omega, by go_num, HR.out⟩
              case measure => simp [intOf]; omega
            · obtain rfl : ni = i := by omega
              have i1 : ¬ (ni : Int) < (ni : Int) := by omega
              have HI3 : Hid (_) := hX
              obtain ⟨W3, rfl⟩ : ∃ q, q = wr := ⟨_, rfl⟩
              clear hX hlt hi
              go_wp2
              clear cc3 i1
              go_loopw [17] (fun iv wr => ∃ (i : Nat) (px : Option Addr) (pc : Nat), i ≤ 9 ∧ iv = .int .i64 (i : Int) ∧ XI W0 wr Fl w2.heap.size gx st (.slice px (nf + i) pc) (.slice xd nd cd) (.slice xi ni ci) (nf + i) nd ni ni) (fun iv _ => 9 - (intOf iv).toNat)
              case atStart => exact ⟨0, xf, cf, by omega, rfl, HI3.out⟩
              case round =>
                clear HI3
                obtain ⟨i, px, pc, hi, rfl, hX⟩ := hrel
                have cc1 := hX.c1
                by_cases hlt : i < 9
                · have i1 : (i : Int) < 9 := by omega
                  have wi : IntKind.i64.wrap ((i : Int) + 1) = (i : Int) + 1 := by rw [IntKind.wrap_i64]; omega
                  obtain ⟨g, c', w3, hr3, zc, fz, hX2⟩ := hX.grow1 (-1, 0) (by have := NS.out; omega)
                  have HR : Hid (XI W0 (w3.setCell ⟨gx, 1, none⟩ (.slice (some ⟨g, 0, none⟩) (nf + i + 1) c')) Fl w2.heap.size gx st (.slice (some ⟨g, 0, none⟩) (nf + (i + 1)) c') (.slice xd nd cd) (.slice xi ni ci) (nf + (i + 1)) nd ni ni) := hX2
                  obtain ⟨z, hz⟩ : ∃ q, wr.heap.size = q := ⟨_, rfl⟩
                  rw [hz] at hr3
                  clear hX hX2
                  go_wp2_with (at_builtin; refine wpL_appG 22 rfl _ _ rfl _ w3 (by exact hr3) ?_)
                  go_roundw
                  case rel => first | exact ⟨i + 1, some ⟨g, 0, none⟩, c', by omega, by go_num, HR.out⟩ | ((repeat apply Exists.intro); refine ⟨⟨i + 1, some ⟨g, 0, none⟩, c', by omega, ?_, HR.out⟩, rfl⟩; go_num)
                  case measure => simp [intOf]; omega
                · obtain rfl : i = 9 := by omega
                  have i1 : ¬ ((9 : Nat) : Int) < 9 := by omega
                  obtain ⟨p1x, rfl⟩ : ∃ q, q = px := ⟨_, rfl⟩
                  obtain ⟨p1c, rfl⟩ : ∃ q, q = pc := ⟨_, rfl⟩
                  have HI4 : Hid (_) := hX
                  obtain ⟨W4, rfl⟩ : ∃ q, q = wr := ⟨_, rfl⟩
                  clear hX hlt hi cc1
                  go_wp2
                  clear i1
                  go_loopw [18] (fun iv wr => ∃ (i : Nat) (px : Option Addr) (pc : Nat), i ≤ 9 ∧ iv = .int .i64 (i : Int) ∧ XI W0 wr Fl w2.heap.size gx st (.slice p1x (nf + 9) p1c) (.slice px (nd + i) pc) (.slice xi ni ci) (nf + 9) (nd + i) ni ni) (fun iv _ => 9 - (intOf iv).toNat)
                  case atStart => exact ⟨0, xd, cd, by omega, rfl, HI4.out⟩
                  case round =>
                    clear HI4
                    obtain ⟨i, px, pc, hi, rfl, hX⟩ := hrel
                    have cc2 := hX.c2
                    by_cases hlt : i < 9
                    · have i1 : (i : Int) < 9 := by omega
                      have wi : IntKind.i64.wrap ((i : Int) + 1) = (i : Int) + 1 := by rw [IntKind.wrap_i64]; omega
                      obtain ⟨g, c', w3, hr3, zc, fz, hX2⟩ := hX.grow2 dg9 (by have := NS.out; omega)
                      have HR : Hid (XI W0 (w3.setCell ⟨gx, 2, none⟩ (.slice (some ⟨g, 0, none⟩) (nd + i + 1) c')) Fl w2.heap.size gx st (.slice p1x (nf + 9) p1c) (.slice (some ⟨g, 0, none⟩) (nd + (i + 1)) c') (.slice xi ni ci) (nf + 9) (nd + (i + 1)) ni ni) := hX2
                      obtain ⟨z, hz⟩ : ∃ q, wr.heap.size = q := ⟨_, rfl⟩
                      rw [hz] at hr3
                      clear hX hX2
                      go_wp2_with (at_builtin; refine wpL_appG 29 rfl _ _ rfl _ w3 (by exact hr3) ?_)
                      go_roundw
                      case rel => first | exact ⟨i + 1, some ⟨g, 0, none⟩, c', by omega, by go_num, HR.out⟩ | ((repeat apply Exists.intro); refine ⟨⟨i + 1, some ⟨g, 0, none⟩, c', by omega, ?_, HR.out⟩, rfl⟩; go_num)
                      case measure => simp [intOf]; omega
                    · obtain rfl : i = 9 := by omega
                      have i1 : ¬ ((9 : Nat) : Int) < 9 := by omega
                      obtain ⟨p2x, rfl⟩ : ∃ q, q = px := ⟨_, rfl⟩
                      obtain ⟨p2c, rfl⟩ : ∃ q, q = pc := ⟨_, rfl⟩
                      have HI5 : Hid (_) := hX
                      obtain ⟨W5, rfl⟩ : ∃ q, q = wr := ⟨_, rfl⟩
                      clear hX hlt hi cc2
                      go_wp2
                      clear i1
                      go_loopw [19] (fun iv wr => ∃ (i : Nat) (px : Option Addr) (pc : Nat), i ≤ 9 ∧ iv = .int .i64 (i : Int) ∧ XI W0 wr Fl w2.heap.size gx st (.slice p1x (nf + 9) p1c) (.slice p2x (nd + 9) p2c) (.slice px (ni + i) pc) (nf + 9) (nd + 9) (ni + i) (ni + i)) (fun iv _ => 9 - (intOf iv).toNat)
                      case atStart => exact ⟨0, xi, ci, by omega, rfl, HI5.out⟩
                      case round =>
                        clear HI5
                        obtain ⟨i, px, pc, hi, rfl, hX⟩ := hrel
                        have cc3 := hX.c3
                        by_cases hlt : i < 9
                        · have i1 : (i : Int) < 9 := by omega
                          have wi : IntKind.i64.wrap ((i : Int) + 1) = (i : Int) + 1 := by rw [IntKind.wrap_i64]; omega
                          obtain ⟨g, c', w3, hr3, zc, fz, hX2⟩ := hX.grow3 (by have := NS.out; omega)
                          have HR : Hid (XI W0 (w3.setCell ⟨gx, 3, none⟩ (.slice (some ⟨g, 0, none⟩) (ni + i + 1) c')) Fl w2.heap.size gx st (.slice p1x (nf + 9) p1c) (.slice p2x (nd + 9) p2c) (.slice (some ⟨g, 0, none⟩) (ni + (i + 1)) c') (nf + 9) (nd + 9) (ni + (i + 1)) (ni + (i + 1))) := hX2
                          obtain ⟨z, hz⟩ : ∃ q, wr.heap.size = q := ⟨_, rfl⟩
                          rw [hz] at hr3
                          clear hX hX2
                          go_wp2_with (at_builtin; refine wpL_appG 30 rfl _ _ rfl _ w3 (by exact hr3) ?_)
                          go_roundw
                          case rel => first | exact ⟨i + 1, some ⟨g, 0, none⟩, c', by omega, by go_num, HR.out⟩ | ((repeat apply Exists.intro); refine ⟨⟨i + 1, some ⟨g, 0, none⟩, c', by omega, ?_, HR.out⟩, rfl⟩; go_num)
                          case measure => simp [intOf]; omega
                        · obtain rfl : i = 9 := by omega
                          have i1 : ¬ ((9 : Nat) : Int) < 9 := by omega
                          obtain ⟨p3x, rfl⟩ : ∃ q, q = px := ⟨_, rfl⟩
                          obtain ⟨p3c, rfl⟩ : ∃ q, q = pc := ⟨_, rfl⟩
                          have HI6 : Hid (_) := hX
                          obtain ⟨W6, rfl⟩ : ∃ q, q = wr := ⟨_, rfl⟩
                          clear hX hlt hi cc3
                          go_wp2
                          clear i1
                          go_loopw [20] (fun iv wr => ∃ i : Nat, i ≤ ni + 9 ∧ iv = .int .i64 (i : Int) ∧ XI W0 wr Fl w2.heap.size gx st (.slice p1x (nf + 9) p1c) (.slice p2x (nd + 9) p2c) (.slice p3x (ni + 9) p3c) (nf + 9) (nd + 9) (ni + 9) (ni + 9)) (fun iv _ => ni + 9 - (intOf iv).toNat)
                          case atStart => exact ⟨0, by omega, rfl, HI6.out⟩
                          case round =>
                            clear HI6
                            obtain ⟨i, hi, rfl, hX⟩ := hrel
                            have cc3 := hX.c3
                            by_cases hlt : i < ni + 9
                            · have i0 : (0 : Int) ≤ (i : Int) := by omega
                              have i1 : (i : Int) < (ni : Int) + 9 := by omega
                              have wi : IntKind.i64.wrap ((i : Int) + 1) = (i : Int) + 1 := by rw [IntKind.wrap_i64]; have := NS.out; omega
                              obtain ⟨g, hg, zc⟩ := hX.spot3 hlt
                              subst hg
                              have HR : Hid (XI W0 wr Fl w2.heap.size gx st (.slice p1x (nf + 9) p1c) (.slice p2x (nd + 9) p2c) (.slice (some ⟨g, 0, none⟩) (ni + 9) p3c) (nf + 9) (nd + 9) (ni + 9) (ni + 9)) := hX
                              clear hX
                              go_wp2
                              go_roundw
                              case rel => exact ⟨i + 1, by omega, by go_num, HR.out⟩
                              case measure => simp [intOf]; omega
                            · obtain rfl : i = ni + 9 := by omega
                              have i1 : ¬ ((ni : Int) + 9) < ((ni : Int) + 9) := by omega
                              have i2 : ¬ (((ni + 9 : Nat) : Int)) < ((ni : Int) + 9) := by omega
                              have hK := hX.kept
                              obtain ⟨X0, rfl⟩ : ∃ q, q = wr := ⟨_, rfl⟩
                              clear hX hlt hi
                              have D0 : Hid (Below w2.heap.size w2 X0) := C2c.out.trans (hK.below (fun q hq => (HF.out q hq).1) C2c.out.size)
                              have ry0 := RY.out.keepsF hK (fun hm => by have := (HF.out _ hm).2; have := HGY.out; omega)
                              have rz0 := RZ.out.keepsF hK (fun hm => by have := (HF.out _ hm).2; have := HGZ.out; omega)
                              have gy0 := GY.out.keeps hK (fun q hq => by have := (HF.out _ hq).2; have := HGL.out; omega)
                              have gz0 := GZ.out.keeps hK (fun q hq => by have := (HF.out _ hq).2; have := HGW.out; omega)
                              clear hK RY RZ GY GZ C2c HF
                              have ld := run_load_rp X0 gz rz0.1 (by rw [rz0.2]; exact FZ.out.1)
                              rw [rz0.2] at ld
                              have hTl := told22 X0 _ Rz ez xb nb cb b (HE.out.later (C2.out.trans (D0.out.mono C2.out.size))) gz0 ((HB_.out.1.kept C2.out).kept D0.out) hn HB_.out.2.1 (by have := HB_.out; omega) (fun a ha => Nat.lt_of_lt_of_le (HB_.out.2.2.1 a ha) (Nat.le_trans C2.out.size D0.out.size))
                              go_wp2_with fail
                              refine hTl.mono ?_
                              rintro e X1 ⟨rfl, d1⟩
                              clear hTl ld cc3 i1 i2
                              have ry1 := ry0.kept d1
                              have gy1 := gy0.keep d1
                              have D1 : Hid (Below w2.heap.size w2 X1) := D0.out.trans (d1.mono D0.out.size)
                              clear ry0 gy0 rz0 gz0 D0 d1
                              have ld := run_load_rp X1 gy ry1.1 (by rw [ry1.2]; exact FY.out.1)
                              rw [ry1.2] at ld
                              have hTl := told22 X1 _ Ry ey xc nc cc b2 (HE.out.later (C2.out.trans (D1.out.mono C2.out.size))) gy1 ((HC_.out.1.kept C2.out).kept D1.out) hn2 HC_.out.2.1 (by have := HC_.out; omega) (fun a ha => Nat.lt_of_lt_of_le (HC_.out.2.2.1 a ha) (Nat.le_trans C2.out.size D1.out.size))
                              go_wp2_with fail
                              refine hTl.mono ?_
                              rintro e X2 ⟨rfl, d2⟩
                              clear hTl ld ry1 gy1
                              have D2 : Hid (Below w2.heap.size w2 X2) := D1.out.trans (d2.mono D1.out.size)
                              clear D1 d2
                              have D2w : Hid (Below w.heap.size w X2) := C2.out.trans (D2.out.mono C2.out.size)
                              by_cases ha : at_ < 0
                              · go_wp2
                                go_ret
                                exact ⟨rfl, D2w.out⟩
                              · by_cases ha2 : (nb : Int) ≤ at_
                                · go_wp2
                                  go_ret
                                  exact ⟨rfl, D2w.out⟩
                                · obtain ⟨m, rfl⟩ : ∃ m : Nat, at_ = (m : Int) := ⟨at_.toNat, by omega⟩
                                  have hmn : m < nb := by omega
                                  have ow := HO.out.1.keep D2.out
                                  have hG := got22 X2 (some ⟨go, 0, none⟩) nb co b (own_front ow hn) hn (by have := HO.out; omega) (by have := HB_.out; omega) (fun a ha9 => by cases ha9; exact Nat.lt_of_lt_of_le hgo D2.out.size)
                                  clear D2
                                  go_wp2_with fail
                                  refine hG.mono ?_
                                  rintro e X3 ⟨R9, e9, rfl, -, d3⟩
                                  clear hG
                                  have ow3 := ow.keep d3
                                  have D3w : Hid (Below w.heap.size w X3) := D2w.out.trans (d3.mono D2w.out.size)
                                  clear ow d3 D2w
                                  have hl9 : (b ++ [126]).length = nb + 1 := by rw [List.length_append, hn]; rfl
                                  have zc := OwnB.cellB ow3 m (by omega)
                                  have fz := ow3.softB m
                                  obtain ⟨u, hu⟩ : ∃ u, lB (b ++ [126]) m = u := ⟨_, rfl⟩
                                  rw [hu] at zc
                                  have hxor := xor_one22 u
                                  obtain ⟨u1, hu1⟩ : ∃ z, u ^^^ 1 = z := ⟨_, rfl⟩
                                  rw [hu1] at hxor
                                  clear hu1
                                  have ow4 := ow3.setB hl9 m u1
                                  obtain ⟨b9, hb9⟩ : ∃ z, b.set m u1 = z := ⟨_, rfl⟩
                                  have hn9 : b9.length = nb := by rw [← hb9, List.length_set]; exact hn
                                  rw [List.set_append_left _ _ (by omega), hb9] at ow4
                                  have D4w : Hid (Below w.heap.size w (X3.setCell ⟨go, m, none⟩ (.int .u8 (u1.toNat : Int)))) := D3w.out.setCell (by have := (OwnB.lt22 ow3 go rfl).1; have := HO.out.2.2; show w.heap.size ≤ go; omega) _
                                  have m0 : (0 : Int) ≤ (m : Int) := by omega
                                  have m1 : (m : Int) < (nb : Int) := by omega
                                  clear ow3 D3w hl9 hu hb9
                                  go_upto_region 44 with fail
                                  clear zc fz hxor
                                  generalize X3.setCell ⟨go, m, none⟩ (.int .u8 (u1.toNat : Int)) = X4 at ow4 D4w ⊢
                                  obtain ⟨v5', X5, hra, hO5, d5⟩ := copyB22 X4 (some ⟨go, 0, none⟩) nb co b9 33 (own_front ow4 hn9) hn9 (by have := HB_.out; omega)
                                  obtain ⟨x6, k6, rfl, hc6, hx6⟩ := hO5.slice22
                                  rw [hn9] at hra hO5 hc6
                                  have ow5 := ow4.keep d5
                                  have hG := got22 X5 (some ⟨go, 0, none⟩) nb co b9 (own_front ow5 hn9) hn9 (by have := HO.out; omega) (by have := HB_.out; omega) (fun a ha9 => by cases ha9; exact (OwnB.lt22 ow5 go rfl).2)
                                  have D5w : Hid (Below w.heap.size w X5) := D4w.out.trans (d5.mono D4w.out.size)
                                  clear ow4 D4w d5 ow5
                                  go_wp2_with (first | (at_builtin; refine wpL_appG 33 rfl _ _ rfl _ X5 (by exact hra) ?_))
                                  try simp only [hn9]
                                  refine hG.mono ?_
                                  rintro e X6 ⟨Ru, eu, rfl, gu0, d6⟩
                                  clear hG hra
                                  have st := row_new9 X6 Ru gu0.form
                                  have d7 := below_alloc X6 (.cells Ru 32)
                                  have ru := RowC.new X6 Ru 32
                                  have gu1 := gu0.keep d7
                                  have hT7 := (hO5.isB.kept d6).kept d7
                                  have D7w : Hid (Below w.heap.size w (X6.alloc (.cells Ru 32))) := (D5w.out.trans (d6.mono D5w.out.size)).trans (d7.mono (Nat.le_trans D5w.out.size d6.size))
                                  have FU : Hid (Ru.size = 4 ∧ OneC Ru = true) := gu0.form
                                  have hx7 : ∀ a, x6 = some a → a.block < (X6.alloc (.cells Ru 32)).heap.size := fun a ha9 => Nat.lt_of_lt_of_le (hx6 a ha9) (Nat.le_trans d6.size d7.size)
                                  clear gu0 d6 d7 hO5 D5w hx6
                                  go_upto_region 46 with fail
                                  clear st
                                  obtain ⟨gu, hgu⟩ : ∃ z, X6.heap.size = z := ⟨_, rfl⟩
                                  rw [hgu] at ru
                                  try simp only [hgu]
                                  generalize X6.alloc (.cells Ru 32) = X7 at ru gu1 hT7 D7w hx7 ⊢
                                  clear hgu
                                  have ld := run_load_rp X7 gu ru.1 (by rw [ru.2]; exact FU.out.1)
                                  rw [ru.2] at ld
                                  have hTl := told22 X7 _ Ru eu x6 nb k6 b9 (HE.out.later D7w.out) gu1 hT7 hn9 hc6 (by have := HB_.out; omega) hx7
                                  clear ru gu1 hT7 hx7
                                  go_wp2_with fail
                                  refine hTl.mono ?_
                                  rintro e X8 ⟨rfl, d8⟩
                                  clear hTl ld
                                  go_wp2
                                  go_ret
                                  exact ⟨rfl, D7w.out.trans (d8.mono D7w.out.size)⟩
end Go.Proofs.YtklbdhpnbjhgkaaGreatDoor
