
import Derived.Test.YtligjfofnafjeaaFor7
namespace Go.Proofs.Ytligjfofnafjeaa
open Go.RowKit

/-! assaylaw21: same, known -/
/-- A forest's lists, as they are read. -/
structure Rd (n : Nat) (W : World) (V : Nat → Value) (K : Nat → Bool) (P : Nat → Nat) (L : Nat → List Nat) : Prop where
  k : IsG W (V 0) (bF K n)
  p : IsG W (V 1) (uF P n)
  l : ∀ q, 2 ≤ q → q < 6 → IsG W (V q) (iF (L q))
theorem Rd.kept {n : Nat} {W W' : World} {V : Nat → Value} {K : Nat → Bool} {P : Nat → Nat} {L : Nat → List Nat} (h : Rd n W V K P L) (hb : Below W.heap.size W W') : Rd n W' V K P L := ⟨h.k.kept hb, h.p.kept hb, fun q h2 h6 => (h.l q h2 h6).kept hb⟩
theorem Fo.rd {n : Nat} {w W : World} {ro : Option (Nat × Array Value)} {V : Nat → Value} {K : Nat → Bool} {P : Nat → Nat} {L : Nat → List Nat} (h : Fo n w W ro V K P L) : Rd n W V K P L := ⟨h.kept.isG, h.par.isG, fun q h2 h6 => (h.list q h2 h6).isG⟩
set_option linter.unusedSimpArgs false in
set_option maxRecDepth 100000 in
set_option maxHeartbeats 8000000 in
theorem same21 (n : Nat) (V U : Nat → Value) (K : Nat → Bool) (P : Nat → Nat) (L : Nat → List Nat) (w : World) (h41 : n ≤ 3298534883328) (hL : ∀ q, (L q).length ≤ n) (hV : Rd n w V K P L) (hU : Rd n w U K P L) :
    Calls Try.prog 13 #[.agg (foA V), .agg (foA U)] w fun e w' => e = .returned (.bool true) ∧ Below w.heap.size w w' := by
  have hB0 : Below w.heap.size w ((w.alloc (.cells (foA V) 28)).alloc (.cells (foA U) 43)) := (below_alloc w _).alloc (by simp) _
  have hR2 : RowC ((w.alloc (.cells (foA V) 28)).alloc (.cells (foA U) 43)) w.heap.size (foA V) := (RowC.new w (foA V) _).kept (below_alloc _ _)
  have hR3 : RowC ((w.alloc (.cells (foA V) 28)).alloc (.cells (foA U) 43)) (w.heap.size + 1) (foA U) := by
    have := RowC.new (w.alloc (.cells (foA V) 28)) (foA U) 43
    rw [World.size_alloc] at this
    exact this
  obtain ⟨xa, ca, ea⟩ := hV.k.len
  obtain ⟨xb, cb, eb⟩ := hU.k.len
  obtain ⟨xc, cc, ec⟩ := hV.p.len
  obtain ⟨xd, cd, ed⟩ := hU.p.len
  rw [bF_len] at ea eb
  rw [uF_len] at ec ed
  go_enter Try.func13, Try.ntmps13
  go_upto_region 1 with fail
  obtain ⟨g3, hg3⟩ : ∃ g, w.heap.size + 1 = g := ⟨_, rfl⟩
  obtain ⟨g2, hg2⟩ : ∃ g, w.heap.size = g := ⟨_, rfl⟩
  rw [hg3] at hR3
  rw [hg2] at hR2
  simp only [hg3]
  simp only [hg2]
  generalize (w.alloc (.cells (foA V) 28)).alloc (.cells (foA U) 43) = X at hB0 hR2 hR3 ⊢
  clear hg2 hg3
  have c20 := hR2.cell 0
  have c21 := hR2.cell 1
  have c30 := hR3.cell 0
  have c31 := hR3.cell 1
  rw [foA_get V 0 (by omega), ea] at c20
  rw [foA_get V 1 (by omega), ec] at c21
  rw [foA_get U 0 (by omega), eb] at c30
  rw [foA_get U 1 (by omega), ed] at c31
  go_wp2_with fail
  clear c20 c21 c30 c31
  go_loopw [5] (fun iv wr => ∃ i : Nat, i ≤ n ∧ iv = .int .i64 i ∧ Below X.heap.size X wr) (fun iv _ => n - (intOf iv).toNat)
  case atStart => exact ⟨0, by omega, rfl, Below.refl _ _⟩
  case round =>
    obtain ⟨i, hi, rfl, hBw⟩ := hrel
    have hB1 := hB0.trans (hBw.mono hB0.size)
    have hV1 := hV.kept hB1
    have hU1 := hU.kept hB1
    have s2 := hR2.kept hBw
    have s3 := hR3.kept hBw
    have ra := s2.cell 0
    have rc := s2.cell 1
    have rb := s3.cell 0
    have rd := s3.cell 1
    rw [foA_get V 0 (by omega), ea] at ra
    rw [foA_get V 1 (by omega), ec] at rc
    rw [foA_get U 0 (by omega), eb] at rb
    rw [foA_get U 1 (by omega), ed] at rd
    by_cases hlt : i < n
    · have i0 : (i : Int) < (n : Int) := by omega
      have i1 : (0 : Int) ≤ (i : Int) := by omega
      have hk1 := hV1.k
      have hk2 := hU1.k
      have hp1 := hV1.p
      have hp2 := hU1.p
      rw [ea] at hk1
      rw [eb] at hk2
      rw [ec] at hp1
      rw [ed] at hp2
      obtain ⟨ga, oa, f1, -, h9a⟩ := hk1.spot i (by rw [bF_len]; omega)
      obtain ⟨gb, ob, f2, -, h9b⟩ := hk2.spot i (by rw [bF_len]; omega)
      obtain ⟨gc, oc, f3, -, h9c⟩ := hp1.spot i (by rw [uF_len]; omega)
      obtain ⟨gd, od, f4, -, h9d⟩ := hp2.spot i (by rw [uF_len]; omega)
      subst f1
      subst f2
      subst f3
      subst f4
      have ha := h9a i _ (bF_get K n i hlt)
      have hb := h9b i _ (bF_get K n i hlt)
      have hc := h9c i _ (uF_get P n i hlt)
      have hd9 := h9d i _ (uF_get P n i hlt)
      have FK : Hid ((0 : Int) ≤ (i : Int) ∧ (i : Int) < (n : Int)) := ⟨i1, i0⟩
      have HI : Hid (i < n) := hlt
      generalize K i = kb at ha hb
      generalize P i = pv at hc hd9
      clear h9a h9b h9c h9d hk1 hk2 hp1 hp2 s2 s3 hV1 hU1 hB1 hlt hi
      go_upto_region 6 with fail
      refine wp_relies [Fx (.pointer (some ⟨g2, 0, none⟩)), Fx (.slice (some ⟨ga, oa, none⟩) n ca), Fx (.int .i64 (i : Int)), Fx (.pointer (some ⟨ga, oa + i, none⟩)), Fx (.bool kb), Fx (.pointer (some ⟨g3, 0, none⟩)), Fx (.slice (some ⟨gb, ob, none⟩) n cb), Fx (.int .i64 (i : Int)), Fx (.pointer (some ⟨gb, ob + i, none⟩)), Fx (.bool kb), Fx (.bool false), Fx (.bool false), Fx (.pointer (some ⟨g2, 1, none⟩)), Fx (.slice (some ⟨gc, oc, none⟩) n cc), Fx (.int .i64 (i : Int)), Fx (.pointer (some ⟨gc, oc + i, none⟩)), Fx (.int .u32 (pv : Int)), Fx (.pointer (some ⟨g3, 1, none⟩)), Fx (.slice (some ⟨gd, od, none⟩) n cd), Fx (.int .i64 (i : Int)), Fx (.pointer (some ⟨gd, od + i, none⟩)), Fx (.int .u32 (pv : Int)), Fx (.bool false), Fx (.bool false)] (by kernel_rfl) (by kernel_rfl) ?_ ?_ ?_
      · repeat' (first | exact all_nil | apply all_cons)
        all_goals intro v y y' hv hb
        all_goals first | exact Fx_mono _ _ _ _ hv hb
      · refine ⟨?_, ?_, ?_, ?_, ?_, ?_, ?_, ?_, ?_, ?_, ?_, ?_, ?_, ?_, ?_, ?_, ?_, ?_, ?_, ?_, ?_, ?_, ?_, ?_, trivial⟩
        all_goals
          intro ρ x_1 hp ρc ρg ρf ho hd
          have o2 : ρ (.tmp 2) = .pointer (some ⟨g2, 0, none⟩) := ho 2 rfl
          have o3 : ρ (.tmp 3) = .pointer (some ⟨g3, 0, none⟩) := ho 3 rfl
          have o5 : ρ (.tmp 5) = .int .i64 (i : Int) := ho 5 rfl
          clear ho
          have yra := cell_later hp ra
          have yrb := cell_later hp rb
          have yrc := cell_later hp rc
          have yrd := cell_later hp rd
          have yha := cell_later hp ha
          have yhb := cell_later hp hb
          have yhc := cell_later hp hc
          have yhd9 := cell_later hp hd9
          simp only [depsR, depR, slotR, Fx, List.getElem?_cons_succ, List.getElem?_cons_zero, Region.binds, forall_const] at hd
          simp only [guardR]
          go_split_ands
        · go_simp
        · go_simp
        · go_simp
        · obtain ⟨z1, z2⟩ := FK.out
          go_simp
        · go_simp
        · go_simp
        · go_simp
        · go_simp
        · obtain ⟨z1, z2⟩ := FK.out
          go_simp
        · go_simp
        · go_simp
        · go_simp
        · refine ⟨fun _ => ?_, fun hy => absurd (by simp [yieldR, slotR, *]) hy⟩
          go_simp
        · refine ⟨fun _ => ?_, fun hy => absurd (by simp [yieldR, slotR, *]) hy⟩
          go_simp
        · refine ⟨fun _ => ?_, fun hy => absurd (by simp [yieldR, slotR, *]) hy⟩
          go_simp
        · refine ⟨fun _ => ?_, fun hy => absurd (by simp [yieldR, slotR, *]) hy⟩
          obtain ⟨z1, z2⟩ := FK.out
          go_simp
        · refine ⟨fun _ => ?_, fun hy => absurd (by simp [yieldR, slotR, *]) hy⟩
          go_simp
        · refine ⟨fun _ => ?_, fun hy => absurd (by simp [yieldR, slotR, *]) hy⟩
          go_simp
        · refine ⟨fun _ => ?_, fun hy => absurd (by simp [yieldR, slotR, *]) hy⟩
          go_simp
        · refine ⟨fun _ => ?_, fun hy => absurd (by simp [yieldR, slotR, *]) hy⟩
          go_simp
        · refine ⟨fun _ => ?_, fun hy => absurd (by simp [yieldR, slotR, *]) hy⟩
          obtain ⟨z1, z2⟩ := FK.out
          go_simp
        · refine ⟨fun _ => ?_, fun hy => absurd (by simp [yieldR, slotR, *]) hy⟩
          go_simp
        · refine ⟨fun _ => ?_, fun hy => absurd (by simp [yieldR, slotR, *]) hy⟩
          go_simp
        · go_simp
      · intro vs x1 hp hw
        simp only [owed, Fx] at hw
        obtain ⟨e0, e1, e2, e3, e4, e5, e6, e7, e8, e9, e10, e11, e12, e13, e14, e15, e16, e17, e18, e19, e20, e21, e22, e23, -⟩ := hw
        simp only [List.length_cons, List.length_nil, List.take_succ_cons, List.take_nil, List.drop_succ_cons, List.drop_nil, asg, List.cons_append, List.nil_append, e0, e1, e2, e3, e4, e5, e6, e7, e8, e9, e10, e11, e12, e13, e14, e15, e16, e17, e18, e19, e20, e21, e22, e23]
        clear e0 e1 e2 e3 e4 e5 e6 e7 e8 e9 e10 e11 e12 e13 e14 e15 e16 e17 e18 e19 e20 e21 e22 e23
        have HB : Hid _ := hBw.trans (hp.mono hBw.size)
        have i0' : (i : Int) < (n : Int) := FK.out.2
        clear hp hBw ra rb rc rd ha hb hc hd9
        go_wp2
        go_roundw
        case rel => first | exact ⟨i + 1, by have := HI.out; omega, by go_num, HB.out⟩ | ((repeat apply Exists.intro); refine ⟨⟨i + 1, by have := HI.out; omega, ?_, HB.out⟩, rfl⟩; go_num)
        case measure => have := HI.out; simp [intOf]; omega
    · obtain rfl : n = i := by omega
      have i0 : ¬ (n : Int) < (n : Int) := by omega
      have l2 := hL 2
      obtain ⟨xv2, cv2, ev2⟩ := (hV.l 2 (by omega) (by omega)).len
      obtain ⟨xu2, cu2, eu2⟩ := (hU.l 2 (by omega) (by omega)).len
      rw [iF_len] at ev2 eu2
      have kI2 := fun W (hb : Below w.heap.size w W) => ints21 (L 2) xv2 xu2 (L 2).length cv2 cu2 W rfl (by rw [← ev2]; exact (hV.l 2 (by omega) (by omega)).kept hb) (by rw [← eu2]; exact (hU.l 2 (by omega) (by omega)).kept hb) (by omega)
      have l3 := hL 3
      obtain ⟨xv3, cv3, ev3⟩ := (hV.l 3 (by omega) (by omega)).len
      obtain ⟨xu3, cu3, eu3⟩ := (hU.l 3 (by omega) (by omega)).len
      rw [iF_len] at ev3 eu3
      have kI3 := fun W (hb : Below w.heap.size w W) => ints21 (L 3) xv3 xu3 (L 3).length cv3 cu3 W rfl (by rw [← ev3]; exact (hV.l 3 (by omega) (by omega)).kept hb) (by rw [← eu3]; exact (hU.l 3 (by omega) (by omega)).kept hb) (by omega)
      have l4 := hL 4
      obtain ⟨xv4, cv4, ev4⟩ := (hV.l 4 (by omega) (by omega)).len
      obtain ⟨xu4, cu4, eu4⟩ := (hU.l 4 (by omega) (by omega)).len
      rw [iF_len] at ev4 eu4
      have kI4 := fun W (hb : Below w.heap.size w W) => ints21 (L 4) xv4 xu4 (L 4).length cv4 cu4 W rfl (by rw [← ev4]; exact (hV.l 4 (by omega) (by omega)).kept hb) (by rw [← eu4]; exact (hU.l 4 (by omega) (by omega)).kept hb) (by omega)
      have l5 := hL 5
      obtain ⟨xv5, cv5, ev5⟩ := (hV.l 5 (by omega) (by omega)).len
      obtain ⟨xu5, cu5, eu5⟩ := (hU.l 5 (by omega) (by omega)).len
      rw [iF_len] at ev5 eu5
      have kI5 := fun W (hb : Below w.heap.size w W) => ints21 (L 5) xv5 xu5 (L 5).length cv5 cu5 W rfl (by rw [← ev5]; exact (hV.l 5 (by omega) (by omega)).kept hb) (by rw [← eu5]; exact (hU.l 5 (by omega) (by omega)).kept hb) (by omega)
      have HB0 : Hid _ := hB1
      clear hlt hi rb rc rd hV1 hU1
      have c22 := s2.cell 2
      have c32 := s3.cell 2
      rw [foA_get V 2 (by omega), ev2] at c22
      rw [foA_get U 2 (by omega), eu2] at c32
      go_wp2_with fail
      refine (kI2 _ hB1).mono ?_
      rintro e w2 ⟨rfl, hb2⟩
      have t22 := s2.kept hb2
      have t32 := s3.kept hb2
      have B2 := hB1.trans (hb2.mono hB1.size)
      clear c22 c32 kI2 s2 s3  hb2
      have c23 := t22.cell 3
      have c33 := t32.cell 3
      rw [foA_get V 3 (by omega), ev3] at c23
      rw [foA_get U 3 (by omega), eu3] at c33
      go_wp2_with fail
      refine (kI3 _ B2).mono ?_
      rintro e w3 ⟨rfl, hb3⟩
      have t23 := t22.kept hb3
      have t33 := t32.kept hb3
      have B3 := B2.trans (hb3.mono B2.size)
      clear c23 c33 kI3 t22 t32 B2 hb3
      have c24 := t23.cell 4
      have c34 := t33.cell 4
      rw [foA_get V 4 (by omega), ev4] at c24
      rw [foA_get U 4 (by omega), eu4] at c34
      go_wp2_with fail
      refine (kI4 _ B3).mono ?_
      rintro e w4 ⟨rfl, hb4⟩
      have t24 := t23.kept hb4
      have t34 := t33.kept hb4
      have B4 := B3.trans (hb4.mono B3.size)
      clear c24 c34 kI4 t23 t33 B3 hb4
      have c25 := t24.cell 5
      have c35 := t34.cell 5
      rw [foA_get V 5 (by omega), ev5] at c25
      rw [foA_get U 5 (by omega), eu5] at c35
      go_wp2_with fail
      refine (kI5 _ B4).mono ?_
      rintro e w5 ⟨rfl, hb5⟩
      have t25 := t24.kept hb5
      have t35 := t34.kept hb5
      have B5 := B4.trans (hb5.mono B4.size)
      clear c25 c35 kI5 t24 t34 B4 hb5
      have HB : Hid _ := B5
      clear B5 t25 t35
      go_wp2
      go_ret
      exact ⟨rfl, HB.out⟩
def re3BS (x y z : Value) : Sem Next := do pure (.value (← Instr.buildSlice 22 3 #[(0, x), (1, y), (2, z)]))
@[go_sem ↓] theorem execOp_re3BS (ρ : Operand → Value) (dst : Option Tmp) (ty : TypeId) (pos : String) (after : Array Edge) (guard : Option (Nat × Bool)) (x y z : Operand) : execOp ρ { dst, op := .buildSlice 22 3 #[(0, x), (1, y), (2, z)], type := ty, pos, after, guard } = re3BS (ρ x) (ρ y) (ρ z) := by simp [execOp, re3BS]
@[go_sem] theorem run_re3BS (w : World) (a b c : Rw) : (re3BS (.agg (rwA a)) (.agg (rwA b)) (.agg (rwA c))).run Try.prog w = .ok (.value (.slice (some ⟨w.heap.size, 0, none⟩) 3 3)) (w.alloc (.cells (flK rwE [a, b, c]).toArray 39)) := by
  have h := run_litK rwE_ok w [a, b, c] (by show 0 < 3; omega) (by show 3 * 36 ≤ 10000; omega)
  have e : (psK rwE [a, b, c] 0).toArray = #[(0, .agg (rwA a)), (1, .agg (rwA b)), (2, .agg (rwA c))] := by
    simp only [psK, rwE_enc]
  rw [e] at h
  simp only [re3BS, Sem.run_bind]
  rw [show 22 = rwE.S from rfl, show 3 = [a, b, c].length from rfl, h]
  rfl
def sn2BS (x y : Value) : Sem Next := do pure (.value (← Instr.buildSlice 32 2 #[(0, x), (1, y)]))
@[go_sem ↓] theorem execOp_sn2BS (ρ : Operand → Value) (dst : Option Tmp) (ty : TypeId) (pos : String) (after : Array Edge) (guard : Option (Nat × Bool)) (x y : Operand) : execOp ρ { dst, op := .buildSlice 32 2 #[(0, x), (1, y)], type := ty, pos, after, guard } = sn2BS (ρ x) (ρ y) := by simp [execOp, sn2BS]
@[go_sem] theorem run_sn2BS (w : World) (a b : Sn) : (sn2BS (.agg (snA a)) (.agg (snA b))).run Try.prog w = .ok (.value (.slice (some ⟨w.heap.size, 0, none⟩) 2 2)) (w.alloc (.cells (flK snE [a, b]).toArray 37)) := by
  have h := run_litK snE_ok w [a, b] (by show 0 < 2; omega) (by show 2 * 34 ≤ 10000; omega)
  have e : (psK snE [a, b] 0).toArray = #[(0, .agg (snA a)), (1, .agg (snA b))] := by
    simp only [psK, snE_enc]
  rw [e] at h
  simp only [sn2BS, Sem.run_bind]
  rw [show 32 = snE.S from rfl, show 2 = [a, b].length from rfl, h]
  rfl
def l321 : List Rw := [⟨true, true, ⟨5, 7, dg_secZ⟩⟩, ⟨true, true, ⟨7, 9, dg_secZ⟩⟩, ⟨true, true, ⟨9, 5, dg_secZ⟩⟩]
theorem known_cyc : FL (frO l321) 3 3 5 = [0] := by decide +kernel
theorem known_par : (frO l321).par 0 = 0 ∧ (frO l321).par 1 = 9 ∧ (frO l321).par 2 = 5 := by decide +kernel
def s221 : List Sn := [⟨5, 6, dg_secZ⟩, ⟨6, 5, dg_secZ⟩]
theorem known_is : isS s221 = false := by decide +kernel
theorem known_is0 : isS [] = true := by decide +kernel
set_option linter.unusedSimpArgs false in
set_option maxRecDepth 100000 in
set_option maxHeartbeats 8000000 in
theorem known21 (O : ForOk) (w : World) : Calls Try.prog 7 #[] w fun e w' => e = .returned (.bool true) ∧ Below w.heap.size w w' := by
  have k1 := row21 5 7
  have k2 := row21 7 9
  have k3 := row21 9 5
  go_enter Try.func7, Try.ntmps7
  go_wp2_with fail
  refine (k1 _).mono ?_
  rintro e w1 ⟨rfl, b1⟩
  clear k1
  go_wp2_with fail
  refine (k2 _).mono ?_
  rintro e w2 ⟨rfl, b2⟩
  clear k2
  go_wp2_with fail
  refine (k3 _).mono ?_
  rintro e w3 ⟨rfl, b3⟩
  clear k3
  have B3 := (b1.trans (b2.mono b1.size)).trans (b3.mono (Nat.le_trans b1.size b2.size))
  have hO := OwnK.lit rwE_ok w3 l321 (by show 3 ≤ maxLen; decide)
  have hX := hO.isK rwE_ok
  have bL := below_alloc w3 (.cells (flK rwE l321).toArray 39)
  have kR := rows21 l321 (some ⟨w3.heap.size, 0, none⟩) 3 3 (w3.alloc (.cells (flK rwE l321).toArray 39)) rfl (by omega) hX
  have B4 := B3.trans (bL.mono B3.size)
  clear b1 b2 b3 hO hX bL
  go_wp2_with fail
  refine kR.mono ?_
  rintro e w4 ⟨g, c, rfl, hO4, b4⟩
  have B5 := B4.trans (b4.mono B4.size)
  have hI4 := ((hO4.cut rwF_ok 3 (by show 3 ≤ 4; omega)).isK rwF_ok)
  have kO := O.of l321 (some ⟨g, 0, none⟩) 3 c w4 rfl (by omega) (fun r hr => by
    unfold l321 at hr
    simp at hr
    rcases hr with rfl | rfl | rfl <;> (unfold Sn.ok; decide)) hI4
  clear kR hO4 hI4 b4 B4 B3
  go_wp2_with fail
  refine kO.mono ?_
  rintro e w5 ⟨V, rfl, hF⟩
  clear kO
  have hF' : Fo 3 w4 w5 none V (frO l321).kp (frO l321).par (FL (frO l321) 3 3) := hF
  have bC := below_alloc w5 (.cells (foA V) 28)
  have hR := RowC.new w5 (foA V) 28
  have B6 := (B5.trans (hF'.be.mono B5.size)).trans (bC.mono (Nat.le_trans B5.size hF'.be.size))
  have hD := hF'.rd.kept bC
  have hon := foA_one' hF'
  have zV : (foA V).size = 6 := foA_size _
  clear hF hF' B5 bC
  go_upto_region 2 with fail
  generalize w5.alloc (.cells (foA V) 28) = Y at hR B6 hD ⊢
  generalize w5.heap.size = g1 at hR ⊢
  have h5 := hD.l 5 (by omega) (by omega)
  rw [known_cyc] at h5
  obtain ⟨x5, c5, e5⟩ := h5.len
  obtain ⟨x1, c1, e1⟩ := hD.p.len
  rw [iF_len] at e5
  rw [uF_len] at e1
  have r5 := hR.cell 5
  have r1 := hR.cell 1
  rw [foA_get V 5 (by omega), e5] at r5
  rw [foA_get V 1 (by omega), e1] at r1
  have r5' : Y.cell? ⟨g1, 5, none⟩ = some (.slice x5 1 c5) := r5
  rw [e5] at h5
  have h5' : IsG Y (.slice x5 1 c5) (iF [0]) := h5
  have bI := below_alloc Y (.cells #[Value.int .i64 0] 3)
  have hI9 : IsG (Y.alloc (.cells #[Value.int .i64 0] 3)) (.slice (some ⟨Y.heap.size, 0, none⟩) 1 1) (iF [0]) := (OwnG.lit 3 Y [.int .i64 0] (by show 1 ≤ maxLen; decide)).isG
  have kI := ints21 [0] x5 (some ⟨Y.heap.size, 0, none⟩) 1 c5 1 (Y.alloc (.cells #[Value.int .i64 0] 3)) rfl (h5'.kept bI) hI9 (by omega)
  clear hon zV r5 e5 h5 h5' hI9
  go_wp2_with fail
  refine kI.mono ?_
  rintro e w6 ⟨rfl, b6⟩
  have b7 := bI.trans (b6.mono bI.size)
  have hR6 := hR.kept b7
  have hD6 := hD.kept b7
  have B7 := B6.trans (b7.mono B6.size)
  have r1' := hR6.cell 1
  rw [foA_get V 1 (by omega), e1] at r1'
  have hp := hD6.p
  rw [e1] at hp
  obtain ⟨gp, op, f1, -, h9⟩ := hp.spot 0 (by rw [uF_len]; omega)
  subst f1
  have d0 := h9 0 _ (uF_get (frO l321).par 3 0 (by omega))
  have d1 := h9 1 _ (uF_get (frO l321).par 3 1 (by omega))
  have d2 := h9 2 _ (uF_get (frO l321).par 3 2 (by omega))
  rw [known_par.1] at d0
  rw [known_par.2.1] at d1
  rw [known_par.2.2] at d2
  have d0' : w6.cell? ⟨gp, op + 0, none⟩ = some (.int .u32 0) := d0
  have d0'' : w6.cell? ⟨gp, op, none⟩ = some (.int .u32 0) := d0
  have d1' : w6.cell? ⟨gp, op + 1, none⟩ = some (.int .u32 9) := d1
  have d2' : w6.cell? ⟨gp, op + 2, none⟩ = some (.int .u32 5) := d2
  have kN := O.is [] none 0 0 w6 rfl (by omega) (fun s hs => by cases hs) ⟨none, 0, rfl, Nat.le_refl _, fun i d hi => by cases hi⟩
  rw [known_is0] at kN
  clear kI h9 d0 d1 d2 hp hD hD6 hR hR6 b6 b7 bI r5' r1
  go_wp2_with fail
  refine kN.mono ?_
  rintro e w7 ⟨rfl, b8⟩
  have B8 := B7.trans (b8.mono B7.size)
  have hO := OwnK.lit snE_ok w7 s221 (by show 2 ≤ maxLen; decide)
  have hX := hO.isK snE_ok
  have bL := below_alloc w7 (.cells (flK snE s221).toArray 37)
  have kS := O.is s221 (some ⟨w7.heap.size, 0, none⟩) 2 2 (w7.alloc (.cells (flK snE s221).toArray 37)) rfl (by omega) (fun s hs => by
    unfold s221 at hs
    simp at hs
    rcases hs with rfl | rfl <;> (unfold Sn.ok; decide)) hX
  rw [known_is] at kS
  have B9 := B8.trans (bL.mono B8.size)
  clear kN b8 hO hX bL d0' d0'' d1' d2' r1'
  go_wp2_with fail
  refine kS.mono ?_
  rintro e w8 ⟨rfl, b9⟩
  have HB : Hid _ := B9.trans (b9.mono B9.size)
  clear kS b9 B9 B8 B7 B6
  go_wp2
  go_ret
  exact ⟨rfl, HB.out⟩
end Go.Proofs.Ytligjfofnafjeaa
