import Derived.Test.YtfdigmlhjjdggaaQTzd
import Derived.Test.YtfdigmlhjjdggaaQRelc
namespace Go.Proofs.Ytfdigmlhjjdggaa
open Go.RowKit

/-! table: the codecs' told -/
theorem tg_bodyPost1 {fn : Func} {R : Ending → World → Prop} {a : Act} {w : World} (p n : Nat) (x : Tg) (hres : fn.results = #[.cell p 25]) (hp : a.tmps.getD p undef = .pointer (some ⟨n, 0, none⟩)) (hd : a.defers = [])
    (hok : RowC w n (tgA x)) (h : R (.returned (.agg (tgA x))) w) : bodyPost Try.prog fn R .ret a w := by
  obtain ⟨t, hg⟩ := row_of_L hok.1
  rw [hok.2] at hg
  have hp' : a.tmps[p]?.getD undef = .pointer (some ⟨n, 0, none⟩) := by simpa using hp
  have hl := run_loadVar_row (P := Try.prog) w n t 25 (tgA x) (0, 0) _ hg Try.underlying25 rfl (by rw [sizeT_tg, tgA_size])
  refine bodyPost_ret (v := .agg (tgA x)) ?_ hd h
  simp [results, hres, hp', asAddr, hl]
theorem sn_bodyPost1 {fn : Func} {R : Ending → World → Prop} {a : Act} {w : World} (p n : Nat) (x : Sn) (hres : fn.results = #[.cell p 28]) (hp : a.tmps.getD p undef = .pointer (some ⟨n, 0, none⟩)) (hd : a.defers = [])
    (hok : RowC w n (snA x)) (h : R (.returned (.agg (snA x))) w) : bodyPost Try.prog fn R .ret a w := by
  obtain ⟨t, hg⟩ := row_of_L hok.1
  rw [hok.2] at hg
  have hp' : a.tmps[p]?.getD undef = .pointer (some ⟨n, 0, none⟩) := by simpa using hp
  have hl := run_loadVar_row (P := Try.prog) w n t 28 (snA x) (0, 0) _ hg Try.underlying28 rfl (by rw [sizeT_sn, snA_size])
  refine bodyPost_ret (v := .agg (snA x)) ?_ hd h
  simp [results, hres, hp', asAddr, hl]
set_option linter.unusedSimpArgs false in
set_option maxRecDepth 100000 in
set_option maxHeartbeats 3200000 in
theorem toldTag17 (s : Sc) (w : World) (n : Nat) (hn : (s 1).toNat = n) (NM : ByteArray) (hNM : (⟨(getS (subL s 2 24) (n : Int)).toArray⟩ : ByteArray) = NM) : Calls Try.prog 27 #[.agg (secA s)] w fun e w' => e = .returned (.agg (tgA ⟨NM, tgK s⟩)) ∧ Below w.heap.size w w' := by
  have hn256 : n < 256 := by have := (s 1).toNat_lt; omega
  have K1 : Hid _ := fun W => bytes_yes s 2 24 W (by omega)
  have K2 : Hid (∀ W g, rowB W g (subL s 2 24) → Calls Try.prog 42 #[.slice (some ⟨g, 0, none⟩) 24 24, .int .i64 (n : Int)] W fun e w' => e = .returned (.tuple #[.string NM, .bool (getB (subL s 2 24) (n : Int))]) ∧ Below W.heap.size W w') := fun W g hr => by
    have := nGetOk (subL s 2 24) (some ⟨g, 0, none⟩) 24 24 (n : Int) W (subL_length _ _ _) (by omega) (by omega) (by omega) (by omega) (by have := hr.isB 24; rwa [subL_length] at this)
    unfold GetPost at this
    rw [hNM] at this
    exact this
  have K3 := fun W => digest17 s 26 (by omega) W
  have K3' : ∀ W, Calls Try.prog 44 #[.agg (secA s), .int .i64 26] W fun e w' => e = .returned (.agg (dg_secA (tgK s))) ∧ Below W.heap.size W w' := K3
  have HN : Hid ((s 1).toNat = n) := hn
  generalize getB (subL s 2 24) (n : Int) = gb9 at K2
  generalize tgK s = K9 at K3' ⊢
  clear K3 hNM hn
  have h1 : ScR ((w.alloc (.cells (secA s) 63)).alloc (.cells (tgA tgZ) 25)) w.heap.size s := (ScR.new w s _).kept (below_alloc _ _)
  have h2 : RowC ((w.alloc (.cells (secA s) 63)).alloc (.cells (tgA tgZ) 25)) (w.heap.size + 1) (tgA tgZ) := by
    have := RowC.new (w.alloc (.cells (secA s) 63)) (tgA tgZ) 25
    rw [World.size_alloc] at this
    exact this
  have hB : Below w.heap.size w ((w.alloc (.cells (secA s) 63)).alloc (.cells (tgA tgZ) 25)) := (below_alloc w _).alloc (by simp) _
  go_enter Try.func27, Try.ntmps27
  go_upto_region 1 with fail
  obtain ⟨g2, hg2⟩ : ∃ g, w.heap.size + 1 = g := ⟨_, rfl⟩
  obtain ⟨g1, hg1⟩ : ∃ g, w.heap.size = g := ⟨_, rfl⟩
  have hl2 : w.heap.size ≤ g2 := by omega
  rw [hg2] at h2
  rw [hg1] at h1
  simp only [hg2]
  simp only [hg1]
  generalize ((w.alloc (.cells (secA s) 63)).alloc (.cells (tgA tgZ) 25)) = Y at hB h1 h2 ⊢
  clear hg1 hg2
  have c1 := h1.cell 1 (by omega)
  rw [HN.out] at c1
  have HW : Hid (IntKind.i64.wrap (n : Int) = (n : Int)) := by show _ = _; rw [IntKind.wrap_i64]; omega
  refine wp_reliesC [Fx (.pointer (some ⟨g1, 0, none⟩)), Fx (.pointer (some ⟨g1, 0, none⟩)), Fx (.agg (secA s)), BsQ Y.heap.size (subL s 2 24), Fx (.pointer (some ⟨g1, 0, none⟩)), Fx (.pointer (some ⟨g1, 0, none⟩)), Fx (.pointer (some ⟨g1, 1, none⟩)), Fx (.int .u8 (n : Int)), Fx (.int .i64 (n : Int)), Fx (.tuple #[.string NM, .bool gb9]), Fx (.tuple #[.string NM, .bool gb9]), Fx (.string NM), Fx (.bool gb9), Fx (.string NM)] (by kernel_rfl) (by kernel_rfl) ?_ ?_ ?_
  · repeat' (first | exact all_nil | apply all_cons)
    all_goals intro v y y' hv hb
    all_goals first | exact Fx_mono _ _ _ _ hv hb | exact BsQ.later hv hb
  · refine ⟨?_, ?_, ?_, ?_, ?_, ?_, ?_, ?_, ?_, ?_, ?_, ?_, ?_, ?_, trivial⟩
    all_goals
      intro ρ x hp ρc ρg ρf ho hd
      have o1 : ρ (.tmp 1) = .pointer (some ⟨g1, 0, none⟩) := ho 1 rfl
      clear ho
      obtain ⟨y1, y2⟩ := h1.kept hp
      have c1' := cell_later hp c1
      simp only [depsR, depR, slotR, Fx, List.getElem?_cons_succ, List.getElem?_cons_zero, Region.binds, forall_const] at hd
      simp only [guardR]
      go_split_ands
    · go_simp
    · go_simp
    · go_simp
    · go_simp
      refine (K1.out x).mono ?_
      rintro e x' ⟨gb, rfl, hg, hr, hb⟩
      exact ⟨_, rfl, ⟨gb, by rw [subL_length], Nat.le_trans hp.size hg, hr⟩, hb⟩
    · go_simp
    · go_simp
    · go_simp
    · go_simp
    · have z := HW.out
      go_simp
    · obtain ⟨gb, u1, -, u3⟩ := ‹BsQ Y.heap.size (subL s 2 24) (ρ (.tmp 9)) x›
      rw [subL_length] at u1
      go_simp
      refine (K2.out x gb u3).mono ?_
      rintro e x' ⟨rfl, hb⟩
      exact ⟨_, rfl, rfl, hb⟩
    · go_simp
    · go_simp
    · go_simp
    · go_simp
  · intro vs x1 hp hw
    simp only [owed, Fx] at hw
    obtain ⟨e0, e1, e2, e3, e4, e5, e6, e7, e8, e9, e10, e11, e12, e13, -⟩ := hw
    simp only [List.length_cons, List.length_nil, List.take_succ_cons, List.take_zero, List.drop_succ_cons, List.drop_zero, asg, List.cons_append, List.nil_append, e0, e1, e2, e4, e5, e6, e7, e8, e9, e10, e11, e12, e13]
    clear e0 e1 e2 e4 e5 e6 e7 e8 e9 e10 e11 e12 e13 e3
    have h1' := h1.kept hp
    have h2' := h2.kept hp
    have hB' := hB.trans (hp.mono hB.size)
    clear h1 h2 hB hp c1 K1 K2
    obtain ⟨r1, q1⟩ := h1'
    go_wp2_with fail
    refine (K3' _).mono ?_
    rintro e w3 ⟨rfl, hb⟩
    have h3 := h2'.kept hb
    have hB3 := hB'.trans (hb.mono hB'.size)
    have HR : Hid _ := h3.setRow (tgA ⟨NM, K9⟩)
    have HB : Hid _ := below_row hB3 hl2 (tgA ⟨NM, K9⟩)
    obtain ⟨r3, q3⟩ := h3
    have z3 : (rowAt w3 g2).size = 33 := by rw [q3]; exact tgA_size _
    clear hB3 hB' h2' hb K3' r1 q1
    go_wp2
    exact tg_bodyPost1 2 g2 ⟨NM, K9⟩ rfl rfl rfl HR.out ⟨rfl, HB.out⟩
set_option linter.unusedSimpArgs false in
set_option maxRecDepth 100000 in
set_option maxHeartbeats 3200000 in
theorem toldSnap17 (s : Sc) (w : World) (A B : Nat) (hA : numN s 4 4 = A) (hBn : numN s 8 4 = B) : Calls Try.prog 29 #[.agg (secA s)] w fun e w' => e = .returned (.agg (snA ⟨(A : Int), (B : Int), snK s⟩)) ∧ Below w.heap.size w w' := by
  have K1 := fun W => number17 s 4 (by omega) W
  have K2 := fun W => number17 s 8 (by omega) W
  rw [hA] at K1
  rw [hBn] at K2
  have K3 : ∀ W, Calls Try.prog 44 #[.agg (secA s), .int .i64 12] W fun e w' => e = .returned (.agg (dg_secA (snK s))) ∧ Below W.heap.size W w' := fun W => digest17 s 12 (by omega) W
  have H1 : Hid _ := K1
  have H2 : Hid _ := K2
  have H3 : Hid _ := K3
  generalize snK s = K9 at H3 ⊢
  clear K1 K2 K3 hA hBn
  have h1 : ScR ((w.alloc (.cells (secA s) 66)).alloc (.cells (snA snZ) 28)) w.heap.size s := (ScR.new w s _).kept (below_alloc _ _)
  have h2 : RowC ((w.alloc (.cells (secA s) 66)).alloc (.cells (snA snZ) 28)) (w.heap.size + 1) (snA snZ) := by
    have := RowC.new (w.alloc (.cells (secA s) 66)) (snA snZ) 28
    rw [World.size_alloc] at this
    exact this
  have hB : Below w.heap.size w ((w.alloc (.cells (secA s) 66)).alloc (.cells (snA snZ) 28)) := (below_alloc w _).alloc (by simp) _
  go_enter Try.func29, Try.ntmps29
  go_upto_region 1 with fail
  obtain ⟨g2, hg2⟩ : ∃ g, w.heap.size + 1 = g := ⟨_, rfl⟩
  obtain ⟨g1, hg1⟩ : ∃ g, w.heap.size = g := ⟨_, rfl⟩
  have hl2 : w.heap.size ≤ g2 := by omega
  rw [hg2] at h2
  rw [hg1] at h1
  simp only [hg2]
  simp only [hg1]
  generalize ((w.alloc (.cells (secA s) 66)).alloc (.cells (snA snZ) 28)) = Y at hB h1 h2 ⊢
  clear hg1 hg2
  refine wp_reliesT [Fx (.pointer (some ⟨g1, 0, none⟩)), Fx (.agg (secA s)), Fx (.int .u32 (A : Int)), Fx (.pointer (some ⟨g1, 0, none⟩)), Fx (.agg (secA s)), Fx (.int .u32 (B : Int)), Fx (.pointer (some ⟨g1, 0, none⟩)), Fx (.agg (secA s)), Fx (.agg (dg_secA K9)), Fx (.agg (snA ⟨(A : Int), (B : Int), K9⟩))] (by kernel_rfl) (by kernel_rfl) ?_ ?_ ?_
  · repeat' (first | exact all_nil | apply all_cons)
    all_goals intro v y y' hv hb
    all_goals first | exact Fx_mono _ _ _ _ hv hb
  · refine ⟨?_, ?_, ?_, ?_, ?_, ?_, ?_, ?_, ?_, ?_, trivial⟩
    all_goals
      intro ρ x hp ρc ρg ρf ho hd
      have o1 : ρ (.tmp 1) = .pointer (some ⟨g1, 0, none⟩) := ho 1 rfl
      clear ho
      obtain ⟨y1, y2⟩ := h1.kept hp
      simp only [depsR, depR, slotR, Fx, List.getElem?_cons_succ, List.getElem?_cons_zero, Region.binds, forall_const] at hd
      simp only [guardR]
      go_split_ands
    · go_simp
    · go_simp
    · go_simp
      refine (H1.out x).mono ?_
      rintro e x' ⟨rfl, hb⟩
      exact ⟨_, rfl, rfl, hb⟩
    · go_simp
    · go_simp
    · go_simp
      refine (H2.out x).mono ?_
      rintro e x' ⟨rfl, hb⟩
      exact ⟨_, rfl, rfl, hb⟩
    · go_simp
    · go_simp
    · go_simp
      refine (H3.out x).mono ?_
      rintro e x' ⟨rfl, hb⟩
      exact ⟨_, rfl, rfl, hb⟩
    · go_simp
  · intro vs x1 hp hw
    simp only [owed, Fx] at hw
    obtain ⟨e0, e1, e2, e3, e4, e5, e6, e7, e8, e9, -⟩ := hw
    simp only [List.length_cons, List.length_nil, List.take_succ_cons, List.take_zero, List.drop_succ_cons, List.drop_zero, asg, List.cons_append, List.nil_append, e0, e1, e2, e3, e4, e5, e6, e7, e8, e9]
    clear e0 e1 e2 e3 e4 e5 e6 e7 e8 e9
    have h2' := h2.kept hp
    have hB' := hB.trans (hp.mono hB.size)
    clear h1 h2 hB hp H1 H2 H3
    have HR : Hid _ := h2'.setRow (snA ⟨(A : Int), (B : Int), K9⟩)
    have HB : Hid _ := below_row hB' hl2 (snA ⟨(A : Int), (B : Int), K9⟩)
    obtain ⟨r3, q3⟩ := h2'
    have z3 : (rowAt x1 g2).size = 34 := by rw [q3]; exact snA_size _
    clear hB'
    go_wp2
    exact sn_bodyPost1 2 g2 ⟨(A : Int), (B : Int), K9⟩ rfl rfl rfl HR.out ⟨rfl, HB.out⟩
/-! make([]uint32, n) -/
def zerosU (n : Nat) : List Value := List.replicate n (.int .u32 0)
def mkU (x y : Value) : Sem Next := do pure (.value (← Instr.makeSlice 31 x y))
@[go_sem ↓] theorem execOp_mkU (ρ : Operand → Value) (dst : Option Tmp) (ty : TypeId) (pos : String) (after : Array Edge) (guard : Option (Nat × Bool)) (x y : Operand) : execOp ρ { dst, op := .makeSlice 31 x y, type := ty, pos, after, guard } = mkU (ρ x) (ρ y) := rfl
theorem info_u32U : (Try.prog.info? 26).map (fun i => (i.zero, i.size, i.bytes)) = some (some (.int .u32 0), 1, 4) := by kernel_rfl
theorem made_u32U (n : Nat) : madeCells #[Value.int .u32 0] n = (zerosU n).toArray := by
  apply Array.ext_getElem?
  intro i
  unfold zerosU
  by_cases hi : i < n
  · simp [madeCells, hi, Nat.mod_one]
  · rw [Array.getElem?_eq_none (by rw [size_madeCells]; omega), Array.getElem?_eq_none (by simp; omega)]
@[go_sem] theorem run_mkU (w : World) (n : Int) (h0 : 0 ≤ n) (h : n ≤ 1048576) : (mkU (.int .i64 n) (.int .i64 n)).run Try.prog w =
    .ok (.value (.slice (some ⟨w.heap.size, 0, none⟩) n.toNat n.toNat)) (w.alloc (.cells (zerosU n.toNat).toArray 26)) := by
  obtain ⟨i, hi, hzz⟩ := Option.map_eq_some_iff.1 info_u32U
  simp only [Prod.mk.injEq] at hzz
  simp only [mkU, Sem.run_bind]
  rw [run_make (P := Try.prog) w 31 26 i _ Try.underlying31 hi hzz.1 .i64 .i64 n n h0 (Int.le_refl _) (by rw [hzz.2.2]; omega) (by omega)]
  rw [hzz.2.1, Nat.mul_one, show (Value.int .u32 0).cells = #[Value.int .u32 0] from rfl, made_u32U]
  rfl
/-- The first i numbers read, the others 0. -/
def cnU (s : Sc) (m i : Nat) : List Value := uV (cnL s i) ++ zerosU (m - i)
theorem cnU_len (s : Sc) (m i : Nat) (h : i ≤ m) : (cnU s m i).length = m := by unfold cnU zerosU; rw [List.length_append, uV_len, cnL_len, List.length_replicate]; omega
theorem cnU_zero (s : Sc) (m : Nat) : cnU s m 0 = zerosU m := rfl
theorem cnU_full (s : Sc) (m : Nat) : cnU s m m = uV (cnL s m) := by unfold cnU zerosU; rw [Nat.sub_self]; simp
theorem cnU_set (s : Sc) (m i : Nat) (h : i < m) : (cnU s m i).set i (.int .u32 (numN s (4 * i) 4 : Nat)) = cnU s m (i + 1) := by
  have hl : (uV (cnL s i)).length = i := by rw [uV_len, cnL_len]
  unfold cnU
  rw [List.set_append_right _ _ (by omega), hl, Nat.sub_self, cnL_succ, uV_app, List.append_assoc]
  congr 1
  unfold zerosU
  obtain ⟨k, hk⟩ : ∃ k, m - i = k + 1 := ⟨m - i - 1, by omega⟩
  rw [hk, show m - (i + 1) = k by omega, List.replicate_succ]
  rfl
set_option linter.unusedSimpArgs false in
set_option maxRecDepth 100000 in
set_option maxHeartbeats 3200000 in
theorem toldCounts17 (s : Sc) (w : World) (m : Nat) (hm15 : m ≤ 15) : Calls Try.prog 30 #[.agg (secA s), .int .i64 (m : Int)] w fun e w' => (∃ v, e = .returned v ∧ OwnG 26 w' w.heap.size v (uV (cnL s m))) ∧ Below w.heap.size w w' := by
  have h1 := ScR.new w s 68
  have hB : Below w.heap.size w (w.alloc (.cells (secA s) 68)) := below_alloc w _
  go_enter Try.func30, Try.ntmps30
  go_upto_region 1 with fail
  obtain ⟨g1, hg1⟩ : ∃ g, w.heap.size = g := ⟨_, rfl⟩
  rw [hg1] at h1
  simp only [hg1]
  have hg1' : w.heap.size ≤ g1 := by omega
  generalize w.alloc (.cells (secA s) 68) = X at hB h1 ⊢
  clear hg1
  have bX := below_alloc X (.cells (zerosU m).toArray 26)
  have hO := OwnG.lit 26 X (zerosU m) (by unfold zerosU; rw [List.length_replicate]; unfold maxLen; omega)
  have ez : (zerosU m).length = m := by unfold zerosU; rw [List.length_replicate]
  rw [ez] at hO
  have h1' := h1.kept bX
  have hB' := hB.alloc hB.size (.cells (zerosU m).toArray 26)
  have hn : g1 ≠ X.heap.size := by have := h1.lt; omega
  have hl := hB.size
  have m0 : (0 : Int) ≤ (m : Int) := by omega
  have m1 : (m : Int) ≤ 1048576 := by omega
  have m2 : ((m : Int)).toNat = m := by omega
  clear h1 hB bX ez
  go_upto_region 2 with fail
  obtain ⟨g5, hg5⟩ : ∃ q, X.heap.size = q := ⟨_, rfl⟩
  rw [hg5] at hO hn hl
  simp only [hg5]
  have hO' := hO.le hl
  generalize X.alloc (.cells (zerosU m).toArray 26) = Y at hO' h1' hB' ⊢
  clear hg5 hO m0 m1 m2 hl
  go_wp2_with fail
  go_loopw [11] (fun iv wr => ∃ i : Nat, i ≤ m ∧ iv = .int .i64 i ∧ OwnG 26 wr w.heap.size (.slice (some ⟨g5, 0, none⟩) m m) (cnU s m i) ∧ ScR wr g1 s ∧ Below w.heap.size w wr) (fun iv _ => m - (intOf iv).toNat)
  case atStart => exact ⟨0, by omega, rfl, by rw [cnU_zero]; exact hO', h1', hB'⟩
  case round =>
    clear hO' h1' hB'
    obtain ⟨i, hi, rfl, hO, h1, hB⟩ := hrel
    by_cases hlt : i < m
    · obtain ⟨i4, hi4⟩ : ∃ q, 4 * i = q := ⟨_, rfl⟩
      have hst := cnU_set s m i hlt
      rw [hi4] at hst
      have kN := fun W => number17 s i4 (by omega) W
      have hvl : numN s i4 4 < 4294967296 := by have := numN_lt s i4 4; omega
      generalize numN s i4 4 = v at kN hst hvl
      have q1 : (4 : Int) * (i : Int) = (i4 : Int) := by omega
      have q2 : IntKind.i64.wrap (i4 : Int) = (i4 : Int) := by rw [IntKind.wrap_i64]; omega
      have HI : Hid (i < m) := hlt
      have i0 : (i : Int) < (m : Int) := by omega
      have i1 : (0 : Int) ≤ (i : Int) := by omega
      obtain ⟨r1, q3⟩ := id h1
      have hcl := cnU_len s m i hi
      clear hi4 hi hlt hvl
      go_wp2_with fail
      refine (kN _).mono ?_
      rintro e w2 ⟨rfl, hb⟩
      have hO2 := hO.keep hb
      have h12 := h1.kept hb
      have hB2 := hB.trans (hb.mono hB.size)
      obtain ⟨u, hu⟩ : ∃ u, (cnU s m i)[i]? = some u := ⟨_, List.getElem?_eq_getElem (by rw [hcl]; exact HI.out)⟩
      have c5 := hO2.cell i u hu
      have f5 := hO2.frozen i
      obtain ⟨hO3, hg3⟩ := hO2.put i (.int .u32 (v : Int))
      rw [hst] at hO3
      have HO : Hid _ := hO3
      have HR : Hid (ScR (w2.setCell ⟨g5, i, none⟩ (.int .u32 (v : Int))) g1 s) := h12.set_ne i _ (fun e => hn e.symm)
      have HB : Hid _ := hO2.below (by exact hg3) hB2.size
      have HB2 : Hid _ := hB2
      clear hO h1 hB hO2 h12 hB2 hb kN r1 q3 q1 q2 hst hu hcl hO3 hg3
      go_wp2
      go_roundw
      case rel => exact ⟨i + 1, by have := HI.out; omega, by go_num, HO.out, HR.out, HB2.out.trans HB.out⟩
      case measure => have := HI.out; simp [intOf]; omega
    · obtain rfl : m = i := by omega
      have i0 : ¬ (m : Int) < (m : Int) := by omega
      rw [cnU_full] at hO
      have HO : Hid _ := hO
      have HB : Hid _ := hB
      clear hO hB h1 hlt hi
      go_wp2
      go_ret
      exact ⟨⟨_, rfl, HO.out⟩, HB.out⟩
end Go.Proofs.Ytfdigmlhjjdggaa
