import Derived.Test.YtfdigmlhjjdggaaQTza
namespace Go.Proofs.Ytfdigmlhjjdggaa
open Go.RowKit

/-! table's page: putNumber, putDigest, digest -/
set_option linter.unusedSimpArgs false in
set_option maxRecDepth 100000 in
set_option maxHeartbeats 1600000 in
theorem putNumber17 (s : Sc) (g a v : Nat) (h4 : a + 4 ≤ 64) (hv : v < 4294967296) (w : World) (hs : ScR w g s) : Calls Try.prog 41 #[.pointer (some ⟨g, 0, none⟩), .int .i64 (a : Int), .int .u32 (v : Int)] w fun e w' => PgQ g (putN s a v 4) w e w' := by
  have k1 := fun W => putU32_any s (a : Int) (v : Int) W (by omega) (by omega) (by omega) (by omega)
  have e1 : putI s (a : Int) (v : Int).toNat 4 = putN s a v 4 := by
    unfold putI
    rw [if_pos (by simp [inB]; omega)]; rfl
  simp only [e1] at k1
  generalize putN s a v 4 = T at k1 ⊢
  clear e1 h4 hv
  have hs' := hs
  obtain ⟨r1, q1⟩ := hs'
  go_enter Try.func41, Try.ntmps41
  go_wp2_with fail
  refine (k1 _).mono ?_
  rintro e w1 ⟨rfl, hb⟩
  have h2 := hs.kept hb
  have HR : Hid _ := h2.rsame T
  have HK : Hid _ := (Keep.of_below (F := [g]) hb).trans (keep_row w1 g (secA T))
  obtain ⟨r2, q2⟩ := h2
  clear k1 hs hb r1 q1
  go_wp2
  go_end0
  exact ⟨rfl, HR.out, HK.out⟩
@[go_sem] theorem run_dgAll (w : World) (n : Nat) : (Instr.sliceAt 23 (.pointer (some ⟨n, 0, none⟩)) none none none).run Try.prog w = .ok (.slice (some ⟨n, 0, none⟩) 32 32) w := by
  simp [Instr.sliceAt, Instr.sureAddr, run_underlying Try.underlying23, Instr.sliceBounds, Addr.add]
theorem dg_isB {w : World} {g : Nat} {d : Nat → UInt8} (h1 : dg_rowOk w g = true) (h2 : dg_rowAt w g = dg_secA d) : IsB w (.slice (some ⟨g, 0, none⟩) 32 32) (subL d 0 32) := by
  refine .inr ⟨⟨g, 0, none⟩, 32, by rw [subL_length], fun i hi => ?_⟩
  rw [subL_length] at hi
  rw [addr_add, Nat.zero_add, dg_cell_rowAt h1, h2, dg_secA_get d i hi, subL_get, Nat.zero_add]
def DgW (w : World) (g : Nat) (d : Nat → UInt8) : Prop := dg_rowOk w g = true ∧ dg_rowAt w g = dg_secA d
theorem DgW.kept {w w1 : World} {g : Nat} {s : Nat → UInt8} (h : DgW w g s) (hb : Below w.heap.size w w1) : DgW w1 g s := dg_keepRow hb (dg_lt_of_rowOk h.1) h.1 h.2
theorem DgW.new (w : World) (s : Nat → UInt8) (t : TypeId) : DgW (w.alloc (.cells (dg_secA s) t)) w.heap.size s := ⟨dg_rowOk_new _ _ _ _ rfl (dg_secA_size _), dg_rowAt_new _ _ _ _ rfl⟩
theorem DgW.lt {w : World} {g : Nat} {s : Nat → UInt8} (h : DgW w g s) : g < w.heap.size := dg_lt_of_rowOk h.1
theorem DgW.rsame {w : World} {g : Nat} {s : Nat → UInt8} (h : DgW w g s) (t : Nat → UInt8) : DgW (w.setRow g (dg_secA t)) g t := ⟨dg_rowOk_setRow_same _ _ _ h.1 (dg_secA_size _), dg_rowAt_setRow_same _ _ _ h.1⟩
theorem DgW.rne {w : World} {g k : Nat} {s : Nat → UInt8} (h : DgW w k s) (c : Array Value) (hn : k ≠ g) : DgW (w.setRow g c) k s := by
  unfold DgW dg_rowOk dg_rowAt at *
  rw [setRow_other w g k c hn]
  exact h
theorem lB_subL (s : Sc) (a n i : Nat) (h : i < n) : lB (subL s a n) i = s (a + i) := by
  unfold lB
  rw [List.getElem?_eq_getElem (by rw [subL_length]; exact h), subL_get]; rfl
theorem run_copy_dgB (w : World) (g b c : Nat) (ty : TypeId) (s0 : Nat → UInt8) (s : Sc) (a : Nat) (hg : DgW w g s0) (hb : rowB w b (subL s a 32)) :
    (Builtin.copy_ #[75, 75] ty #[.slice (some ⟨g, 0, none⟩) 32 32, .slice (some ⟨b, 0, none⟩) 32 c]).run Try.prog w = .ok (goInt 32) (w.setRow g (dg_secA (fun i => s (a + i)))) := by
  obtain ⟨tg, hg', _⟩ := dg_row_of_ok hg.1
  rw [hg.2] at hg'
  obtain ⟨D, hD⟩ : ∃ q, dg_secA s0 = q := ⟨_, rfl⟩
  have hDs : D.size = 32 := by rw [← hD, dg_secA_size]
  rw [hD] at hg'
  obtain ⟨l, hl⟩ : ∃ q, subL s a 32 = q := ⟨_, rfl⟩
  have h32 : l.length = 32 := by rw [← hl, subL_length]
  have hLB : ∀ i, i < 32 → lB l i = s (a + i) := fun i hi => by rw [← hl, lB_subL s a 32 i hi]
  rw [hl] at hb
  have hlb : (bytesA l).toList.length = 32 := by simp [h32]
  have := run_copy_row (P := Try.prog) w 75 75 ty 5 g 0 32 32 ⟨b, 0, none⟩ 32 c D tg (bytesA l).toList Try.underlying75 (by kernel_rfl) hg' (by rw [hlb]; exact (Nat.min_self 32).symm)
    (fun j v hv => by
      have hj : j < l.length := by have := (List.getElem?_eq_some_iff.1 hv).1; simpa using this
      rw [Array.getElem?_toList, bytesA_get l j hj] at hv
      rw [addr_add, Nat.zero_add, hb.cell j hj]; exact hv) (by rw [hlb, hDs]; omega) (fun v hv => by
      simp only [bytesA, List.mem_map] at hv
      obtain ⟨b, _, rfl⟩ := hv
      rfl)
  have e9 : (D.toList.take 0 ++ (bytesA l).toList ++ D.toList.drop (0 + 32)).toArray = dg_secA (fun i => s (a + i)) := by
    rw [List.take_zero, List.nil_append, List.drop_of_length_le (by simp [hDs]), List.append_nil]
    apply Array.ext_getElem?
    intro i
    by_cases hi : i < 32
    · rw [dg_secA_get _ i hi, List.getElem?_toArray, Array.getElem?_toList, bytesA_get l i (by omega), ← hLB i hi]
      unfold lB
      rw [List.getElem?_eq_getElem (by omega)]; rfl
    · rw [Array.getElem?_eq_none (by simp; omega), Array.getElem?_eq_none (by simp; omega)]
  rw [hlb, e9] at this
  exact this
set_option linter.unusedSimpArgs false in
set_option maxRecDepth 100000 in
set_option maxHeartbeats 3200000 in
theorem putDigest17 (s : Sc) (g a : Nat) (d : Nat → UInt8) (h4 : a + 32 ≤ 64) (w : World) (hs : ScR w g s) : Calls Try.prog 39 #[.pointer (some ⟨g, 0, none⟩), .int .i64 (a : Int), .agg (dg_secA d)] w fun e w' => PgQ g (layL s a (subL d 0 32)) w e w' := by
  have k1 := fun W v (hv : IsB W v (subL d 0 32)) => putBytes_any s (a : Int) v (subL d 0 32) W (by omega) (by omega) (by rw [subL_length]; decide) hv
  have e1 : layI s (a : Int) (subL d 0 32) = layL s a (subL d 0 32) := by
    unfold layI
    rw [if_pos (by rw [subL_length]; simp [inB]; omega)]; rfl
  simp only [e1] at k1
  have K1 : Hid _ := k1
  obtain ⟨T, hT⟩ : ∃ q, layL s a (subL d 0 32) = q := ⟨_, rfl⟩
  rw [hT] at K1 ⊢
  clear e1 h4 k1 hT
  have h1 := hs.kept (below_alloc w (.cells (dg_secA d) 23))
  have hdg := DgW.new w d 23
  have HK0 : Hid _ := Keep.of_below (F := [g]) (below_alloc w (.cells (dg_secA d) 23))
  have hne : g ≠ w.heap.size := by have := hs.lt; omega
  clear hs
  go_enter Try.func39, Try.ntmps39
  go_upto_region 1 with fail
  obtain ⟨gd, hgd⟩ : ∃ q, w.heap.size = q := ⟨_, rfl⟩
  rw [hgd] at hdg hne
  simp only [hgd]
  clear hgd
  generalize w.alloc (.cells (dg_secA d) 23) = X at h1 hdg HK0 ⊢
  refine wp_reliesT [Fx (.pointer (some ⟨g, 0, none⟩)), Fx (.pointer (some ⟨g, 0, none⟩)), Fx (.pointer (some ⟨g, 0, none⟩)), Fx (.pointer (some ⟨g, 0, none⟩)), Fx (.agg (secA s)), Fx (.int .i64 (a : Int)), Fx (.slice (some ⟨gd, 0, none⟩) 32 32), Fx (.agg (secA T)), Fx (.pointer (some ⟨g, 0, none⟩)), Fx (.pointer (some ⟨g, 0, none⟩))] (by kernel_rfl) (by kernel_rfl) ?_ ?_ ?_
  · repeat' (first | exact all_nil | apply all_cons)
    all_goals intro v y y' hv hb
    all_goals first | exact Fx_mono _ _ _ _ hv hb
  · refine ⟨?_, ?_, ?_, ?_, ?_, ?_, ?_, ?_, ?_, ?_, trivial⟩
    all_goals
      intro ρ x hp ρc ρg ρf ho hd
      have o0 : ρ (.tmp 0) = .pointer (some ⟨g, 0, none⟩) := ho 0 rfl
      have o1 : ρ (.tmp 1) = .int .i64 (a : Int) := ho 1 rfl
      have o5 : ρ (.tmp 5) = .pointer (some ⟨gd, 0, none⟩) := ho 5 rfl
      clear ho
      obtain ⟨y1, y2⟩ := h1.kept hp
      obtain ⟨z1, z2⟩ := hdg.kept hp
      simp only [depsR, depR, slotR, Fx, List.getElem?_cons_succ, List.getElem?_cons_zero, Region.binds, forall_const] at hd
      simp only [guardR]
      go_split_ands
    · go_simp
    · go_simp
    · go_simp
    · go_simp
    · go_simp
    · go_simp
    · go_simp
    · go_simp
      refine (K1.out x _ (dg_isB z1 z2)).mono ?_
      rintro e x' ⟨rfl, hb⟩
      exact ⟨_, rfl, rfl, hb⟩
    · go_simp
    · go_simp
  · intro vs x1 hp hw
    simp only [owed, Fx] at hw
    obtain ⟨e0, e1, e2, e3, e4, e5, e6, e7, e8, e9, -⟩ := hw
    simp only [List.length_cons, List.length_nil, List.take_succ_cons, List.take_zero, List.drop_succ_cons, List.drop_zero, asg, List.cons_append, List.nil_append, e0, e1, e2, e3, e4, e5, e6, e7, e8, e9]
    clear e0 e1 e2 e3 e4 e5 e6 e7 e8 e9
    have h2 := h1.kept hp
    have HR : Hid _ := h2.rsame T
    have HK : Hid _ := (HK0.out.trans (Keep.of_below (F := [g]) hp)).trans (keep_row x1 g (secA T))
    obtain ⟨r2, q2⟩ := h2
    clear h1 hdg HK0 K1 hp
    go_wp2
    go_end0
    exact ⟨rfl, HR.out, HK.out⟩
/-- Bytes of one's own in a new row. -/
def BsQ (n0 : Nat) (l : List UInt8) (v : Value) (x : World) : Prop := ∃ g, v = .slice (some ⟨g, 0, none⟩) l.length l.length ∧ n0 ≤ g ∧ rowB x g l
theorem BsQ.later {n0 : Nat} {l : List UInt8} {v : Value} {x y : World} (h : BsQ n0 l v x) (hb : Below x.heap.size x y) : BsQ n0 l v y := by
  obtain ⟨g, h1, h2, h3⟩ := h
  exact ⟨g, h1, h2, h3.kept hb⟩
set_option linter.unusedSimpArgs false in
set_option maxRecDepth 100000 in
set_option maxHeartbeats 3200000 in
theorem digest17 (s : Sc) (a : Nat) (h4 : a + 32 ≤ 64) (w : World) : Calls Try.prog 44 #[.agg (secA s), .int .i64 (a : Int)] w fun e w' => e = .returned (.agg (dg_secA fun i => s (a + i))) ∧ Below w.heap.size w w' := by
  have K1 : Hid _ := fun W => bytes_yes s a 32 W h4
  obtain ⟨D, hD⟩ : ∃ q, (fun i => s (a + i)) = q := ⟨_, rfl⟩
  have HC : Hid (∀ (W : World) (g b c : Nat) ty, DgW W g dg_secZ → rowB W b (subL s a 32) → (Builtin.copy_ #[75, 75] ty #[.slice (some ⟨g, 0, none⟩) 32 32, .slice (some ⟨b, 0, none⟩) 32 c]).run Try.prog W = .ok (goInt 32) (W.setRow g (dg_secA D))) := fun W g b c ty h1 h2 => by
    rw [← hD]; exact run_copy_dgB W g b c ty dg_secZ s a h1 h2
  rw [hD]
  clear hD h4
  have h1 : ScR ((w.alloc (.cells (secA s) 61)).alloc (.cells (dg_secA dg_secZ) 23)) w.heap.size s := (ScR.new w s _).kept (below_alloc _ _)
  have h2 : DgW ((w.alloc (.cells (secA s) 61)).alloc (.cells (dg_secA dg_secZ) 23)) (w.heap.size + 1) dg_secZ := by
    have := DgW.new (w.alloc (.cells (secA s) 61)) dg_secZ 23
    rw [World.size_alloc] at this
    exact this
  have hB : Below w.heap.size w ((w.alloc (.cells (secA s) 61)).alloc (.cells (dg_secA dg_secZ) 23)) := (below_alloc w _).alloc (by simp) _
  go_enter Try.func44, Try.ntmps44
  go_upto_region 1 with fail
  obtain ⟨g2, hg2⟩ : ∃ g, w.heap.size + 1 = g := ⟨_, rfl⟩
  obtain ⟨g1, hg1⟩ : ∃ g, w.heap.size = g := ⟨_, rfl⟩
  have hl2 : w.heap.size ≤ g2 := by omega
  rw [hg2] at h2
  rw [hg1] at h1
  simp only [hg2]
  simp only [hg1]
  generalize (w.alloc (.cells (secA s) 61)).alloc (.cells (dg_secA dg_secZ) 23) = X at hB h1 h2 ⊢
  clear hg1 hg2
  have bX := below_alloc X (.cells (dg_secA dg_secZ) 23)
  have h3 := DgW.new X dg_secZ 23
  have hn23 : g2 ≠ X.heap.size := by have := h2.lt; omega
  have hl3 := hB.size
  have h1' := h1.kept bX
  have h2' := h2.kept bX
  have hB' := hB.alloc hB.size (.cells (dg_secA dg_secZ) 23)
  clear h1 h2 hB bX
  go_upto_region 2 with fail
  obtain ⟨g3, hg3⟩ : ∃ q, X.heap.size = q := ⟨_, rfl⟩
  rw [hg3] at h3 hn23 hl3
  simp only [hg3]
  clear hg3
  generalize X.alloc (.cells (dg_secA dg_secZ) 23) = Y at hB' h1' h2' h3 ⊢
  refine wp_reliesT [Fx (.slice (some ⟨g3, 0, none⟩) 32 32), Fx (.pointer (some ⟨g1, 0, none⟩)), Fx (.agg (secA s)), Fx (.int .i64 (a : Int)), BsQ Y.heap.size (subL s a 32)] (by kernel_rfl) (by kernel_rfl) ?_ ?_ ?_
  · repeat' (first | exact all_nil | apply all_cons)
    all_goals intro v y y' hv hb
    all_goals first | exact Fx_mono _ _ _ _ hv hb | exact BsQ.later hv hb
  · refine ⟨?_, ?_, ?_, ?_, ?_, trivial⟩
    all_goals
      intro ρ x hp ρc ρg ρf ho hd
      have o1 : ρ (.tmp 1) = .int .i64 (a : Int) := ho 1 rfl
      have o2 : ρ (.tmp 2) = .pointer (some ⟨g1, 0, none⟩) := ho 2 rfl
      have o5 : ρ (.tmp 5) = .pointer (some ⟨g3, 0, none⟩) := ho 5 rfl
      clear ho
      obtain ⟨y1, y2⟩ := h1'.kept hp
      simp only [depsR, depR, slotR, Fx, List.getElem?_cons_succ, List.getElem?_cons_zero, Region.binds, forall_const] at hd
      simp only [guardR]
      go_split_ands
    · go_simp
    · go_simp
    · go_simp
    · go_simp
    · go_simp
      refine (K1.out x).mono ?_
      rintro e x' ⟨gb, rfl, hg, hr, hb⟩
      exact ⟨_, rfl, ⟨gb, by rw [subL_length], Nat.le_trans hp.size hg, hr⟩, hb⟩
  · intro vs x1 hp hw
    simp only [owed, Fx] at hw
    obtain ⟨e0, e1, e2, e3, ⟨gb, e4, hgb, hrow⟩, -⟩ := hw
    simp only [List.length_cons, List.length_nil, List.take_succ_cons, List.take_zero, List.drop_succ_cons, List.drop_zero, asg, List.cons_append, List.nil_append, e0, e1, e2, e3, e4]
    clear e0 e1 e2 e3 e4 hgb
    have k2 := h2'.kept hp
    have k3 := h3.kept hp
    have HB0 := hB'.trans (hp.mono hB'.size)
    have hcp := fun ty => HC.out x1 g3 gb 32 ty k3 hrow
    have k2' := k2.rne (dg_secA D) hn23
    have k3' := k3.rsame D
    have HB1 := below_row HB0 hl3 (dg_secA D)
    clear h1' h2' h3 hB' K1 HC hp k2 k3 HB0 hrow
    go_upto_region 3 with fail
    generalize x1.setRow g3 (dg_secA D) = Z at k2' k3' HB1 ⊢
    have HR : Hid _ := k2'.rsame D
    have HB : Hid _ := dg_below_row HB1 hl2 (dg_secA D)
    obtain ⟨r2, q2⟩ := k2'
    obtain ⟨r3, q3⟩ := k3'
    clear HB1 hcp
    go_wp2
    exact dg_bodyPost_sec 4 g2 rfl rfl rfl HR.out.1 ⟨by rw [HR.out.2], HB.out⟩
end Go.Proofs.Ytfdigmlhjjdggaa
