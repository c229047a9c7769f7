
import Derived.Test.YtakbapdonngpiaaSup1
import Derived.Test.YtakbapdonngpiaaRelt
namespace Go.Proofs.Ytakbapdonngpiaa
open Go.RowKit

/-! assaylaw11's known, SuperSays -/
theorem k64 : supS 64 0 = 65 ∧ supS 64 5 = 1 ∧ supS 64 8 = 64 := ⟨by rw [supS_low _ _ (by omega)]; decide, by rw [supS_low _ _ (by omega)]; decide, by rw [supS_low _ _ (by omega)]; decide⟩
theorem k1024 : supS 1024 9 = 4 := by rw [supS_low _ _ (by omega)]; decide
theorem is64 : supIs (supS 64) 64 = true := by
  unfold supIs
  rw [show (64 : Int).toNat = 64 from rfl, secEq_refl7]
  decide
theorem is65 : supIs (supS 64) 65 = false := by
  unfold supIs
  rw [show (65 : Int).toNat = 65 from rfl]
  have h : secEq (supS 64) (supS 65) = false := by
    rw [Bool.eq_false_iff]
    intro h
    have := supS_inj (n := 64) (m := 65) (by omega) (by omega) h
    omega
  rw [h]; decide
set_option maxHeartbeats 400000 in
theorem known11_any (hP : SPutOk) (hI : SIsOk) (w : World) : Calls Try.prog 6 #[] w fun e w' => e = .returned (.bool true) ∧ Below w.heap.size w w' := by
  have p1 := fun w => hP 64 w (by omega) (by omega)
  have p2 := fun w => hP 1024 w (by omega) (by omega)
  have p3 := fun w => hP 63 w (by omega) (by omega)
  have i1 := fun w => hI (supS 64) 64 w (by omega) (by omega)
  have i2 := fun w => hI (supS 64) 65 w (by omega) (by omega)
  rw [is64] at i1
  rw [is65] at i2
  have e1 : supR 64 = supS 64 ∧ supE 64 = 0 := ⟨rfl, rfl⟩
  have e2 : supR 1024 = supS 1024 ∧ supE 1024 = 0 := ⟨rfl, rfl⟩
  have e3 : supR 63 = secZ ∧ supE 63 = 22 := ⟨rfl, rfl⟩
  rw [e1.1, e1.2] at p1
  rw [e2.1, e2.2] at p2
  rw [e3.1, e3.2] at p3
  clear e1 e2 e3
  go_enter Try.func6, Try.ntmps6
  go_wp2_with fail
  go_at_call 5
  refine (p1 _).mono ?_
  rintro e w1 ⟨rfl, hb1⟩
  clear p1
  go_wp2_with fail
  go_at_call 5
  have hR1 : ScR (w1.alloc (.cells (secA (supS 64)) 25)) w1.heap.size (supS 64) := ScR.new _ _ _
  have hB1 := hb1.alloc hb1.size (.cells (secA (supS 64)) 25)
  generalize w1.alloc (.cells (secA (supS 64)) 25) = X1 at hR1 hB1 ⊢
  generalize w1.heap.size = g1 at hR1 ⊢
  clear hb1
  refine (p2 _).mono ?_
  rintro e w2 ⟨rfl, hb2⟩
  clear p2
  replace hR1 := hR1.kept hb2
  replace hB1 := hB1.trans (hb2.mono hB1.size)
  clear hb2
  have hR2 : ScR (w2.alloc (.cells (secA (supS 1024)) 25)) w2.heap.size (supS 1024) := ScR.new _ _ _
  replace hR1 : ScR (w2.alloc (.cells (secA (supS 1024)) 25)) g1 (supS 64) := hR1.kept (below_alloc _ _)
  replace hB1 := hB1.alloc hB1.size (.cells (secA (supS 1024)) 25)
  go_wp2_with fail
  go_at_call 5
  generalize w2.alloc (.cells (secA (supS 1024)) 25) = X2 at hR1 hR2 hB1 ⊢
  generalize w2.heap.size = g2 at hR2 ⊢
  refine (p3 _).mono ?_
  rintro e w3 ⟨rfl, hb3⟩
  clear p3
  replace hR1 := (hR1.kept hb3).kept (below_alloc w3 (.cells (secA secZ) 25))
  replace hR2 := (hR2.kept hb3).kept (below_alloc w3 (.cells (secA secZ) 25))
  replace hB1 := hB1.trans (hb3.mono hB1.size)
  replace hB1 := hB1.alloc hB1.size (.cells (secA secZ) 25)
  clear hb3
  go_upto_region 4 with fail
  generalize w3.alloc (.cells (secA secZ) 25) = X3 at hR1 hR2 hB1 ⊢
  have c0 := hR1.cell 0 (by omega)
  have c5 := hR1.cell 5 (by omega)
  have c8 := hR1.cell 8 (by omega)
  have c9 := hR2.cell 9 (by omega)
  rw [k64.1] at c0
  rw [k64.2.1] at c5
  rw [k64.2.2] at c8
  rw [k1024] at c9
  have HR1 : Hid (ScR X3 g1 (supS 64)) := hR1
  have HB : Hid (Below w.heap.size w X3) := hB1
  obtain ⟨r1, q1⟩ := hR1
  clear hR2 hB1
  go_wp2_with fail
  go_at_call 7
  refine (i1 _).mono ?_
  rintro e w4 ⟨rfl, hb4⟩
  clear i1 r1 q1 c0 c5 c8 c9
  obtain ⟨r1, q1⟩ := ScR.kept HR1.out hb4
  have HB2 := HB.out.trans (hb4.mono (Below.size HB.out))
  clear HB hb4 HR1
  go_wp2_with fail
  go_at_call 7
  refine (i2 _).mono ?_
  rintro e w5 ⟨rfl, hb5⟩
  have HB3 := HB2.trans (hb5.mono HB2.size)
  clear HB2 hb5 i2 r1 q1
  go_wp2
  go_ret
  exact ⟨rfl, HB3⟩
theorem says_fact (n : Int) : supIs (supR n) n = (supE n == 0) := by
  unfold supIs supR supE
  cases h : supOk n
  · rfl
  · simp only [cond_true, Bool.true_and]; rw [secEq_refl7]; rfl
set_option maxRecDepth 100000 in
set_option maxHeartbeats 400000 in
theorem lawSuperSays_any (hP : SPutOk) (hI : SIsOk) (n m : Int) (s : Sc) (w : World) (hn : -9223372036854775808 ≤ n ∧ n ≤ 9223372036854775807) (hm0 : -9223372036854775808 ≤ m) (hm1 : m ≤ 9223372036854775807) :
    Calls Try.prog 4 #[.int .i64 n, .agg (secA s), .int .i64 m] w fun e w' => e = .returned (.bool true) ∧ Below w.heap.size w w' := by
  have p1 := fun w => hP n w hn.1 hn.2
  have p2 := fun w => rsPut_any n w hn.1 hn.2
  have HS : Hid (_ = _) := says_fact n
  have HI1 : Hid (∀ w, Calls Try.prog 7 #[.agg (secA (supR n)), .int .i64 n] w fun e w' => e = .returned (.bool (supIs (supR n) n)) ∧ Below w.heap.size w w') := fun w => hI (supR n) n w hn.1 hn.2
  generalize supR n = a at *
  generalize supE n = c at *
  go_enter Try.func4, Try.ntmps4
  go_wp2_with fail
  go_at_call 5
  have hR4 : ScR (w.alloc (.cells (secA s) 25)) w.heap.size s := ScR.new _ _ _
  have hB : Below w.heap.size w (w.alloc (.cells (secA s) 25)) := below_alloc _ _
  obtain ⟨g4, hg4⟩ : ∃ g, w.heap.size = g := ⟨_, rfl⟩
  rw [hg4] at hR4
  simp only [hg4]
  clear hg4
  generalize w.alloc (.cells (secA s) 25) = X at hB hR4 ⊢
  refine (p1 _).mono ?_
  rintro e w1 ⟨rfl, hb1⟩
  clear p1
  replace hR4 := (hR4.kept hb1).kept (below_alloc w1 (.cells (secA a) 25))
  have hR7 : ScR (w1.alloc (.cells (secA a) 25)) w1.heap.size a := ScR.new _ _ _
  replace hB := hB.trans (hb1.mono hB.size)
  replace hB := hB.alloc hB.size (.cells (secA a) 25)
  go_wp2_with fail
  go_at_call 8
  generalize w1.alloc (.cells (secA a) 25) = X1 at hB hR4 hR7 ⊢
  generalize w1.heap.size = g7 at hR7 ⊢
  clear hb1
  refine (p2 _).mono ?_
  rintro e w2 ⟨rfl, hb2⟩
  clear p2
  replace hR4 := (hR4.kept hb2).kept (below_alloc w2 (.cells (secA a) 25))
  replace hR7 := (hR7.kept hb2).kept (below_alloc w2 (.cells (secA a) 25))
  have hR9 : ScR (w2.alloc (.cells (secA a) 25)) w2.heap.size a := ScR.new _ _ _
  replace hB := hB.trans (hb2.mono hB.size)
  replace hB := hB.alloc hB.size (.cells (secA a) 25)
  clear hb2
  go_upto_region 3 with fail
  generalize w2.alloc (.cells (secA a) 25) = X2 at hB hR4 hR7 hR9 ⊢
  generalize w2.heap.size = g9 at hR9 ⊢
  refine wp_relies [Fx (.agg (secA a)), Fx (.agg (secA a)), Fx (.bool false), Fx (.bool false), Fx (.int .i64 c), Fx (.int .i64 c), Fx (.bool false), Fx (.bool false), Fx (.bool false), Fx (.agg (secA s)), Fx (.int .i64 m), Fx (.bool (supIs s m)), Fx (.agg (secA s)), Fx (.int .i64 m), Fx (.bool (supIs s m)), Fx (.bool false), Fx (.bool false), Fx (.bool false), Fx (.agg (secA a)), Fx (.int .i64 m), Fx (.bool (supIs a m)), Fx (.agg (secA a)), Fx (.int .i64 m), Fx (.bool (supIs a m)), Fx (.bool false), Fx (.bool false)] (by kernel_rfl) (by kernel_rfl) ?_ ?_ ?_
  · repeat' (first | exact all_nil | apply all_cons)
    all_goals intro v y y' hv hb
    all_goals first | exact Fx_mono _ _ _ _ hv hb
  · refine ⟨?_, ?_, ?_, ?_, ?_, ?_, ?_, ?_, ?_, ?_, ?_, ?_, ?_, ?_, ?_, ?_, ?_, ?_, ?_, ?_, ?_, ?_, ?_, ?_, ?_, ?_, trivial⟩
    all_goals
      intro ρ x hp ρc ρg ρf ho hd
      have o4 : ρ (.tmp 4) = .pointer (some ⟨g4, 0, none⟩) := ho 4 rfl
      have o7 : ρ (.tmp 7) = .pointer (some ⟨g7, 0, none⟩) := ho 7 rfl
      have o9 : ρ (.tmp 9) = .pointer (some ⟨g9, 0, none⟩) := ho 9 rfl
      have o8 : ρ (.tmp 8) = .int .i64 c := ho 8 rfl
      have o10 : ρ (.tmp 10) = .int .i64 c := ho 10 rfl
      have o2 : ρ (.tmp 2) = .int .i64 m := ho 2 rfl
      clear ho
      obtain ⟨r1, q1⟩ := hR4.kept hp
      obtain ⟨r2, q2⟩ := hR7.kept hp
      obtain ⟨r3, q3⟩ := hR9.kept hp
      simp only [depsR, depR, slotR, Fx, List.getElem?_cons_succ, List.getElem?_cons_zero, Region.binds, forall_const] at hd
      simp only [guardR]
      go_split_ands
    · go_simp
    · go_simp
    · have hvv := secEq_refl7 a
      go_simp
    · go_simp
    · refine ⟨fun _ => ?_, fun hy => absurd (by simp [yieldR, slotR, *]) hy⟩
      go_simp
    · refine ⟨fun _ => ?_, fun hy => absurd (by simp [yieldR, slotR, *]) hy⟩
      go_simp
    · refine ⟨fun _ => ?_, fun hy => absurd (by simp [yieldR, slotR, *]) hy⟩
      go_simp
    · go_simp
    · go_simp
    · refine ⟨fun _ => ?_, fun hy => absurd (by simp [yieldR, slotR, *]) hy⟩
      go_simp
    · refine ⟨fun _ => ?_, fun hy => absurd (by simp [yieldR, slotR, *]) hy⟩
      go_simp
    · refine ⟨fun _ => ?_, fun hy => absurd (by simp [yieldR, slotR, *]) hy⟩
      go_simp
      refine (hI s m x hm0 hm1).mono ?_
      rintro e x' ⟨rfl, hb⟩
      exact ⟨_, rfl, rfl, hb⟩
    · refine ⟨fun _ => ?_, fun hy => absurd (by simp [yieldR, slotR, *]) hy⟩
      go_simp
    · refine ⟨fun _ => ?_, fun hy => absurd (by simp [yieldR, slotR, *]) hy⟩
      go_simp
    · refine ⟨fun _ => ?_, fun hy => absurd (by simp [yieldR, slotR, *]) hy⟩
      go_simp
      refine (rsIs_any s m x hm0 hm1).mono ?_
      rintro e x' ⟨rfl, hb⟩
      exact ⟨_, rfl, rfl, hb⟩
    · refine ⟨fun _ => ?_, fun hy => absurd (by simp [yieldR, slotR, *]) hy⟩
      go_simp
    · go_simp
    · go_simp
    · refine ⟨fun _ => ?_, fun hy => absurd (by simp [yieldR, slotR, *]) hy⟩
      go_simp
    · refine ⟨fun _ => ?_, fun hy => absurd (by simp [yieldR, slotR, *]) hy⟩
      go_simp
    · refine ⟨fun _ => ?_, fun hy => absurd (by simp [yieldR, slotR, *]) hy⟩
      go_simp
      refine (hI a m x hm0 hm1).mono ?_
      rintro e x' ⟨rfl, hb⟩
      exact ⟨_, rfl, rfl, hb⟩
    · refine ⟨fun _ => ?_, fun hy => absurd (by simp [yieldR, slotR, *]) hy⟩
      go_simp
    · refine ⟨fun _ => ?_, fun hy => absurd (by simp [yieldR, slotR, *]) hy⟩
      go_simp
    · refine ⟨fun _ => ?_, fun hy => absurd (by simp [yieldR, slotR, *]) hy⟩
      go_simp
      refine (rsIs_any a m x hm0 hm1).mono ?_
      rintro e x' ⟨rfl, hb⟩
      exact ⟨_, rfl, rfl, hb⟩
    · refine ⟨fun _ => ?_, fun hy => absurd (by simp [yieldR, slotR, *]) hy⟩
      go_simp
    · go_simp
  · intro vs x1 hp hw
    simp only [owed, Fx] at hw
    obtain ⟨e0, e1, e2, e3, e4, e5, e6, e7, e8, e9, e10, e11, e12, e13, e14, e15, e16, e17, e18, e19, e20, e21, e22, e23, e24, e25, -⟩ := hw
    simp only [List.length_cons, List.length_nil, List.take_succ_cons, List.take_nil, List.drop_succ_cons, List.drop_nil, asg, List.cons_append, List.nil_append, e0, e1, e2, e3, e4, e5, e6, e7, e8, e9, e10, e11, e12, e13, e14, e15, e16, e17, e18, e19, e20, e21, e22, e23, e24, e25]
    clear e0 e1 e2 e3 e4 e5 e6 e7 e8 e9 e10 e11 e12 e13 e14 e15 e16 e17 e18 e19 e20 e21 e22 e23 e24 e25
    have hR := hR7.kept hp
    have hB2 := hB.trans (hp.mono hB.size)
    clear hR4 hR7 hR9 hB hp
    have HR : Hid (ScR x1 g7 a) := hR
    obtain ⟨r1, q1⟩ := hR
    go_wp2_with fail
    go_at_call 7
    refine (HI1.out _).mono ?_
    rintro e w4 ⟨rfl, hb4⟩
    rw [HS.out]
    have hB3 := hB2.trans (hb4.mono hB2.size)
    clear hB2 hb4 r1 q1 HR HI1 HS
    go_wp2_with fail
    go_at_call 6
    refine (known11_any hP hI _).mono ?_
    rintro e w5 ⟨rfl, hb5⟩
    have hB4 := hB3.trans (hb5.mono hB3.size)
    clear hB3 hb5
    go_wp2
    go_ret
    exact ⟨rfl, hB4⟩
/-! SuperOne -/
theorem one_other (n m : Int) (h : supOk n = true) (hne : m ≠ n) : supIs (supS n.toNat) m = false := by
  unfold supIs
  cases hm : supOk m
  · rfl
  · rw [Bool.true_and, Bool.eq_false_iff]
    intro hh
    have h1 := (supOk_iff n).1 h
    have h2 := (supOk_iff m).1 hm
    have := supS_inj (n := n.toNat) (m := m.toNat) (by omega) (by omega) hh
    omega
theorem one_self (n : Int) (h : supOk n = true) : supIs (supS n.toNat) n = true := by
  unfold supIs
  rw [h, secEq_refl7]; rfl
theorem one_turn (n : Int) (j : Nat) (y : UInt8) (hj : j < 64) : supIs (upd (supS n.toNat) j (supS n.toNat j ^^^ (y ||| 1))) n = false := by
  unfold supIs
  rw [turn_one _ j _ hj (or1_ne y), Bool.and_false]
end Go.Proofs.Ytakbapdonngpiaa
