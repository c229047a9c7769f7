import Derived.Test.YtafbkdpheneceaaQExr
namespace Go.Proofs.Ytafbkdpheneceaa
open Go.RowKit

/-! assayref08's all, Turn, Taken, Left -/
theorem xOk_far (st : XSt) (s n : Int) (b : Bool) (hh : st.hi ≤ 1024) (h : n < 0 ∨ 1024 < n ∨ s < (st.fr : Int) ∨ 1024 < s ∨ (st.hi : Int) < s + n) : xOk st s n b = decide (n = 0) := by
  unfold xOk
  by_cases h0 : n = 0
  · simp [h0]
  · rw [decide_eq_false h0, decide_eq_false (by omega)]; rfl
theorem xOk_near (st : XSt) (s n : Int) (b : Bool) (h1 : ¬ n < 0) (h3 : ¬ s < (st.fr : Int)) (h5 : ¬ (st.hi : Int) < s + n) : xOk st s n b = allU st.f s.toNat (!b) n.toNat := by
  unfold xOk
  by_cases h0 : n = 0
  · subst h0; simp [allU]
  · rw [decide_eq_false h0, decide_eq_true (show 0 < n ∧ (st.fr : Int) ≤ s ∧ s + n ≤ (st.hi : Int) by omega)]; rfl
set_option linter.unusedSimpArgs false in
set_option maxRecDepth 100000 in
set_option maxHeartbeats 1000000 in
theorem all_far (w : World) (r : Nat) (x : Option Addr) (m c fr : Nat) (s n : Int) (b : Bool) (d0 : w.cell? ⟨r, 0, none⟩ = some (.int .i64 (fr : Int))) (d1 : w.cell? ⟨r, 1, none⟩ = some (.slice x m c)) (hm : fr + m ≤ 1024) (h : n < 0 ∨ 1024 < n ∨ s < (fr : Int) ∨ 1024 < s ∨ (fr : Int) + (m : Int) < s + n) :
    Calls Try.prog 41 #[.pointer (some ⟨r, 0, none⟩), .int .i64 s, .int .i64 n, .bool b] w fun e w' => e = .returned (.bool (decide (n = 0))) ∧ Below w.heap.size w w' := by
  obtain ⟨z, hz⟩ : ∃ z, decide (n = 0) = z := ⟨_, rfl⟩
  have HZ : Hid (decide (n = 0) = z) := hz
  rw [hz]
  clear hz
  go_enter Try.func41, Try.ntmps41
  go_upto_region 1 with fail
  have h6 : (n < 0) ∨ (¬ n < 0 ∧ 1024 < n) ∨ (¬ n < 0 ∧ ¬ 1024 < n ∧ s < (fr : Int)) ∨ (¬ n < 0 ∧ ¬ 1024 < n ∧ ¬ s < (fr : Int) ∧ 1024 < s) ∨ (¬ n < 0 ∧ ¬ 1024 < n ∧ ¬ s < (fr : Int) ∧ ¬ 1024 < s ∧ (fr : Int) + (m : Int) < s + n) := by omega
  clear h
  rcases h6 with h6 | h6 | h6 | h6 | h6
  · have FC : Hid ((n < 0) ∧ True) := by show _ ∧ _; refine ⟨by omega, trivial⟩
    clear h6
    refine wp_relies [Fx (.int .i64 (n)), Fx (.bool true), Fx (.bool true), Fx (undef), Fx (undef), Fx (.bool true), Fx (.bool true), Fx (undef), Fx (undef), Fx (undef), Fx (undef), Fx (undef), Fx (undef), Fx (.bool true), Fx (.bool true), Fx (undef), Fx (undef), Fx (.bool true), Fx (.bool true), Fx (undef), Fx (undef), Fx (undef), Fx (undef), Fx (undef), Fx (undef), Fx (undef), Fx (undef), Fx (undef), Fx (undef), Fx (undef), Fx (undef), Fx (undef), Fx (undef), Fx (.bool true)] (by kernel_rfl) (by kernel_rfl) ?_ ?_ ?_
    · repeat' (first | exact all_nil | apply all_cons)
      all_goals intro v y y' hv hb
      all_goals first | exact Fx_mono _ _ _ _ hv hb
    · refine ⟨?_, ?_, ?_, ?_, ?_, ?_, ?_, ?_, ?_, ?_, ?_, ?_, ?_, ?_, ?_, ?_, ?_, ?_, ?_, ?_, ?_, ?_, ?_, ?_, ?_, ?_, ?_, ?_, ?_, ?_, ?_, ?_, ?_, ?_, trivial⟩
      all_goals
        intro ρ x hp ρc ρg ρf ho hd
        have o0 : ρ (.tmp 0) = .pointer (some ⟨r, 0, none⟩) := ho 0 rfl
        have o1 : ρ (.tmp 1) = .int .i64 (s) := ho 1 rfl
        have o2 : ρ (.tmp 2) = .int .i64 (n) := ho 2 rfl
        clear ho
        have k0 := cell_later hp d0
        have k1 := cell_later hp d1
        simp only [depsR, depR, slotR, Fx, List.getElem?_cons_succ, List.getElem?_cons_zero, Region.binds, forall_const] at hd
        simp only [guardR]
        go_split_ands
      · go_simp
      · have hq := FC.out
        go_simp
      · go_simp
      · refine ⟨fun hy => ?_, fun _ => rfl⟩
        exfalso; simp [yieldR, slotR, undef, *] at hy
      · refine ⟨fun hy => ?_, fun _ => rfl⟩
        exfalso; simp [yieldR, slotR, undef, *] at hy
      · go_simp
      · go_simp
      · refine ⟨fun hy => ?_, fun _ => rfl⟩
        exfalso; simp [yieldR, slotR, undef, *] at hy
      · refine ⟨fun hy => ?_, fun _ => rfl⟩
        exfalso; simp [yieldR, slotR, undef, *] at hy
      · refine ⟨fun hy => ?_, fun _ => rfl⟩
        exfalso; simp [yieldR, slotR, undef, *] at hy
      · refine ⟨fun hy => ?_, fun _ => rfl⟩
        exfalso; simp [yieldR, slotR, undef, *] at hy
      · refine ⟨fun hy => ?_, fun _ => rfl⟩
        exfalso; simp [yieldR, slotR, undef, *] at hy
      · refine ⟨fun hy => ?_, fun _ => rfl⟩
        exfalso; simp [yieldR, slotR, undef, *] at hy
      · go_simp
      · go_simp
      · refine ⟨fun hy => ?_, fun _ => rfl⟩
        exfalso; simp [yieldR, slotR, undef, *] at hy
      · refine ⟨fun hy => ?_, fun _ => rfl⟩
        exfalso; simp [yieldR, slotR, undef, *] at hy
      · go_simp
      · go_simp
      · refine ⟨fun hy => ?_, fun _ => rfl⟩
        exfalso; simp [yieldR, slotR, undef, *] at hy
      · refine ⟨fun hy => ?_, fun _ => rfl⟩
        exfalso; simp [yieldR, slotR, undef, *] at hy
      · refine ⟨fun hy => ?_, fun _ => rfl⟩
        exfalso; simp [yieldR, slotR, undef, *] at hy
      · refine ⟨fun hy => ?_, fun _ => rfl⟩
        exfalso; simp [yieldR, slotR, undef, *] at hy
      · refine ⟨fun hy => ?_, fun _ => rfl⟩
        exfalso; simp [yieldR, slotR, undef, *] at hy
      · refine ⟨fun hy => ?_, fun _ => rfl⟩
        exfalso; simp [yieldR, slotR, undef, *] at hy
      · refine ⟨fun hy => ?_, fun _ => rfl⟩
        exfalso; simp [yieldR, slotR, undef, *] at hy
      · refine ⟨fun hy => ?_, fun _ => rfl⟩
        exfalso; simp [yieldR, slotR, undef, *] at hy
      · refine ⟨fun hy => ?_, fun _ => rfl⟩
        exfalso; simp [yieldR, slotR, undef, *] at hy
      · refine ⟨fun hy => ?_, fun _ => rfl⟩
        exfalso; simp [yieldR, slotR, undef, *] at hy
      · refine ⟨fun hy => ?_, fun _ => rfl⟩
        exfalso; simp [yieldR, slotR, undef, *] at hy
      · refine ⟨fun hy => ?_, fun _ => rfl⟩
        exfalso; simp [yieldR, slotR, undef, *] at hy
      · refine ⟨fun hy => ?_, fun _ => rfl⟩
        exfalso; simp [yieldR, slotR, undef, *] at hy
      · refine ⟨fun hy => ?_, fun _ => rfl⟩
        exfalso; simp [yieldR, slotR, undef, *] at hy
      · go_simp
    · intro vs x1 hp hw
      simp only [owed, Fx] at hw
      obtain ⟨e0, e1, e2, e3, e4, e5, e6, e7, e8, e9, e10, e11, e12, e13, e14, e15, e16, e17, e18, e19, e20, e21, e22, e23, e24, e25, e26, e27, e28, e29, e30, e31, e32, e33, -⟩ := hw
      simp only [List.length_cons, List.length_nil, List.take_succ_cons, List.take_nil, List.drop_succ_cons, List.drop_nil, asg, List.cons_append, List.nil_append, e0, e1, e2, e3, e4, e5, e6, e7, e8, e9, e10, e11, e12, e13, e14, e15, e16, e17, e18, e19, e20, e21, e22, e23, e24, e25, e26, e27, e28, e29, e30, e31, e32, e33]
      clear e0 e1 e2 e3 e4 e5 e6 e7 e8 e9 e10 e11 e12 e13 e14 e15 e16 e17 e18 e19 e20 e21 e22 e23 e24 e25 e26 e27 e28 e29 e30 e31 e32 e33
      have HB : Hid _ := hp
      clear d0 d1 FC hp
      go_wp2
      go_ret
      exact ⟨by rw [← HZ.out]; rfl, HB.out⟩
  · have FC : Hid (¬ (n < 0) ∧ (1024 < n) ∧ True) := by show _ ∧ _; refine ⟨by omega, by omega, trivial⟩
    clear h6
    refine wp_relies [Fx (.int .i64 (n)), Fx (.bool false), Fx (.bool false), Fx (.int .i64 (n)), Fx (.bool true), Fx (.bool true), Fx (.bool true), Fx (undef), Fx (undef), Fx (undef), Fx (undef), Fx (undef), Fx (undef), Fx (.bool true), Fx (.bool true), Fx (undef), Fx (undef), Fx (.bool true), Fx (.bool true), Fx (undef), Fx (undef), Fx (undef), Fx (undef), Fx (undef), Fx (undef), Fx (undef), Fx (undef), Fx (undef), Fx (undef), Fx (undef), Fx (undef), Fx (undef), Fx (undef), Fx (.bool true)] (by kernel_rfl) (by kernel_rfl) ?_ ?_ ?_
    · repeat' (first | exact all_nil | apply all_cons)
      all_goals intro v y y' hv hb
      all_goals first | exact Fx_mono _ _ _ _ hv hb
    · refine ⟨?_, ?_, ?_, ?_, ?_, ?_, ?_, ?_, ?_, ?_, ?_, ?_, ?_, ?_, ?_, ?_, ?_, ?_, ?_, ?_, ?_, ?_, ?_, ?_, ?_, ?_, ?_, ?_, ?_, ?_, ?_, ?_, ?_, ?_, trivial⟩
      all_goals
        intro ρ x hp ρc ρg ρf ho hd
        have o0 : ρ (.tmp 0) = .pointer (some ⟨r, 0, none⟩) := ho 0 rfl
        have o1 : ρ (.tmp 1) = .int .i64 (s) := ho 1 rfl
        have o2 : ρ (.tmp 2) = .int .i64 (n) := ho 2 rfl
        clear ho
        have k0 := cell_later hp d0
        have k1 := cell_later hp d1
        simp only [depsR, depR, slotR, Fx, List.getElem?_cons_succ, List.getElem?_cons_zero, Region.binds, forall_const] at hd
        simp only [guardR]
        go_split_ands
      · go_simp
      · have hq := FC.out
        go_simp
      · go_simp
      · refine ⟨fun _ => ?_, fun hy => absurd (by simp [yieldR, slotR, *]) hy⟩
        go_simp
      · refine ⟨fun _ => ?_, fun hy => absurd (by simp [yieldR, slotR, *]) hy⟩
        have hq := FC.out
        go_simp
      · go_simp
      · go_simp
      · refine ⟨fun hy => ?_, fun _ => rfl⟩
        exfalso; simp [yieldR, slotR, undef, *] at hy
      · refine ⟨fun hy => ?_, fun _ => rfl⟩
        exfalso; simp [yieldR, slotR, undef, *] at hy
      · refine ⟨fun hy => ?_, fun _ => rfl⟩
        exfalso; simp [yieldR, slotR, undef, *] at hy
      · refine ⟨fun hy => ?_, fun _ => rfl⟩
        exfalso; simp [yieldR, slotR, undef, *] at hy
      · refine ⟨fun hy => ?_, fun _ => rfl⟩
        exfalso; simp [yieldR, slotR, undef, *] at hy
      · refine ⟨fun hy => ?_, fun _ => rfl⟩
        exfalso; simp [yieldR, slotR, undef, *] at hy
      · go_simp
      · go_simp
      · refine ⟨fun hy => ?_, fun _ => rfl⟩
        exfalso; simp [yieldR, slotR, undef, *] at hy
      · refine ⟨fun hy => ?_, fun _ => rfl⟩
        exfalso; simp [yieldR, slotR, undef, *] at hy
      · go_simp
      · go_simp
      · refine ⟨fun hy => ?_, fun _ => rfl⟩
        exfalso; simp [yieldR, slotR, undef, *] at hy
      · refine ⟨fun hy => ?_, fun _ => rfl⟩
        exfalso; simp [yieldR, slotR, undef, *] at hy
      · refine ⟨fun hy => ?_, fun _ => rfl⟩
        exfalso; simp [yieldR, slotR, undef, *] at hy
      · refine ⟨fun hy => ?_, fun _ => rfl⟩
        exfalso; simp [yieldR, slotR, undef, *] at hy
      · refine ⟨fun hy => ?_, fun _ => rfl⟩
        exfalso; simp [yieldR, slotR, undef, *] at hy
      · refine ⟨fun hy => ?_, fun _ => rfl⟩
        exfalso; simp [yieldR, slotR, undef, *] at hy
      · refine ⟨fun hy => ?_, fun _ => rfl⟩
        exfalso; simp [yieldR, slotR, undef, *] at hy
      · refine ⟨fun hy => ?_, fun _ => rfl⟩
        exfalso; simp [yieldR, slotR, undef, *] at hy
      · refine ⟨fun hy => ?_, fun _ => rfl⟩
        exfalso; simp [yieldR, slotR, undef, *] at hy
      · refine ⟨fun hy => ?_, fun _ => rfl⟩
        exfalso; simp [yieldR, slotR, undef, *] at hy
      · refine ⟨fun hy => ?_, fun _ => rfl⟩
        exfalso; simp [yieldR, slotR, undef, *] at hy
      · refine ⟨fun hy => ?_, fun _ => rfl⟩
        exfalso; simp [yieldR, slotR, undef, *] at hy
      · refine ⟨fun hy => ?_, fun _ => rfl⟩
        exfalso; simp [yieldR, slotR, undef, *] at hy
      · refine ⟨fun hy => ?_, fun _ => rfl⟩
        exfalso; simp [yieldR, slotR, undef, *] at hy
      · go_simp
    · intro vs x1 hp hw
      simp only [owed, Fx] at hw
      obtain ⟨e0, e1, e2, e3, e4, e5, e6, e7, e8, e9, e10, e11, e12, e13, e14, e15, e16, e17, e18, e19, e20, e21, e22, e23, e24, e25, e26, e27, e28, e29, e30, e31, e32, e33, -⟩ := hw
      simp only [List.length_cons, List.length_nil, List.take_succ_cons, List.take_nil, List.drop_succ_cons, List.drop_nil, asg, List.cons_append, List.nil_append, e0, e1, e2, e3, e4, e5, e6, e7, e8, e9, e10, e11, e12, e13, e14, e15, e16, e17, e18, e19, e20, e21, e22, e23, e24, e25, e26, e27, e28, e29, e30, e31, e32, e33]
      clear e0 e1 e2 e3 e4 e5 e6 e7 e8 e9 e10 e11 e12 e13 e14 e15 e16 e17 e18 e19 e20 e21 e22 e23 e24 e25 e26 e27 e28 e29 e30 e31 e32 e33
      have HB : Hid _ := hp
      clear d0 d1 FC hp
      go_wp2
      go_ret
      exact ⟨by rw [← HZ.out]; rfl, HB.out⟩
  · have FC : Hid (¬ (n < 0) ∧ ¬ (1024 < n) ∧ (s < (fr : Int)) ∧ True) := by show _ ∧ _; refine ⟨by omega, by omega, by omega, trivial⟩
    clear h6
    refine wp_relies [Fx (.int .i64 (n)), Fx (.bool false), Fx (.bool false), Fx (.int .i64 (n)), Fx (.bool false), Fx (.bool false), Fx (.bool false), Fx (.int .i64 (s)), Fx (.pointer (some ⟨r, 0, none⟩)), Fx (.pointer (some ⟨r, 0, none⟩)), Fx (.pointer (some ⟨r, 0, none⟩)), Fx (.int .i64 ((fr : Int))), Fx (.bool true), Fx (.bool true), Fx (.bool true), Fx (undef), Fx (undef), Fx (.bool true), Fx (.bool true), Fx (undef), Fx (undef), Fx (undef), Fx (undef), Fx (undef), Fx (undef), Fx (undef), Fx (undef), Fx (undef), Fx (undef), Fx (undef), Fx (undef), Fx (undef), Fx (undef), Fx (.bool true)] (by kernel_rfl) (by kernel_rfl) ?_ ?_ ?_
    · repeat' (first | exact all_nil | apply all_cons)
      all_goals intro v y y' hv hb
      all_goals first | exact Fx_mono _ _ _ _ hv hb
    · refine ⟨?_, ?_, ?_, ?_, ?_, ?_, ?_, ?_, ?_, ?_, ?_, ?_, ?_, ?_, ?_, ?_, ?_, ?_, ?_, ?_, ?_, ?_, ?_, ?_, ?_, ?_, ?_, ?_, ?_, ?_, ?_, ?_, ?_, ?_, trivial⟩
      all_goals
        intro ρ x hp ρc ρg ρf ho hd
        have o0 : ρ (.tmp 0) = .pointer (some ⟨r, 0, none⟩) := ho 0 rfl
        have o1 : ρ (.tmp 1) = .int .i64 (s) := ho 1 rfl
        have o2 : ρ (.tmp 2) = .int .i64 (n) := ho 2 rfl
        clear ho
        have k0 := cell_later hp d0
        have k1 := cell_later hp d1
        simp only [depsR, depR, slotR, Fx, List.getElem?_cons_succ, List.getElem?_cons_zero, Region.binds, forall_const] at hd
        simp only [guardR]
        go_split_ands
      · go_simp
      · have hq := FC.out
        go_simp
      · go_simp
      · refine ⟨fun _ => ?_, fun hy => absurd (by simp [yieldR, slotR, *]) hy⟩
        go_simp
      · refine ⟨fun _ => ?_, fun hy => absurd (by simp [yieldR, slotR, *]) hy⟩
        have hq := FC.out
        go_simp
      · go_simp
      · go_simp
      · refine ⟨fun _ => ?_, fun hy => absurd (by simp [yieldR, slotR, *]) hy⟩
        go_simp
      · refine ⟨fun _ => ?_, fun hy => absurd (by simp [yieldR, slotR, *]) hy⟩
        go_simp
      · refine ⟨fun _ => ?_, fun hy => absurd (by simp [yieldR, slotR, *]) hy⟩
        go_simp
      · refine ⟨fun _ => ?_, fun hy => absurd (by simp [yieldR, slotR, *]) hy⟩
        go_simp
      · refine ⟨fun _ => ?_, fun hy => absurd (by simp [yieldR, slotR, *]) hy⟩
        go_simp
      · refine ⟨fun _ => ?_, fun hy => absurd (by simp [yieldR, slotR, *]) hy⟩
        have hq := FC.out
        go_simp
      · go_simp
      · go_simp
      · refine ⟨fun hy => ?_, fun _ => rfl⟩
        exfalso; simp [yieldR, slotR, undef, *] at hy
      · refine ⟨fun hy => ?_, fun _ => rfl⟩
        exfalso; simp [yieldR, slotR, undef, *] at hy
      · go_simp
      · go_simp
      · refine ⟨fun hy => ?_, fun _ => rfl⟩
        exfalso; simp [yieldR, slotR, undef, *] at hy
      · refine ⟨fun hy => ?_, fun _ => rfl⟩
        exfalso; simp [yieldR, slotR, undef, *] at hy
      · refine ⟨fun hy => ?_, fun _ => rfl⟩
        exfalso; simp [yieldR, slotR, undef, *] at hy
      · refine ⟨fun hy => ?_, fun _ => rfl⟩
        exfalso; simp [yieldR, slotR, undef, *] at hy
      · refine ⟨fun hy => ?_, fun _ => rfl⟩
        exfalso; simp [yieldR, slotR, undef, *] at hy
      · refine ⟨fun hy => ?_, fun _ => rfl⟩
        exfalso; simp [yieldR, slotR, undef, *] at hy
      · refine ⟨fun hy => ?_, fun _ => rfl⟩
        exfalso; simp [yieldR, slotR, undef, *] at hy
      · refine ⟨fun hy => ?_, fun _ => rfl⟩
        exfalso; simp [yieldR, slotR, undef, *] at hy
      · refine ⟨fun hy => ?_, fun _ => rfl⟩
        exfalso; simp [yieldR, slotR, undef, *] at hy
      · refine ⟨fun hy => ?_, fun _ => rfl⟩
        exfalso; simp [yieldR, slotR, undef, *] at hy
      · refine ⟨fun hy => ?_, fun _ => rfl⟩
        exfalso; simp [yieldR, slotR, undef, *] at hy
      · refine ⟨fun hy => ?_, fun _ => rfl⟩
        exfalso; simp [yieldR, slotR, undef, *] at hy
      · refine ⟨fun hy => ?_, fun _ => rfl⟩
        exfalso; simp [yieldR, slotR, undef, *] at hy
      · refine ⟨fun hy => ?_, fun _ => rfl⟩
        exfalso; simp [yieldR, slotR, undef, *] at hy
      · go_simp
    · intro vs x1 hp hw
      simp only [owed, Fx] at hw
      obtain ⟨e0, e1, e2, e3, e4, e5, e6, e7, e8, e9, e10, e11, e12, e13, e14, e15, e16, e17, e18, e19, e20, e21, e22, e23, e24, e25, e26, e27, e28, e29, e30, e31, e32, e33, -⟩ := hw
      simp only [List.length_cons, List.length_nil, List.take_succ_cons, List.take_nil, List.drop_succ_cons, List.drop_nil, asg, List.cons_append, List.nil_append, e0, e1, e2, e3, e4, e5, e6, e7, e8, e9, e10, e11, e12, e13, e14, e15, e16, e17, e18, e19, e20, e21, e22, e23, e24, e25, e26, e27, e28, e29, e30, e31, e32, e33]
      clear e0 e1 e2 e3 e4 e5 e6 e7 e8 e9 e10 e11 e12 e13 e14 e15 e16 e17 e18 e19 e20 e21 e22 e23 e24 e25 e26 e27 e28 e29 e30 e31 e32 e33
      have HB : Hid _ := hp
      clear d0 d1 FC hp
      go_wp2
      go_ret
      exact ⟨by rw [← HZ.out]; rfl, HB.out⟩
  · have FC : Hid (¬ (n < 0) ∧ ¬ (1024 < n) ∧ ¬ (s < (fr : Int)) ∧ (1024 < s) ∧ True) := by show _ ∧ _; refine ⟨by omega, by omega, by omega, by omega, trivial⟩
    clear h6
    refine wp_relies [Fx (.int .i64 (n)), Fx (.bool false), Fx (.bool false), Fx (.int .i64 (n)), Fx (.bool false), Fx (.bool false), Fx (.bool false), Fx (.int .i64 (s)), Fx (.pointer (some ⟨r, 0, none⟩)), Fx (.pointer (some ⟨r, 0, none⟩)), Fx (.pointer (some ⟨r, 0, none⟩)), Fx (.int .i64 ((fr : Int))), Fx (.bool false), Fx (.bool false), Fx (.bool false), Fx (.int .i64 (s)), Fx (.bool true), Fx (.bool true), Fx (.bool true), Fx (undef), Fx (undef), Fx (undef), Fx (undef), Fx (undef), Fx (undef), Fx (undef), Fx (undef), Fx (undef), Fx (undef), Fx (undef), Fx (undef), Fx (undef), Fx (undef), Fx (.bool true)] (by kernel_rfl) (by kernel_rfl) ?_ ?_ ?_
    · repeat' (first | exact all_nil | apply all_cons)
      all_goals intro v y y' hv hb
      all_goals first | exact Fx_mono _ _ _ _ hv hb
    · refine ⟨?_, ?_, ?_, ?_, ?_, ?_, ?_, ?_, ?_, ?_, ?_, ?_, ?_, ?_, ?_, ?_, ?_, ?_, ?_, ?_, ?_, ?_, ?_, ?_, ?_, ?_, ?_, ?_, ?_, ?_, ?_, ?_, ?_, ?_, trivial⟩
      all_goals
        intro ρ x hp ρc ρg ρf ho hd
        have o0 : ρ (.tmp 0) = .pointer (some ⟨r, 0, none⟩) := ho 0 rfl
        have o1 : ρ (.tmp 1) = .int .i64 (s) := ho 1 rfl
        have o2 : ρ (.tmp 2) = .int .i64 (n) := ho 2 rfl
        clear ho
        have k0 := cell_later hp d0
        have k1 := cell_later hp d1
        simp only [depsR, depR, slotR, Fx, List.getElem?_cons_succ, List.getElem?_cons_zero, Region.binds, forall_const] at hd
        simp only [guardR]
        go_split_ands
      · go_simp
      · have hq := FC.out
        go_simp
      · go_simp
      · refine ⟨fun _ => ?_, fun hy => absurd (by simp [yieldR, slotR, *]) hy⟩
        go_simp
      · refine ⟨fun _ => ?_, fun hy => absurd (by simp [yieldR, slotR, *]) hy⟩
        have hq := FC.out
        go_simp
      · go_simp
      · go_simp
      · refine ⟨fun _ => ?_, fun hy => absurd (by simp [yieldR, slotR, *]) hy⟩
        go_simp
      · refine ⟨fun _ => ?_, fun hy => absurd (by simp [yieldR, slotR, *]) hy⟩
        go_simp
      · refine ⟨fun _ => ?_, fun hy => absurd (by simp [yieldR, slotR, *]) hy⟩
        go_simp
      · refine ⟨fun _ => ?_, fun hy => absurd (by simp [yieldR, slotR, *]) hy⟩
        go_simp
      · refine ⟨fun _ => ?_, fun hy => absurd (by simp [yieldR, slotR, *]) hy⟩
        go_simp
      · refine ⟨fun _ => ?_, fun hy => absurd (by simp [yieldR, slotR, *]) hy⟩
        have hq := FC.out
        go_simp
      · go_simp
      · go_simp
      · refine ⟨fun _ => ?_, fun hy => absurd (by simp [yieldR, slotR, *]) hy⟩
        go_simp
      · refine ⟨fun _ => ?_, fun hy => absurd (by simp [yieldR, slotR, *]) hy⟩
        have hq := FC.out
        go_simp
      · go_simp
      · go_simp
      · refine ⟨fun hy => ?_, fun _ => rfl⟩
        exfalso; simp [yieldR, slotR, undef, *] at hy
      · refine ⟨fun hy => ?_, fun _ => rfl⟩
        exfalso; simp [yieldR, slotR, undef, *] at hy
      · refine ⟨fun hy => ?_, fun _ => rfl⟩
        exfalso; simp [yieldR, slotR, undef, *] at hy
      · refine ⟨fun hy => ?_, fun _ => rfl⟩
        exfalso; simp [yieldR, slotR, undef, *] at hy
      · refine ⟨fun hy => ?_, fun _ => rfl⟩
        exfalso; simp [yieldR, slotR, undef, *] at hy
      · refine ⟨fun hy => ?_, fun _ => rfl⟩
        exfalso; simp [yieldR, slotR, undef, *] at hy
      · refine ⟨fun hy => ?_, fun _ => rfl⟩
        exfalso; simp [yieldR, slotR, undef, *] at hy
      · refine ⟨fun hy => ?_, fun _ => rfl⟩
        exfalso; simp [yieldR, slotR, undef, *] at hy
      · refine ⟨fun hy => ?_, fun _ => rfl⟩
        exfalso; simp [yieldR, slotR, undef, *] at hy
      · refine ⟨fun hy => ?_, fun _ => rfl⟩
        exfalso; simp [yieldR, slotR, undef, *] at hy
      · refine ⟨fun hy => ?_, fun _ => rfl⟩
        exfalso; simp [yieldR, slotR, undef, *] at hy
      · refine ⟨fun hy => ?_, fun _ => rfl⟩
        exfalso; simp [yieldR, slotR, undef, *] at hy
      · refine ⟨fun hy => ?_, fun _ => rfl⟩
        exfalso; simp [yieldR, slotR, undef, *] at hy
      · refine ⟨fun hy => ?_, fun _ => rfl⟩
        exfalso; simp [yieldR, slotR, undef, *] at hy
      · go_simp
    · intro vs x1 hp hw
      simp only [owed, Fx] at hw
      obtain ⟨e0, e1, e2, e3, e4, e5, e6, e7, e8, e9, e10, e11, e12, e13, e14, e15, e16, e17, e18, e19, e20, e21, e22, e23, e24, e25, e26, e27, e28, e29, e30, e31, e32, e33, -⟩ := hw
      simp only [List.length_cons, List.length_nil, List.take_succ_cons, List.take_nil, List.drop_succ_cons, List.drop_nil, asg, List.cons_append, List.nil_append, e0, e1, e2, e3, e4, e5, e6, e7, e8, e9, e10, e11, e12, e13, e14, e15, e16, e17, e18, e19, e20, e21, e22, e23, e24, e25, e26, e27, e28, e29, e30, e31, e32, e33]
      clear e0 e1 e2 e3 e4 e5 e6 e7 e8 e9 e10 e11 e12 e13 e14 e15 e16 e17 e18 e19 e20 e21 e22 e23 e24 e25 e26 e27 e28 e29 e30 e31 e32 e33
      have HB : Hid _ := hp
      clear d0 d1 FC hp
      go_wp2
      go_ret
      exact ⟨by rw [← HZ.out]; rfl, HB.out⟩
  · have FC : Hid (¬ (n < 0) ∧ ¬ (1024 < n) ∧ ¬ (s < (fr : Int)) ∧ ¬ (1024 < s) ∧ ((fr : Int) + (m : Int) < s + n) ∧ IntKind.i64.wrap (s + n) = s + n ∧ IntKind.i64.wrap ((fr : Int) + (m : Int)) = (fr : Int) + (m : Int) ∧ True) := by show _ ∧ _; refine ⟨by omega, by omega, by omega, by omega, by omega, by rw [IntKind.wrap_i64]; omega, by rw [IntKind.wrap_i64]; omega, trivial⟩
    clear h6
    refine wp_relies [Fx (.int .i64 (n)), Fx (.bool false), Fx (.bool false), Fx (.int .i64 (n)), Fx (.bool false), Fx (.bool false), Fx (.bool false), Fx (.int .i64 (s)), Fx (.pointer (some ⟨r, 0, none⟩)), Fx (.pointer (some ⟨r, 0, none⟩)), Fx (.pointer (some ⟨r, 0, none⟩)), Fx (.int .i64 ((fr : Int))), Fx (.bool false), Fx (.bool false), Fx (.bool false), Fx (.int .i64 (s)), Fx (.bool false), Fx (.bool false), Fx (.bool false), Fx (.int .i64 (s)), Fx (.int .i64 (n)), Fx (.int .i64 (s + n)), Fx (.pointer (some ⟨r, 0, none⟩)), Fx (.pointer (some ⟨r, 0, none⟩)), Fx (.pointer (some ⟨r, 0, none⟩)), Fx (.int .i64 ((fr : Int))), Fx (.pointer (some ⟨r, 0, none⟩)), Fx (.pointer (some ⟨r, 0, none⟩)), Fx (.pointer (some ⟨r, 1, none⟩)), Fx (.slice x m c), Fx (.int .i64 ((m : Int))), Fx (.int .i64 ((fr : Int) + (m : Int))), Fx (.bool true), Fx (.bool true)] (by kernel_rfl) (by kernel_rfl) ?_ ?_ ?_
    · repeat' (first | exact all_nil | apply all_cons)
      all_goals intro v y y' hv hb
      all_goals first | exact Fx_mono _ _ _ _ hv hb
    · refine ⟨?_, ?_, ?_, ?_, ?_, ?_, ?_, ?_, ?_, ?_, ?_, ?_, ?_, ?_, ?_, ?_, ?_, ?_, ?_, ?_, ?_, ?_, ?_, ?_, ?_, ?_, ?_, ?_, ?_, ?_, ?_, ?_, ?_, ?_, trivial⟩
      all_goals
        intro ρ x hp ρc ρg ρf ho hd
        have o0 : ρ (.tmp 0) = .pointer (some ⟨r, 0, none⟩) := ho 0 rfl
        have o1 : ρ (.tmp 1) = .int .i64 (s) := ho 1 rfl
        have o2 : ρ (.tmp 2) = .int .i64 (n) := ho 2 rfl
        clear ho
        have k0 := cell_later hp d0
        have k1 := cell_later hp d1
        simp only [depsR, depR, slotR, Fx, List.getElem?_cons_succ, List.getElem?_cons_zero, Region.binds, forall_const] at hd
        simp only [guardR]
        go_split_ands
      · go_simp
      · have hq := FC.out
        go_simp
      · go_simp
      · refine ⟨fun _ => ?_, fun hy => absurd (by simp [yieldR, slotR, *]) hy⟩
        go_simp
      · refine ⟨fun _ => ?_, fun hy => absurd (by simp [yieldR, slotR, *]) hy⟩
        have hq := FC.out
        go_simp
      · go_simp
      · go_simp
      · refine ⟨fun _ => ?_, fun hy => absurd (by simp [yieldR, slotR, *]) hy⟩
        go_simp
      · refine ⟨fun _ => ?_, fun hy => absurd (by simp [yieldR, slotR, *]) hy⟩
        go_simp
      · refine ⟨fun _ => ?_, fun hy => absurd (by simp [yieldR, slotR, *]) hy⟩
        go_simp
      · refine ⟨fun _ => ?_, fun hy => absurd (by simp [yieldR, slotR, *]) hy⟩
        go_simp
      · refine ⟨fun _ => ?_, fun hy => absurd (by simp [yieldR, slotR, *]) hy⟩
        go_simp
      · refine ⟨fun _ => ?_, fun hy => absurd (by simp [yieldR, slotR, *]) hy⟩
        have hq := FC.out
        go_simp
      · go_simp
      · go_simp
      · refine ⟨fun _ => ?_, fun hy => absurd (by simp [yieldR, slotR, *]) hy⟩
        go_simp
      · refine ⟨fun _ => ?_, fun hy => absurd (by simp [yieldR, slotR, *]) hy⟩
        have hq := FC.out
        go_simp
      · go_simp
      · go_simp
      · refine ⟨fun _ => ?_, fun hy => absurd (by simp [yieldR, slotR, *]) hy⟩
        go_simp
      · refine ⟨fun _ => ?_, fun hy => absurd (by simp [yieldR, slotR, *]) hy⟩
        go_simp
      · refine ⟨fun _ => ?_, fun hy => absurd (by simp [yieldR, slotR, *]) hy⟩
        have hq := FC.out
        go_simp
      · refine ⟨fun _ => ?_, fun hy => absurd (by simp [yieldR, slotR, *]) hy⟩
        go_simp
      · refine ⟨fun _ => ?_, fun hy => absurd (by simp [yieldR, slotR, *]) hy⟩
        go_simp
      · refine ⟨fun _ => ?_, fun hy => absurd (by simp [yieldR, slotR, *]) hy⟩
        go_simp
      · refine ⟨fun _ => ?_, fun hy => absurd (by simp [yieldR, slotR, *]) hy⟩
        go_simp
      · refine ⟨fun _ => ?_, fun hy => absurd (by simp [yieldR, slotR, *]) hy⟩
        go_simp
      · refine ⟨fun _ => ?_, fun hy => absurd (by simp [yieldR, slotR, *]) hy⟩
        go_simp
      · refine ⟨fun _ => ?_, fun hy => absurd (by simp [yieldR, slotR, *]) hy⟩
        go_simp
      · refine ⟨fun _ => ?_, fun hy => absurd (by simp [yieldR, slotR, *]) hy⟩
        go_simp
      · refine ⟨fun _ => ?_, fun hy => absurd (by simp [yieldR, slotR, *]) hy⟩
        go_simp
      · refine ⟨fun _ => ?_, fun hy => absurd (by simp [yieldR, slotR, *]) hy⟩
        have hq := FC.out
        go_simp
      · refine ⟨fun _ => ?_, fun hy => absurd (by simp [yieldR, slotR, *]) hy⟩
        have hq := FC.out
        go_simp
      · go_simp
    · intro vs x1 hp hw
      simp only [owed, Fx] at hw
      obtain ⟨e0, e1, e2, e3, e4, e5, e6, e7, e8, e9, e10, e11, e12, e13, e14, e15, e16, e17, e18, e19, e20, e21, e22, e23, e24, e25, e26, e27, e28, e29, e30, e31, e32, e33, -⟩ := hw
      simp only [List.length_cons, List.length_nil, List.take_succ_cons, List.take_nil, List.drop_succ_cons, List.drop_nil, asg, List.cons_append, List.nil_append, e0, e1, e2, e3, e4, e5, e6, e7, e8, e9, e10, e11, e12, e13, e14, e15, e16, e17, e18, e19, e20, e21, e22, e23, e24, e25, e26, e27, e28, e29, e30, e31, e32, e33]
      clear e0 e1 e2 e3 e4 e5 e6 e7 e8 e9 e10 e11 e12 e13 e14 e15 e16 e17 e18 e19 e20 e21 e22 e23 e24 e25 e26 e27 e28 e29 e30 e31 e32 e33
      have HB : Hid _ := hp
      clear d0 d1 FC hp
      go_wp2
      go_ret
      exact ⟨by rw [← HZ.out]; rfl, HB.out⟩
set_option linter.unusedSimpArgs false in
set_option maxRecDepth 100000 in
set_option maxHeartbeats 1000000 in
theorem all_near (w : World) (r : Nat) (x : Option Addr) (m c fr a k : Nat) (f : Nat → Bool) (b : Bool) (d0 : w.cell? ⟨r, 0, none⟩ = some (.int .i64 (fr : Int))) (d1 : w.cell? ⟨r, 1, none⟩ = some (.slice x m c)) (hO : OwnG 4 w 0 (.slice x m c) (fV f fr m)) (hm : fr + m ≤ 1024) (hk : a + k ≤ m) (s n : Int) (hs : s = ((fr + a : Nat) : Int)) (hn : n = (k : Int)) :
    Calls Try.prog 41 #[.pointer (some ⟨r, 0, none⟩), .int .i64 s, .int .i64 n, .bool b] w fun e w' => e = .returned (.bool (allU f (fr + a) b k)) ∧ Below w.heap.size w w' := by
  have HS0 : Hid (s = ((fr + a : Nat) : Int) ∧ n = (k : Int)) := ⟨hs, hn⟩
  obtain ⟨z, hz⟩ : ∃ z, allU f (fr + a) b k = z := ⟨_, rfl⟩
  have HZ : Hid (allU f (fr + a) b k = z) := hz
  rw [hz]
  clear hz
  go_enter Try.func41, Try.ntmps41
  go_upto_region 1 with fail
  have FC : Hid (¬ (n < 0) ∧ ¬ (1024 < n) ∧ ¬ (s < (fr : Int)) ∧ ¬ (1024 < s) ∧ ¬ ((fr : Int) + (m : Int) < s + n) ∧ IntKind.i64.wrap (s + n) = s + n ∧ IntKind.i64.wrap ((fr : Int) + (m : Int)) = (fr : Int) + (m : Int) ∧ True) := by show _ ∧ _; refine ⟨by omega, by omega, by omega, by omega, by omega, by rw [IntKind.wrap_i64]; omega, by rw [IntKind.wrap_i64]; omega, trivial⟩
  clear hs hn
  refine wp_relies [Fx (.int .i64 (n)), Fx (.bool false), Fx (.bool false), Fx (.int .i64 (n)), Fx (.bool false), Fx (.bool false), Fx (.bool false), Fx (.int .i64 (s)), Fx (.pointer (some ⟨r, 0, none⟩)), Fx (.pointer (some ⟨r, 0, none⟩)), Fx (.pointer (some ⟨r, 0, none⟩)), Fx (.int .i64 ((fr : Int))), Fx (.bool false), Fx (.bool false), Fx (.bool false), Fx (.int .i64 (s)), Fx (.bool false), Fx (.bool false), Fx (.bool false), Fx (.int .i64 (s)), Fx (.int .i64 (n)), Fx (.int .i64 (s + n)), Fx (.pointer (some ⟨r, 0, none⟩)), Fx (.pointer (some ⟨r, 0, none⟩)), Fx (.pointer (some ⟨r, 0, none⟩)), Fx (.int .i64 ((fr : Int))), Fx (.pointer (some ⟨r, 0, none⟩)), Fx (.pointer (some ⟨r, 0, none⟩)), Fx (.pointer (some ⟨r, 1, none⟩)), Fx (.slice x m c), Fx (.int .i64 ((m : Int))), Fx (.int .i64 ((fr : Int) + (m : Int))), Fx (.bool false), Fx (.bool false)] (by kernel_rfl) (by kernel_rfl) ?_ ?_ ?_
  · repeat' (first | exact all_nil | apply all_cons)
    all_goals intro v y y' hv hb
    all_goals first | exact Fx_mono _ _ _ _ hv hb
  · refine ⟨?_, ?_, ?_, ?_, ?_, ?_, ?_, ?_, ?_, ?_, ?_, ?_, ?_, ?_, ?_, ?_, ?_, ?_, ?_, ?_, ?_, ?_, ?_, ?_, ?_, ?_, ?_, ?_, ?_, ?_, ?_, ?_, ?_, ?_, trivial⟩
    all_goals
      intro ρ x hp ρc ρg ρf ho hd
      have o0 : ρ (.tmp 0) = .pointer (some ⟨r, 0, none⟩) := ho 0 rfl
      have o1 : ρ (.tmp 1) = .int .i64 (s) := ho 1 rfl
      have o2 : ρ (.tmp 2) = .int .i64 (n) := ho 2 rfl
      clear ho
      have k0 := cell_later hp d0
      have k1 := cell_later hp d1
      simp only [depsR, depR, slotR, Fx, List.getElem?_cons_succ, List.getElem?_cons_zero, Region.binds, forall_const] at hd
      simp only [guardR]
      go_split_ands
    · go_simp
    · have hq := FC.out
      go_simp
    · go_simp
    · refine ⟨fun _ => ?_, fun hy => absurd (by simp [yieldR, slotR, *]) hy⟩
      go_simp
    · refine ⟨fun _ => ?_, fun hy => absurd (by simp [yieldR, slotR, *]) hy⟩
      have hq := FC.out
      go_simp
    · go_simp
    · go_simp
    · refine ⟨fun _ => ?_, fun hy => absurd (by simp [yieldR, slotR, *]) hy⟩
      go_simp
    · refine ⟨fun _ => ?_, fun hy => absurd (by simp [yieldR, slotR, *]) hy⟩
      go_simp
    · refine ⟨fun _ => ?_, fun hy => absurd (by simp [yieldR, slotR, *]) hy⟩
      go_simp
    · refine ⟨fun _ => ?_, fun hy => absurd (by simp [yieldR, slotR, *]) hy⟩
      go_simp
    · refine ⟨fun _ => ?_, fun hy => absurd (by simp [yieldR, slotR, *]) hy⟩
      go_simp
    · refine ⟨fun _ => ?_, fun hy => absurd (by simp [yieldR, slotR, *]) hy⟩
      have hq := FC.out
      go_simp
    · go_simp
    · go_simp
    · refine ⟨fun _ => ?_, fun hy => absurd (by simp [yieldR, slotR, *]) hy⟩
      go_simp
    · refine ⟨fun _ => ?_, fun hy => absurd (by simp [yieldR, slotR, *]) hy⟩
      have hq := FC.out
      go_simp
    · go_simp
    · go_simp
    · refine ⟨fun _ => ?_, fun hy => absurd (by simp [yieldR, slotR, *]) hy⟩
      go_simp
    · refine ⟨fun _ => ?_, fun hy => absurd (by simp [yieldR, slotR, *]) hy⟩
      go_simp
    · refine ⟨fun _ => ?_, fun hy => absurd (by simp [yieldR, slotR, *]) hy⟩
      have hq := FC.out
      go_simp
    · refine ⟨fun _ => ?_, fun hy => absurd (by simp [yieldR, slotR, *]) hy⟩
      go_simp
    · refine ⟨fun _ => ?_, fun hy => absurd (by simp [yieldR, slotR, *]) hy⟩
      go_simp
    · refine ⟨fun _ => ?_, fun hy => absurd (by simp [yieldR, slotR, *]) hy⟩
      go_simp
    · refine ⟨fun _ => ?_, fun hy => absurd (by simp [yieldR, slotR, *]) hy⟩
      go_simp
    · refine ⟨fun _ => ?_, fun hy => absurd (by simp [yieldR, slotR, *]) hy⟩
      go_simp
    · refine ⟨fun _ => ?_, fun hy => absurd (by simp [yieldR, slotR, *]) hy⟩
      go_simp
    · refine ⟨fun _ => ?_, fun hy => absurd (by simp [yieldR, slotR, *]) hy⟩
      go_simp
    · refine ⟨fun _ => ?_, fun hy => absurd (by simp [yieldR, slotR, *]) hy⟩
      go_simp
    · refine ⟨fun _ => ?_, fun hy => absurd (by simp [yieldR, slotR, *]) hy⟩
      go_simp
    · refine ⟨fun _ => ?_, fun hy => absurd (by simp [yieldR, slotR, *]) hy⟩
      have hq := FC.out
      go_simp
    · refine ⟨fun _ => ?_, fun hy => absurd (by simp [yieldR, slotR, *]) hy⟩
      have hq := FC.out
      go_simp
    · go_simp
  · intro vs x1 hp hw
    simp only [owed, Fx] at hw
    obtain ⟨e0, e1, e2, e3, e4, e5, e6, e7, e8, e9, e10, e11, e12, e13, e14, e15, e16, e17, e18, e19, e20, e21, e22, e23, e24, e25, e26, e27, e28, e29, e30, e31, e32, e33, -⟩ := hw
    simp only [List.length_cons, List.length_nil, List.take_succ_cons, List.take_nil, List.drop_succ_cons, List.drop_nil, asg, List.cons_append, List.nil_append, e0, e1, e2, e3, e4, e5, e6, e7, e8, e9, e10, e11, e12, e13, e14, e15, e16, e17, e18, e19, e20, e21, e22, e23, e24, e25, e26, e27, e28, e29, e30, e31, e32, e33]
    clear e0 e1 e2 e3 e4 e5 e6 e7 e8 e9 e10 e11 e12 e13 e14 e15 e16 e17 e18 e19 e20 e21 e22 e23 e24 e25 e26 e27 e28 e29 e30 e31 e32 e33
    have HB0 := hp
    have e0 := cell_later hp d0
    have e1 := cell_later hp d1
    have hO1 := hO.keep hp
    clear d0 d1 FC hp hO
    go_wp2
    go_loopw [9] (fun iv wr => ∃ i : Nat, i ≤ k ∧ iv = .int .i64 i ∧ allU f (fr + a) b i = true ∧ Below x1.heap.size x1 wr) (fun iv _ => k - (intOf iv).toNat)
    case atStart => exact ⟨0, by omega, rfl, rfl, Below.refl _ _⟩
    case round =>
      obtain ⟨i, hi, rfl, hall, hB⟩ := hrel
      by_cases hlt : i < k
      · have hsn := HS0.out
        have hlt' : (i : Int) < n := by omega
        obtain ⟨g, c', hg, -⟩ := hO1.form (by intro h; have := congrArg List.length h; rw [fV_len] at this; simp at this; omega)
        rw [fV_len] at hg
        cases hg
        obtain ⟨q, hq⟩ : ∃ q, a + i = q := ⟨_, rfl⟩
        have d2 := cell_later hB (hO1.cell q _ (fV_at f fr m q (by omega)))
        have d0 := cell_later hB e0
        have d1 := cell_later hB e1
        have FC : Hid (s - (fr : Int) = (a : Int) ∧ IntKind.i64.wrap (a : Int) = (a : Int) ∧ (a : Int) + (i : Int) = (q : Int) ∧ IntKind.i64.wrap (q : Int) = (q : Int) ∧ (q : Int) < (m : Int)) := ⟨by omega, by rw [IntKind.wrap_i64]; omega, by omega, by rw [IntKind.wrap_i64]; omega, by omega⟩
        have hsucc : allU f (fr + a) b (i + 1) = (f (fr + q) == b) := by rw [allU, hall, Bool.true_and, Nat.add_assoc, hq]
        have Hq : Hid (a + i = q) := hq
        clear hq
        have HB : Hid (Below x1.heap.size x1 wr) := hB
        clear hB hsn
        go_upto_region 6 with fail
        clear hlt'
        refine wp_relies [Fx (.pointer (some ⟨r, 0, none⟩)), Fx (.pointer (some ⟨r, 0, none⟩)), Fx (.pointer (some ⟨r, 1, none⟩)), Fx (.slice (some ⟨g, 0, none⟩) m c), Fx (.int .i64 (s)), Fx (.pointer (some ⟨r, 0, none⟩)), Fx (.pointer (some ⟨r, 0, none⟩)), Fx (.pointer (some ⟨r, 0, none⟩)), Fx (.int .i64 ((fr : Int))), Fx (.int .i64 ((a : Int))), Fx (.int .i64 ((i : Int))), Fx (.int .i64 ((q : Int))), Fx (.pointer (some ⟨g, q, none⟩)), Fx (.bool (f (fr + q))), Fx (.bool b), Fx (.bool (!(f (fr + q) == b)))] (by kernel_rfl) (by kernel_rfl) ?_ ?_ ?_
        · repeat' (first | exact all_nil | apply all_cons)
          all_goals intro v y y' hv hb
          all_goals first | exact Fx_mono _ _ _ _ hv hb
        · refine ⟨?_, ?_, ?_, ?_, ?_, ?_, ?_, ?_, ?_, ?_, ?_, ?_, ?_, ?_, ?_, ?_, trivial⟩
          all_goals
            intro ρ x hp ρc ρg ρf ho hd
            have o0 : ρ (.tmp 0) = .pointer (some ⟨r, 0, none⟩) := ho 0 rfl
            have o1 : ρ (.tmp 1) = .int .i64 (s) := ho 1 rfl
            have o3 : ρ (.tmp 3) = .bool b := ho 3 rfl
            have o9 : ρ (.tmp 9) = .int .i64 ((i : Int)) := ho 9 rfl
            clear ho
            have k0 := cell_later hp d0
            have k1 := cell_later hp d1
            have k2 := cell_later hp d2
            simp only [depsR, depR, slotR, Fx, List.getElem?_cons_succ, List.getElem?_cons_zero, Region.binds, forall_const] at hd
            simp only [guardR]
            go_split_ands
          · go_simp
          · go_simp
          · go_simp
          · go_simp
          · go_simp
          · go_simp
          · go_simp
          · go_simp
          · go_simp
          · have hq := FC.out
            go_simp
          · go_simp
          · have hq := FC.out
            go_simp
          · have hq := FC.out
            go_simp
          · go_simp
          · go_simp
          · go_simp
        · intro vs x1 hp hw
          simp only [owed, Fx] at hw
          obtain ⟨e0, e1, e2, e3, e4, e5, e6, e7, e8, e9, e10, e11, e12, e13, e14, e15, -⟩ := hw
          simp only [List.length_cons, List.length_nil, List.take_succ_cons, List.take_nil, List.drop_succ_cons, List.drop_nil, asg, List.cons_append, List.nil_append, e0, e1, e2, e3, e4, e5, e6, e7, e8, e9, e10, e11, e12, e13, e14, e15]
          clear e0 e1 e2 e3 e4 e5 e6 e7 e8 e9 e10 e11 e12 e13 e14 e15
          have HB2 : Hid _ := HB.out.trans (hp.mono (Below.size HB.out))
          clear d0 d1 d2 FC hp HB
          cases hv : (f (fr + q) == b)
          · have HF : Hid (z = false) := by
              show _ = _
              rw [← HZ.out, Bool.eq_false_iff]
              intro hy
              have := (allU_iff f (fr + a) b k).1 hy i hlt
              rw [Nat.add_assoc, Hq.out] at this
              rw [this] at hv
              simp at hv
            clear hsucc hv
            go_wp2
            go_ret
            exact ⟨by rw [HF.out]; rfl, HB0.trans (HB2.out.mono HB0.size)⟩
          · have HS : Hid (allU f (fr + a) b (i + 1) = true) := by show _ = _; rw [hsucc, hv]
            clear hsucc hall hv
            go_wp2
            go_roundw
            case rel => exact ⟨i + 1, by omega, by go_num, HS.out, HB2.out⟩
            case measure => simp [intOf]; omega
      · obtain rfl : i = k := by omega
        have hlt' : ¬ (i : Int) < n := by have := HS0.out; omega
        have HF : Hid (z = true) := by show _ = _; rw [← HZ.out]; exact hall
        clear hall
        go_wp2
        go_ret
        exact ⟨by rw [HF.out]; rfl, HB0.trans (hB.mono HB0.size)⟩
theorem refAll8 (w : World) (v : Value) (st : XSt) (F : List Nat) (s n : Int) (b : Bool) (h : R8 w v st F) :
    Calls Try.prog 41 #[v, .int .i64 s, .int .i64 n, .bool b] w fun e w' => e = .returned (.bool (xOk st s n (!b))) ∧ Below w.heap.size w w' := by
  obtain ⟨r, x, c, rfl, h1, h2, rfl, h4, h5, h6⟩ := h
  obtain ⟨d0, d1⟩ := R8.cells h1
  by_cases hf : n < 0 ∨ 1024 < n ∨ s < (st.fr : Int) ∨ 1024 < s ∨ (st.hi : Int) < s + n
  · rw [xOk_far st s n (!b) h6 hf]
    exact all_far w r x (st.hi - st.fr) c st.fr s n b d0 d1 (by omega) (by omega)
  · rw [xOk_near st s n (!b) (by omega) (by omega) (by omega), Bool.not_not]
    have := all_near w r x (st.hi - st.fr) c st.fr (s.toNat - st.fr) n.toNat st.f b d0 d1 h2 (by omega) (by omega) s n (by omega) (by omega)
    rwa [show st.fr + (s.toNat - st.fr) = s.toNat by omega] at this
end Go.Proofs.Ytafbkdpheneceaa
