import Derived.Test.YtklbdhpnbjhgkaaGreatDoorQFin0
import Derived.Test.YtklbdhpnbjhgkaaGreatDoorQReld
namespace Go.Proofs.YtklbdhpnbjhgkaaGreatDoor
open Go.RowKit Go.Sort

/-! The orders, and what may stand -/
theorem below_al (w : World) (o : Obj) : Below w.heap.size w (w.alloc o) := below_alloc w o
theorem below_al2 (w : World) (o o' : Obj) : Below w.heap.size w ((w.alloc o).alloc o') := (below_alloc w o).trans ((below_alloc _ o').mono (by simp))
theorem nan22 (a : Int) (w : World) : Calls Tryz.prog 81 #[.int .i64 a] w fun e w' => e = .returned (.bool false) ∧ w' = w := by
  go_enter Tryz.func81, Tryz.ntmps81
  go_wp2
  go_ret
  first | exact ⟨rfl, rfl⟩ | (refine ⟨?_, rfl⟩; simp)
def cmpI (a b : Int) : Int := if a < b then -1 else if b < a then 1 else 0
set_option linter.unusedSimpArgs false in
theorem cmpc22 (a b : Int) (w : World) : Calls Tryz.prog 41 #[.int .i64 a, .int .i64 b] w fun e w' => e = .returned (.int .i64 (cmpI a b)) ∧ w' = w := by
  have h1 := nan22 a w
  have h2 := nan22 b w
  unfold cmpI
  by_cases hl : a < b
  · rw [if_pos hl]
    go_enter Tryz.func41, Tryz.ntmps41
    go_wp2_with fail
    refine h1.mono ?_
    rintro e w' ⟨rfl, rfl⟩
    go_wp2_with fail
    refine h2.mono ?_
    rintro e w' ⟨rfl, rfl⟩
    go_wp2
    go_ret
    exact ⟨rfl, rfl⟩
  · rw [if_neg hl]
    by_cases hr : b < a
    · rw [if_pos hr]
      go_enter Tryz.func41, Tryz.ntmps41
      go_wp2_with fail
      refine h1.mono ?_
      rintro e w' ⟨rfl, rfl⟩
      go_wp2_with fail
      refine h2.mono ?_
      rintro e w' ⟨rfl, rfl⟩
      go_wp2
      go_ret
      exact ⟨rfl, rfl⟩
    · rw [if_neg hr]
      go_enter Tryz.func41, Tryz.ntmps41
      go_wp2_with fail
      refine h1.mono ?_
      rintro e w' ⟨rfl, rfl⟩
      go_wp2_with fail
      refine h2.mono ?_
      rintro e w' ⟨rfl, rfl⟩
      go_wp2
      go_ret
      exact ⟨rfl, rfl⟩
def orI (a b : Int) : Int := if a = 0 then b else a
theorem or22 (g : Nat) (a b : Int) (w : World) (h0 : w.cell? ⟨g, 0, none⟩ = some (.int .i64 a)) (h1 : w.cell? ⟨g, 1, none⟩ = some (.int .i64 b)) :
    Calls Tryz.prog 40 #[.slice (some ⟨g, 0, none⟩) 2 2] w fun e w' => e = .returned (.int .i64 (orI a b)) ∧ w' = w := by
  unfold orI
  by_cases ha : a = 0
  · subst ha
    by_cases hb : b = 0
    · subst hb
      go_enter Tryz.func40, Tryz.ntmps40
      go_wp2
      refine wp_loop_rounds 3 ?_
      rw [rounds_succ]
      go_wp2
      rw [rounds_succ]
      go_wp2
      rw [rounds_succ]
      go_wp2
      go_ret
      exact ⟨rfl, rfl⟩
    · go_enter Tryz.func40, Tryz.ntmps40
      go_wp2
      refine wp_loop_rounds 3 ?_
      rw [rounds_succ]
      go_wp2
      rw [rounds_succ]
      go_wp2
      go_ret
      exact ⟨rfl, rfl⟩
  · go_enter Tryz.func40, Tryz.ntmps40
    go_wp2
    refine wp_loop_rounds 3 ?_
    rw [rounds_succ]
    go_wp2
    go_ret
    exact ⟨rfl, rfl⟩
/-- The order of findings. -/
def cmpF (a b : Fd) : Int := orI (cmpI a.1 b.1) (cmpI a.2 b.2)
theorem cmpI_lt (a b : Int) : cmpI a b < 0 ↔ a < b := by unfold cmpI; split <;> (try split) <;> omega
theorem cmpI_zero (a b : Int) : cmpI a b = 0 ↔ a = b := by unfold cmpI; split <;> (try split) <;> omega
theorem cmpF_lt (a b : Fd) : cmpF a b < 0 ↔ ltF a b = true := by
  unfold cmpF ltF orI
  rw [decide_eq_true_eq]
  by_cases h : cmpI a.1 b.1 = 0
  · rw [if_pos h, cmpI_lt]
    have := (cmpI_zero _ _).1 h
    omega
  · rw [if_neg h, cmpI_lt]
    have : ¬ a.1 = b.1 := fun e => h ((cmpI_zero _ _).2 e)
    omega
def SlTwo (a b : Int) (v : Value) (x : World) : Prop := ∃ g, v = .slice (some ⟨g, 0, none⟩) 2 2 ∧ x.cell? ⟨g, 0, none⟩ = some (.int .i64 a) ∧ x.cell? ⟨g, 1, none⟩ = some (.int .i64 b)
theorem SlTwo.mono {a b : Int} {v : Value} {x y : World} (h : SlTwo a b v x) (hb : BelD x y) : SlTwo a b v y := by
  obtain ⟨g, e, h0, h1⟩ := h
  exact ⟨g, e, cell_later hb.1 h0, cell_later hb.1 h1⟩
theorem slTwo_new (x : World) (a b : Int) : SlTwo a b (.slice (some ⟨x.heap.size, 0, none⟩) 2 2) (x.alloc (.cells #[.int .i64 a, .int .i64 b] 3)) := ⟨_, rfl, by simp, by simp⟩
set_option linter.unusedSimpArgs false in
set_option maxHeartbeats 1600000 in
set_option maxRecDepth 100000 in
theorem byKind22 (a b : Fd) (w : World) : Calls Tryz.prog 23 #[.agg (fdA a), .agg (fdA b)] w fun e w' => e = .returned (.int .i64 (cmpF a b)) ∧ ∃ q os, w' = grow (w.drewN q) os := by
  unfold cmpF
  go_enter Tryz.func23, Tryz.ntmps23
  go_upto_region 1 with fail
  have c0 : ((w.alloc (.cells (fdA a) 25)).alloc (.cells (fdA b) 25)).cell? ⟨w.heap.size, 0, none⟩ = some (.int .i64 a.1) := by go_simp
  have c1 : ((w.alloc (.cells (fdA a) 25)).alloc (.cells (fdA b) 25)).cell? ⟨w.heap.size, 1, none⟩ = some (.int .i64 a.2) := by go_simp
  have c2 : ((w.alloc (.cells (fdA a) 25)).alloc (.cells (fdA b) 25)).cell? ⟨w.heap.size + 1, 0, none⟩ = some (.int .i64 b.1) := by go_simp
  have c3 : ((w.alloc (.cells (fdA a) 25)).alloc (.cells (fdA b) 25)).cell? ⟨w.heap.size + 1, 1, none⟩ = some (.int .i64 b.2) := by go_simp
  have HG : Hid (BelD w ((w.alloc (.cells (fdA a) 25)).alloc (.cells (fdA b) 25))) := ((BelD.refl w).alloc _).alloc _
  obtain ⟨ga, hga⟩ : ∃ z, w.heap.size = z := ⟨_, rfl⟩
  obtain ⟨gb, hgb⟩ : ∃ z, w.heap.size + 1 = z := ⟨_, rfl⟩
  simp only [hgb]
  simp only [hga]
  rw [hgb] at c2 c3
  rw [hga] at c0 c1
  clear hga hgb
  generalize (w.alloc (.cells (fdA a) 25)).alloc (.cells (fdA b) 25) = X at c0 c1 c2 c3 HG ⊢
  refine wp_reliesDw [Fx (.pointer (some ⟨ga, 0, none⟩)), Fx (.int .i64 (a.1)), Fx (.pointer (some ⟨gb, 0, none⟩)), Fx (.int .i64 (b.1)), Fx (.int .i64 (cmpI a.1 b.1)), Fx (.pointer (some ⟨ga, 1, none⟩)), Fx (.int .i64 (a.2)), Fx (.pointer (some ⟨gb, 1, none⟩)), Fx (.int .i64 (b.2)), Fx (.int .i64 (cmpI a.2 b.2)), SlTwo (cmpI a.1 b.1) (cmpI a.2 b.2), Fx (.int .i64 (orI (cmpI a.1 b.1) (cmpI a.2 b.2)))] (by kernel_rfl) (by kernel_rfl) ?_ ?_ ?_
  · repeat' (first | exact all_nil | apply all_cons)
    all_goals intro v y y' hv hb
    all_goals first | exact Fx_monoDw _ _ _ _ hv hb | exact hv.mono hb
  · refine ⟨?_, ?_, ?_, ?_, ?_, ?_, ?_, ?_, ?_, ?_, ?_, ?_, trivial⟩
    all_goals
      intro ρ y9 hp ρc ρg ρf ho hd
      have o2 : ρ (.tmp 2) = .pointer (some ⟨ga, 0, none⟩) := ho 2 rfl
      have o3 : ρ (.tmp 3) = .pointer (some ⟨gb, 0, none⟩) := ho 3 rfl
      clear ho
      replace c0 := cell_later hp.1 c0
      replace c1 := cell_later hp.1 c1
      replace c2 := cell_later hp.1 c2
      replace c3 := cell_later hp.1 c3
      simp only [depsR, depR, slotR, Fx, List.getElem?_cons_succ, List.getElem?_cons_zero, Region.binds, forall_const] at hd
      simp only [guardR]
      go_split_ands
    · go_simp
    · go_simp
    · go_simp
    · go_simp
    · go_simp
      exact (cmpc22 _ _ _).mono fun e w' ⟨h1, h2⟩ => by subst h2; exact ⟨_, h1, rfl, BelD.refl _⟩
    · go_simp
    · go_simp
    · go_simp
    · go_simp
    · go_simp
      exact (cmpc22 _ _ _).mono fun e w' ⟨h1, h2⟩ => by subst h2; exact ⟨_, h1, rfl, BelD.refl _⟩
    · go_simp
      exact ⟨slTwo_new _ _ _, (BelD.refl _).alloc _⟩
    · have hs : SlTwo (cmpI a.1 b.1) (cmpI a.2 b.2) (ρ (.tmp 15)) y9 := by assumption
      obtain ⟨gs, e1, k0, k1⟩ := hs
      go_simp
      exact (or22 gs _ _ _ k0 k1).mono fun e w' ⟨h1, h2⟩ => by subst h2; exact ⟨_, h1, rfl, BelD.refl _⟩
  · intro us x1 hp1 hw
    simp only [owed, Fx] at hw
    obtain ⟨e0, e1, e2, e3, e4, e5, e6, e7, e8, e9, e10, e11, -⟩ := hw
    simp only [List.length_cons, List.length_nil, List.take_succ_cons, List.take_zero, List.drop_succ_cons, List.drop_zero, asg, List.cons_append, List.nil_append, e0, e1, e2, e3, e4, e5, e6, e7, e8, e9, e11]
    clear e0 e1 e2 e3 e4 e5 e6 e7 e8 e9 e11 e10
    have HX : Hid (BelD w x1) := HG.out.trans hp1
    go_wp2
    go_ret
    exact ⟨rfl, HX.out.grow⟩
end Go.Proofs.YtklbdhpnbjhgkaaGreatDoor
