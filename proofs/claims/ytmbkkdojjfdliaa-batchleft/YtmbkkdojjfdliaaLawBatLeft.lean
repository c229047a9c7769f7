
import Derived.Test.YtmbkkdojjfdliaaBat8
namespace Go.Proofs.Ytmbkkdojjfdliaa
open Go.RowKit

/-! BatchLeft -/
set_option linter.unusedSimpArgs false in
set_option maxRecDepth 100000 in
set_option maxHeartbeats 40000000 in
theorem lawBatLeft (H : BatOk) (l : List Wr) (x0 : Option Addr) (n c : Nat) (z : Int) (w : World) (hn : l.length = n) (hl : IsK wrE w (.slice x0 n c) l) (hn47 : (n + 1) * 72 ≤ 140737488355328) (hz1 : -9223372036854775808 ≤ z) (hz2 : z ≤ 9223372036854775807) :
    Calls Try.prog 4 #[.slice x0 n c, .int .i64 z] w fun e w' => e = .returned (.bool true) ∧ Below w.heap.size w w' := by
  have hKn := known26_any H w
  have hsl := srtW_len l
  obtain ⟨S, hS⟩ : ∃ q, srtW l = q := ⟨_, rfl⟩
  have HS : Hid (srtW l = S) := hS
  rw [hS] at hsl
  clear hS
  go_enter Try.func4, Try.ntmps4
  go_wp2_with fail
  refine hKn.mono ?_
  rintro e w1 ⟨rfl, b1⟩
  clear hKn
  have hC := H.cut l x0 n c w1 hn (hl.kept b1) hn47
  go_wp2_with fail
  refine hC.mono ?_
  rintro e w2 ⟨yc, k, cc, ps, rfl, hk, hP, b2⟩
  clear hC
  rw [HS.out] at hk hP
  have HF : Hid (BatOk ∧ l.length = n ∧ IsK wrE w (.slice x0 n c) l ∧ (n + 1) * 72 ≤ 140737488355328) := ⟨H, hn, hl, hn47⟩
  have HB : Hid (Below w.heap.size w w2) := b1.trans (b2.mono b1.size)
  have HI : Hid (IsLL w2 (.slice yc k cc) (cutW S)) := hP.isLL
  have HKk : Hid (nbW S.length = k ∧ S.length ≤ n ∧ k ≤ n ∧ (cutW S).length = k) := ⟨hk, by omega, by unfold nbW at hk; omega, by rw [cutW_len]; exact hk⟩
  have hYC := hP.own.cases
  clear hl hn hn47 b1 b2 hP hk hsl
  rcases hYC with ⟨rfl, rfl, rfl⟩ | ⟨g, rfl, hgl, hkc⟩
  · have hS0 : S = [] := by
      have h9 := HKk.out.1
      unfold nbW at h9
      exact List.eq_nil_of_length_eq_zero (by omega)
    subst hS0
    rcases Int.lt_or_le z 0 with hz | hz
    · have d1 : decide (z < 0) = true := decide_eq_true hz
      have d2 : True := trivial
      go_upto_region 6 with fail
      try simp only [d1, d2, Bool.or_false]
      clear d1 d2
      go_wp2_with fail
      go_loopw [6, 7] (fun v iv wr => v = .slice none 0 0 ∧ iv = .int .i64 0 ∧ wr = w2) (fun _ _ _ => 0)
      case atStart => exact ⟨rfl, rfl, rfl⟩
      case round =>
        obtain ⟨rfl, rfl, rfl⟩ := hrel
        go_upto_region 11 with fail
        refine wp_relies [Fx (.slice x0 n c), Fx (.slice none 0 0), Fx (.int .i64 0), Fx (.slice none 0 0), fun v x => ∃ y4 c4, v = .slice y4 0 c4 ∧ IsK wrE x (.slice y4 0 c4) [], Fx (.slice none 0 0), Fx (.bool true), Fx (.bool true), Fx (.slice none 0 0), fun v x => ∃ y5 c5, v = .slice y5 0 c5 ∧ IsLL x (.slice y5 0 c5) [], Fx (.slice none 0 0), Fx (.int .i64 0), Fx (.slice none 0 0), Fx (.bool true), Fx (.bool true), Fx (.bool true)] (by kernel_rfl) (by kernel_rfl) ?_ ?_ ?_
        · repeat' (first | exact all_nil | apply all_cons)
          all_goals intro v y y' hv hb
          all_goals first | exact Fx_mono _ _ _ _ hv hb | (obtain ⟨y4, c4, h1, h3⟩ := hv; exact ⟨y4, c4, h1, h3.kept hb⟩)
        · refine ⟨?_, ?_, ?_, ?_, ?_, ?_, ?_, ?_, ?_, ?_, ?_, ?_, ?_, ?_, ?_, ?_, trivial⟩
          all_goals
            intro ρ x hp ρc ρg ρf ho hd
            have o0 : ρ (.tmp 0) = .slice x0 n c := ho 0 rfl
            have o1 : ρ (.tmp 1) = .int .i64 0 := ho 1 rfl
            have o5 : ρ (.tmp 5) = .slice none 0 0 := ho 5 rfl
            have o6 : ρ (.tmp 6) = .slice none 0 0 := ho 6 rfl
            clear ho
            simp only [depsR, depR, slotR, Fx, List.getElem?_cons_succ, List.getElem?_cons_zero, Region.binds, forall_const] at hd
            simp only [guardR]
            go_split_ands
          · go_simp
          · go_simp
          · go_simp
          · go_simp
          · go_simp
            refine (HF.out.1.left l x0 n c [] none 0 0 x HF.out.2.1 (HF.out.2.2.1.kept (HB.out.trans (hp.mono HB.out.size))) HF.out.2.2.2 rfl (IsLL.nil x) (by omega) (fun e he => by cases he)).mono ?_
            rintro e x' ⟨y4, k4, c4, rfl, hk4, o4, hb⟩
            rw [HS.out, leftW_nil] at hk4 o4
            cases hk4
            exact ⟨_, rfl, ⟨y4, c4, rfl, o4.isK wrE_ok⟩, hb⟩
          · go_simp
          · obtain ⟨y4, c4, e4, i4⟩ := ‹∃ y4 c4, ρ (.tmp 40) = .slice y4 0 c4 ∧ _›
            go_simp
            refine (same26_any y4 none c4 0 0 0 [] [] x rfl rfl i4 ((OwnK.nil wrE x 0).isK wrE_ok) (by omega)).mono ?_
            rintro e x' ⟨rfl, hb⟩
            exact ⟨_, rfl, by simp [Fx], hb⟩
          · go_simp
          · refine ⟨fun _ => ?_, fun hy => absurd (by simp [yieldR, slotR, *]) hy⟩
            go_simp
          · refine ⟨fun _ => ?_, fun hy => absurd (by simp [yieldR, slotR, *]) hy⟩
            go_simp
            refine (HF.out.1.cut [] none 0 0 x rfl ((OwnK.nil wrE x 0).isK wrE_ok) (by omega)).mono ?_
            rintro e x' ⟨y5, k5, c5, ps5, rfl, hk5, hP5, hb⟩
            cases hk5
            exact ⟨_, rfl, ⟨y5, c5, rfl, hP5.isLL⟩, hb⟩
          · refine ⟨fun _ => ?_, fun hy => absurd (by simp [yieldR, slotR, *]) hy⟩
            go_simp
          · refine ⟨fun _ => ?_, fun hy => absurd (by simp [yieldR, slotR, *]) hy⟩
            go_simp
          · refine ⟨fun _ => ?_, fun hy => absurd (by simp [yieldR, slotR, *]) hy⟩
            go_simp
          · refine ⟨fun _ => ?_, fun hy => absurd (by simp [yieldR, slotR, *]) hy⟩
            obtain ⟨y5, c5, e5, i5⟩ := ‹∃ y5 c5, ρ (.tmp 45) = .slice y5 0 c5 ∧ _›
            go_simp
            refine (all26_any [] [] y5 none 0 0 c5 0 x rfl rfl i5 (IsLL.nil x) (by omega) (fun d hd => by cases hd)).mono ?_
            rintro e x' ⟨rfl, hb⟩
            exact ⟨_, rfl, by simp [Fx], hb⟩
          · go_simp
          · go_simp
        · intro vs x9 hp hw
          simp only [owed, Fx] at hw
          obtain ⟨e0, e1, e2, e3, ⟨y4, c4, e4, -⟩, e5, e6, e7, e8, ⟨y5, c5, e9, -⟩, e10, e11, e12, e13, e14, e15, -⟩ := hw
          simp only [List.length_cons, List.length_nil, List.take_succ_cons, List.take_nil, List.drop_succ_cons, List.drop_nil, asg, List.cons_append, List.nil_append, e0, e1, e2, e3, e4, e5, e6, e7, e8, e9, e10, e11, e12, e13, e14, e15]
          clear e0 e1 e2 e3 e4 e5 e6 e7 e8 e9 e10 e11 e12 e13 e14 e15
          have HB9 : Hid (Below w.heap.size w x9) := HB.out.trans (hp.mono HB.out.size)
          clear hp
          go_wp2
          all_goals (go_ret; exact ⟨rfl, HB9.out⟩)
    · have d1 : decide (z < 0) = false := decide_eq_false (by omega)
      rcases Int.lt_or_le 0 z with hz3 | hz3
      · have d2 : decide (0 < z) = true := decide_eq_true hz3
        go_upto_region 6 with fail
        try simp only [d1, d2, Bool.or_false]
        clear d1 d2
        go_wp2_with fail
        go_loopw [6, 7] (fun v iv wr => v = .slice none 0 0 ∧ iv = .int .i64 0 ∧ wr = w2) (fun _ _ _ => 0)
        case atStart => exact ⟨rfl, rfl, rfl⟩
        case round =>
          obtain ⟨rfl, rfl, rfl⟩ := hrel
          go_upto_region 11 with fail
          refine wp_relies [Fx (.slice x0 n c), Fx (.slice none 0 0), Fx (.int .i64 0), Fx (.slice none 0 0), fun v x => ∃ y4 c4, v = .slice y4 0 c4 ∧ IsK wrE x (.slice y4 0 c4) [], Fx (.slice none 0 0), Fx (.bool true), Fx (.bool true), Fx (.slice none 0 0), fun v x => ∃ y5 c5, v = .slice y5 0 c5 ∧ IsLL x (.slice y5 0 c5) [], Fx (.slice none 0 0), Fx (.int .i64 0), Fx (.slice none 0 0), Fx (.bool true), Fx (.bool true), Fx (.bool true)] (by kernel_rfl) (by kernel_rfl) ?_ ?_ ?_
          · repeat' (first | exact all_nil | apply all_cons)
            all_goals intro v y y' hv hb
            all_goals first | exact Fx_mono _ _ _ _ hv hb | (obtain ⟨y4, c4, h1, h3⟩ := hv; exact ⟨y4, c4, h1, h3.kept hb⟩)
          · refine ⟨?_, ?_, ?_, ?_, ?_, ?_, ?_, ?_, ?_, ?_, ?_, ?_, ?_, ?_, ?_, ?_, trivial⟩
            all_goals
              intro ρ x hp ρc ρg ρf ho hd
              have o0 : ρ (.tmp 0) = .slice x0 n c := ho 0 rfl
              have o1 : ρ (.tmp 1) = .int .i64 0 := ho 1 rfl
              have o5 : ρ (.tmp 5) = .slice none 0 0 := ho 5 rfl
              have o6 : ρ (.tmp 6) = .slice none 0 0 := ho 6 rfl
              clear ho
              simp only [depsR, depR, slotR, Fx, List.getElem?_cons_succ, List.getElem?_cons_zero, Region.binds, forall_const] at hd
              simp only [guardR]
              go_split_ands
            · go_simp
            · go_simp
            · go_simp
            · go_simp
            · go_simp
              refine (HF.out.1.left l x0 n c [] none 0 0 x HF.out.2.1 (HF.out.2.2.1.kept (HB.out.trans (hp.mono HB.out.size))) HF.out.2.2.2 rfl (IsLL.nil x) (by omega) (fun e he => by cases he)).mono ?_
              rintro e x' ⟨y4, k4, c4, rfl, hk4, o4, hb⟩
              rw [HS.out, leftW_nil] at hk4 o4
              cases hk4
              exact ⟨_, rfl, ⟨y4, c4, rfl, o4.isK wrE_ok⟩, hb⟩
            · go_simp
            · obtain ⟨y4, c4, e4, i4⟩ := ‹∃ y4 c4, ρ (.tmp 40) = .slice y4 0 c4 ∧ _›
              go_simp
              refine (same26_any y4 none c4 0 0 0 [] [] x rfl rfl i4 ((OwnK.nil wrE x 0).isK wrE_ok) (by omega)).mono ?_
              rintro e x' ⟨rfl, hb⟩
              exact ⟨_, rfl, by simp [Fx], hb⟩
            · go_simp
            · refine ⟨fun _ => ?_, fun hy => absurd (by simp [yieldR, slotR, *]) hy⟩
              go_simp
            · refine ⟨fun _ => ?_, fun hy => absurd (by simp [yieldR, slotR, *]) hy⟩
              go_simp
              refine (HF.out.1.cut [] none 0 0 x rfl ((OwnK.nil wrE x 0).isK wrE_ok) (by omega)).mono ?_
              rintro e x' ⟨y5, k5, c5, ps5, rfl, hk5, hP5, hb⟩
              cases hk5
              exact ⟨_, rfl, ⟨y5, c5, rfl, hP5.isLL⟩, hb⟩
            · refine ⟨fun _ => ?_, fun hy => absurd (by simp [yieldR, slotR, *]) hy⟩
              go_simp
            · refine ⟨fun _ => ?_, fun hy => absurd (by simp [yieldR, slotR, *]) hy⟩
              go_simp
            · refine ⟨fun _ => ?_, fun hy => absurd (by simp [yieldR, slotR, *]) hy⟩
              go_simp
            · refine ⟨fun _ => ?_, fun hy => absurd (by simp [yieldR, slotR, *]) hy⟩
              obtain ⟨y5, c5, e5, i5⟩ := ‹∃ y5 c5, ρ (.tmp 45) = .slice y5 0 c5 ∧ _›
              go_simp
              refine (all26_any [] [] y5 none 0 0 c5 0 x rfl rfl i5 (IsLL.nil x) (by omega) (fun d hd => by cases hd)).mono ?_
              rintro e x' ⟨rfl, hb⟩
              exact ⟨_, rfl, by simp [Fx], hb⟩
            · go_simp
            · go_simp
          · intro vs x9 hp hw
            simp only [owed, Fx] at hw
            obtain ⟨e0, e1, e2, e3, ⟨y4, c4, e4, -⟩, e5, e6, e7, e8, ⟨y5, c5, e9, -⟩, e10, e11, e12, e13, e14, e15, -⟩ := hw
            simp only [List.length_cons, List.length_nil, List.take_succ_cons, List.take_nil, List.drop_succ_cons, List.drop_nil, asg, List.cons_append, List.nil_append, e0, e1, e2, e3, e4, e5, e6, e7, e8, e9, e10, e11, e12, e13, e14, e15]
            clear e0 e1 e2 e3 e4 e5 e6 e7 e8 e9 e10 e11 e12 e13 e14 e15
            have HB9 : Hid (Below w.heap.size w x9) := HB.out.trans (hp.mono HB.out.size)
            clear hp
            go_wp2
            all_goals (go_ret; exact ⟨rfl, HB9.out⟩)
      · obtain rfl : z = 0 := by omega
        have d2 : True := trivial
        go_upto_region 6 with fail
        try simp only [d1, d2, Bool.or_false]
        clear d1 d2
        go_wp2_with fail
        go_loopw [6, 7] (fun v iv wr => v = .slice none 0 0 ∧ iv = .int .i64 0 ∧ wr = w2) (fun _ _ _ => 0)
        case atStart => exact ⟨rfl, rfl, rfl⟩
        case round =>
          obtain ⟨rfl, rfl, rfl⟩ := hrel
          go_upto_region 11 with fail
          refine wp_relies [Fx (.slice x0 n c), Fx (.slice none 0 0), Fx (.int .i64 0), Fx (.slice none 0 0), fun v x => ∃ y4 c4, v = .slice y4 0 c4 ∧ IsK wrE x (.slice y4 0 c4) [], Fx (.slice none 0 0), Fx (.bool true), Fx (.bool true), Fx (.slice none 0 0), fun v x => ∃ y5 c5, v = .slice y5 0 c5 ∧ IsLL x (.slice y5 0 c5) [], Fx (.slice none 0 0), Fx (.int .i64 0), Fx (.slice none 0 0), Fx (.bool true), Fx (.bool true), Fx (.bool true)] (by kernel_rfl) (by kernel_rfl) ?_ ?_ ?_
          · repeat' (first | exact all_nil | apply all_cons)
            all_goals intro v y y' hv hb
            all_goals first | exact Fx_mono _ _ _ _ hv hb | (obtain ⟨y4, c4, h1, h3⟩ := hv; exact ⟨y4, c4, h1, h3.kept hb⟩)
          · refine ⟨?_, ?_, ?_, ?_, ?_, ?_, ?_, ?_, ?_, ?_, ?_, ?_, ?_, ?_, ?_, ?_, trivial⟩
            all_goals
              intro ρ x hp ρc ρg ρf ho hd
              have o0 : ρ (.tmp 0) = .slice x0 n c := ho 0 rfl
              have o1 : ρ (.tmp 1) = .int .i64 0 := ho 1 rfl
              have o5 : ρ (.tmp 5) = .slice none 0 0 := ho 5 rfl
              have o6 : ρ (.tmp 6) = .slice none 0 0 := ho 6 rfl
              clear ho
              simp only [depsR, depR, slotR, Fx, List.getElem?_cons_succ, List.getElem?_cons_zero, Region.binds, forall_const] at hd
              simp only [guardR]
              go_split_ands
            · go_simp
            · go_simp
            · go_simp
            · go_simp
            · go_simp
              refine (HF.out.1.left l x0 n c [] none 0 0 x HF.out.2.1 (HF.out.2.2.1.kept (HB.out.trans (hp.mono HB.out.size))) HF.out.2.2.2 rfl (IsLL.nil x) (by omega) (fun e he => by cases he)).mono ?_
              rintro e x' ⟨y4, k4, c4, rfl, hk4, o4, hb⟩
              rw [HS.out, leftW_nil] at hk4 o4
              cases hk4
              exact ⟨_, rfl, ⟨y4, c4, rfl, o4.isK wrE_ok⟩, hb⟩
            · go_simp
            · obtain ⟨y4, c4, e4, i4⟩ := ‹∃ y4 c4, ρ (.tmp 40) = .slice y4 0 c4 ∧ _›
              go_simp
              refine (same26_any y4 none c4 0 0 0 [] [] x rfl rfl i4 ((OwnK.nil wrE x 0).isK wrE_ok) (by omega)).mono ?_
              rintro e x' ⟨rfl, hb⟩
              exact ⟨_, rfl, by simp [Fx], hb⟩
            · go_simp
            · refine ⟨fun _ => ?_, fun hy => absurd (by simp [yieldR, slotR, *]) hy⟩
              go_simp
            · refine ⟨fun _ => ?_, fun hy => absurd (by simp [yieldR, slotR, *]) hy⟩
              go_simp
              refine (HF.out.1.cut [] none 0 0 x rfl ((OwnK.nil wrE x 0).isK wrE_ok) (by omega)).mono ?_
              rintro e x' ⟨y5, k5, c5, ps5, rfl, hk5, hP5, hb⟩
              cases hk5
              exact ⟨_, rfl, ⟨y5, c5, rfl, hP5.isLL⟩, hb⟩
            · refine ⟨fun _ => ?_, fun hy => absurd (by simp [yieldR, slotR, *]) hy⟩
              go_simp
            · refine ⟨fun _ => ?_, fun hy => absurd (by simp [yieldR, slotR, *]) hy⟩
              go_simp
            · refine ⟨fun _ => ?_, fun hy => absurd (by simp [yieldR, slotR, *]) hy⟩
              go_simp
            · refine ⟨fun _ => ?_, fun hy => absurd (by simp [yieldR, slotR, *]) hy⟩
              obtain ⟨y5, c5, e5, i5⟩ := ‹∃ y5 c5, ρ (.tmp 45) = .slice y5 0 c5 ∧ _›
              go_simp
              refine (all26_any [] [] y5 none 0 0 c5 0 x rfl rfl i5 (IsLL.nil x) (by omega) (fun d hd => by cases hd)).mono ?_
              rintro e x' ⟨rfl, hb⟩
              exact ⟨_, rfl, by simp [Fx], hb⟩
            · go_simp
            · go_simp
          · intro vs x9 hp hw
            simp only [owed, Fx] at hw
            obtain ⟨e0, e1, e2, e3, ⟨y4, c4, e4, -⟩, e5, e6, e7, e8, ⟨y5, c5, e9, -⟩, e10, e11, e12, e13, e14, e15, -⟩ := hw
            simp only [List.length_cons, List.length_nil, List.take_succ_cons, List.take_nil, List.drop_succ_cons, List.drop_nil, asg, List.cons_append, List.nil_append, e0, e1, e2, e3, e4, e5, e6, e7, e8, e9, e10, e11, e12, e13, e14, e15]
            clear e0 e1 e2 e3 e4 e5 e6 e7 e8 e9 e10 e11 e12 e13 e14 e15
            have HB9 : Hid (Below w.heap.size w x9) := HB.out.trans (hp.mono HB.out.size)
            clear hp
            go_wp2
            all_goals (go_ret; exact ⟨rfl, HB9.out⟩)
  · by_cases hz : 0 ≤ z ∧ z ≤ k
    · obtain ⟨a, rfl⟩ : ∃ a : Nat, z = (a : Int) := ⟨z.toNat, by omega⟩
      have HA : Hid (a ≤ k) := by show _ ≤ _; omega
      have d1 : decide ((a : Int) < 0) = false := decide_eq_false (by omega)
      have d2 : decide (k < a) = false := decide_eq_false (by omega)
      have z2 : ¬ (a : Int) > (k : Int) := by omega
      have z3 : ¬ (k : Int) < (a : Int) := by omega
      have HCP : Hid ((k : Int) ≤ (cc : Int) ∧ (a : Int) ≤ (cc : Int)) := by show _ ∧ _; omega
      clear hz hz1 hz2
      go_upto_region 6 with fail
      try simp only [d1, d2, Bool.or_false]
      clear d1 d2 z2 z3
      go_wp2_with fail
      go_loopw [6, 7] (fun v iv wr => ∃ (i : Nat) (yr : Option Addr) (m cr : Nat), a ≤ i ∧ i ≤ k ∧ iv = .int .i64 i ∧ v = .slice yr m cr ∧ (((cutW S).take i).drop a).flatten.length = m ∧ OwnK wrE wr w2.heap.size (.slice yr m cr) (((cutW S).take i).drop a).flatten ∧ Below w2.heap.size w2 wr) (fun _ iv _ => k - (intOf iv).toNat)
      case atStart => exact ⟨a, none, 0, 0, Nat.le_refl _, HA.out, rfl, rfl, by rw [List.drop_eq_nil_of_le (by rw [List.length_take]; omega)]; rfl, by rw [List.drop_eq_nil_of_le (by rw [List.length_take]; omega)]; exact OwnK.nil _ _ _, Below.refl _ _⟩
      case round =>
        obtain ⟨i, yr, m, cr, hai, hik, rfl, rfl, hm, oR, hBr⟩ := hrel
        have hz9 := HKk.out.2.2.1
        have hz8 := HF.out.2.2.2
        by_cases hlt : i < k
        · have i0 : (0 : Int) ≤ (i : Int) := by omega
          have i1 : (i : Int) < (k : Int) := by omega
          have hz7 : (i : Int) + 1 ≤ 1954687338267 := by omega
          obtain ⟨d, hd⟩ : ∃ q, (cutW S)[i]? = some q := ⟨_, List.getElem?_eq_getElem (by have := HKk.out.2.2.2; omega)⟩
          obtain ⟨b9, o9, yd, dd, he9, hb9, q1, kd⟩ := (HI.out.kept hBr).at i d hd
          simp only [Option.some.injEq, Addr.mk.injEq, and_true] at he9
          obtain ⟨rfl, rfl⟩ := he9
          rw [Nat.zero_add] at q1
          obtain ⟨nd, hnd⟩ : ∃ q, d.length = q := ⟨_, rfl⟩
          rw [hnd] at q1 kd
          have hfn := flat_next (cutW S) a i d hai hd
          have hfl := flat_len S a (i + 1)
          rw [hfn, List.length_append, hm, hnd] at hfl
          have hsn := HKk.out.2.1
          obtain ⟨v3, c3, w3, hr, o3, b3, -, -⟩ := run_appAll wrE_ok wr w2.heap.size yr m cr _ d yd nd dd (m + nd) 22 oR kd hm hnd rfl (by show (m + nd) * 72 ≤ _; omega) (by unfold maxLen; omega) hBr.size
          have HO : Hid (OwnK wrE w3 w2.heap.size (.slice v3 (m + nd) c3) (((cutW S).take (i + 1)).drop a).flatten) := by show OwnK _ _ _ _ _; rw [hfn]; exact o3
          have HL : Hid ((((cutW S).take (i + 1)).drop a).flatten.length = m + nd) := by show _ = _; rw [hfn, List.length_append, hm, hnd]
          have HB3 : Hid (Below w2.heap.size w2 w3) := hBr.trans b3
          replace hr : (Builtin.append_ #[22, 22] 22 #[.slice yr m cr, .slice yd nd dd]).run Try.prog wr = .ok (.slice v3 (m + nd) c3) w3 := hr
          clear hfn hfl hsn o3 b3 oR hm hBr kd hnd hd
          go_wp2_with (at_builtin; refine wpL_appT 22 rfl _ _ rfl _ w3 (by exact hr) ?_)
          go_roundw
          case rel => exact ⟨i + 1, _, _, _, by omega, by omega, by go_num, rfl, HL.out, HO.out, HB3.out⟩
          case measure => simp [intOf]; omega
        · obtain rfl : i = k := by omega
          have i1 : ¬ (i : Int) < (i : Int) := by omega
          rw [List.take_of_length_le (by rw [HKk.out.2.2.2]; omega), cutW_rest S a (by rw [HKk.out.1]; exact hai)] at hm oR
          have HA : Hid (a ≤ i) := hai
          have HR : Hid ((S.drop (8 * a)).length = m ∧ IsK wrE wr (.slice yr m cr) (S.drop (8 * a))) := ⟨hm, oR.isK wrE_ok⟩
          have HBR : Hid (Below w2.heap.size w2 wr) := hBr
          have FA : Hid ((0 : Int) ≤ (a : Int) ∧ (a : Int) ≤ (i : Int)) := by show _ ∧ _; omega
          clear hm oR hBr hai
          go_upto_region 11 with fail
          refine wp_relies [Fx (.slice x0 n c), Fx (.slice (some ⟨g, 0, none⟩) i cc), Fx (.int .i64 (a : Int)), Fx (.slice (some ⟨g, 0, none⟩) a cc), fun v x => ∃ y4 k4 c4, v = .slice y4 k4 c4 ∧ (S.drop (8 * a)).length = k4 ∧ IsK wrE x (.slice y4 k4 c4) (S.drop (8 * a)), Fx (.slice yr m cr), Fx (.bool true), Fx (.bool true), Fx (.slice yr m cr), fun v x => ∃ y5 k5 c5, v = .slice y5 k5 c5 ∧ (cutW (S.drop (8 * a))).length = k5 ∧ IsLL x (.slice y5 k5 c5) (cutW (S.drop (8 * a))), Fx (.slice (some ⟨g, 0, none⟩) i cc), Fx (.int .i64 (a : Int)), Fx (.slice (if cc = a then some ⟨g, 0, none⟩ else some ⟨g, 0 + a, none⟩) (i - a) (cc - a)), Fx (.bool true), Fx (.bool true), Fx (.bool true)] (by kernel_rfl) (by kernel_rfl) ?_ ?_ ?_
          · repeat' (first | exact all_nil | apply all_cons)
            all_goals intro v y y' hv hb
            all_goals first | exact Fx_mono _ _ _ _ hv hb | (obtain ⟨y4, k4, c4, h1, h2, h3⟩ := hv; exact ⟨y4, k4, c4, h1, h2, h3.kept hb⟩)
          · refine ⟨?_, ?_, ?_, ?_, ?_, ?_, ?_, ?_, ?_, ?_, ?_, ?_, ?_, ?_, ?_, ?_, trivial⟩
            all_goals
              intro ρ x hp ρc ρg ρf ho hd
              have o0 : ρ (.tmp 0) = .slice x0 n c := ho 0 rfl
              have o1 : ρ (.tmp 1) = .int .i64 (a : Int) := ho 1 rfl
              have o5 : ρ (.tmp 5) = .slice (some ⟨g, 0, none⟩) i cc := ho 5 rfl
              have o6 : ρ (.tmp 6) = .slice yr m cr := ho 6 rfl
              clear ho
              simp only [depsR, depR, slotR, Fx, List.getElem?_cons_succ, List.getElem?_cons_zero, Region.binds, forall_const] at hd
              simp only [guardR]
              go_split_ands
            · go_simp
            · go_simp
            · go_simp
            · obtain ⟨s1, s2⟩ := FA.out
              obtain ⟨s3, s4⟩ := HCP.out
              go_simp
            · go_simp
              have hI := HI.out.kept (HBR.out.trans (hp.mono HBR.out.size))
              refine (HF.out.1.left l x0 n c ((cutW S).take a) _ a _ x HF.out.2.1 (HF.out.2.2.1.kept (HB.out.trans ((HBR.out.trans (hp.mono HBR.out.size)).mono HB.out.size))) HF.out.2.2.2 (by rw [List.length_take, HKk.out.2.2.2]; have := HA.out; omega) (hI.take a HA.out) (by have := HA.out; have := HKk.out; have := HF.out.2.2.2; omega) (fun e he => by have := cutW_mem S e (List.mem_of_mem_take he); omega)).mono ?_
              rintro e x' ⟨y4, k4, c4, rfl, hk4, o4, hb⟩
              rw [HS.out, leftW_first S a (by rw [← HS.out]; exact srtW_rise l) (by rw [HKk.out.1]; exact HA.out)] at hk4 o4
              exact ⟨_, rfl, ⟨y4, k4, c4, rfl, by first | exact hk4 | (rw [List.length_drop] at hk4; exact hk4), o4.isK wrE_ok⟩, hb⟩
            · go_simp
            · obtain ⟨y4, k4, c4, e4, hk4, i4⟩ := ‹∃ y4 k4 c4, ρ (.tmp 40) = .slice y4 k4 c4 ∧ _ ∧ _›
              go_simp
              refine (same26_any y4 yr c4 cr k4 m _ _ x hk4 HR.out.1 i4 (HR.out.2.kept hp) (by have := HKk.out.2.1; have := HF.out.2.2.2; have h8 := HR.out.1; rw [← hk4, List.length_drop]; omega)).mono ?_
              rintro e x' ⟨rfl, hb⟩
              exact ⟨_, rfl, by simp [Fx], hb⟩
            · go_simp
            · refine ⟨fun _ => ?_, fun hy => absurd (by simp [yieldR, slotR, *]) hy⟩
              go_simp
            · refine ⟨fun _ => ?_, fun hy => absurd (by simp [yieldR, slotR, *]) hy⟩
              go_simp
              refine (HF.out.1.cut (S.drop (8 * a)) yr m cr x HR.out.1 (HR.out.2.kept hp) (by have := HKk.out.2.1; have := HF.out.2.2.2; have h8 := HR.out.1; rw [← h8, List.length_drop]; omega)).mono ?_
              rintro e x' ⟨y5, k5, c5, ps5, rfl, hk5, hP5, hb⟩
              rw [srtW_id _ (rise_drop S (8 * a) (by rw [← HS.out]; exact srtW_rise l))] at hk5 hP5
              exact ⟨_, rfl, ⟨y5, k5, c5, rfl, by rw [cutW_len]; exact hk5, hP5.isLL⟩, hb⟩
            · refine ⟨fun _ => ?_, fun hy => absurd (by simp [yieldR, slotR, *]) hy⟩
              go_simp
            · refine ⟨fun _ => ?_, fun hy => absurd (by simp [yieldR, slotR, *]) hy⟩
              go_simp
            · refine ⟨fun _ => ?_, fun hy => absurd (by simp [yieldR, slotR, *]) hy⟩
              obtain ⟨s1, s2⟩ := FA.out
              obtain ⟨s3, s4⟩ := HCP.out
              go_simp
            · refine ⟨fun _ => ?_, fun hy => absurd (by simp [yieldR, slotR, *]) hy⟩
              obtain ⟨y5, k5, c5, e5, hk5, i5⟩ := ‹∃ y5 k5 c5, ρ (.tmp 45) = .slice y5 k5 c5 ∧ _ ∧ _›
              rw [cutW_drop S a (by rw [HKk.out.1]; exact HA.out)] at hk5 i5
              go_simp
              have hI := HI.out.kept (HBR.out.trans (hp.mono HBR.out.size))
              have hJ := hI.drop a HA.out (by have := HCP.out.1; omega)
              try rw [Nat.zero_add] at hJ
              have hl6 : ((cutW S).drop a).length = (i - a) := by rw [List.length_drop, HKk.out.2.2.2]
              have hk6 : k5 ≤ 140737488355328 := by have h1 := HKk.out.2.2.1; have h2 := HF.out.2.2.2; rw [List.length_drop, HKk.out.2.2.2] at hk5; omega
              refine (all26_any _ _ y5 _ k5 (i - a) c5 _ x hk5 hl6 i5 hJ hk6 (fun d hd => by have := cutW_mem S d (List.mem_of_mem_drop hd); omega)).mono ?_
              rintro e x' ⟨rfl, hb⟩
              exact ⟨_, rfl, by simp [Fx], hb⟩
            · go_simp
            · go_simp
          · intro vs x9 hp hw
            simp only [owed, Fx] at hw
            obtain ⟨e0, e1, e2, e3, ⟨y4, k4, c4, e4, -⟩, e5, e6, e7, e8, ⟨y5, k5, c5, e9, -⟩, e10, e11, e12, e13, e14, e15, -⟩ := hw
            simp only [List.length_cons, List.length_nil, List.take_succ_cons, List.take_nil, List.drop_succ_cons, List.drop_nil, asg, List.cons_append, List.nil_append, e0, e1, e2, e3, e4, e5, e6, e7, e8, e9, e10, e11, e12, e13, e14, e15]
            clear e0 e1 e2 e3 e4 e5 e6 e7 e8 e9 e10 e11 e12 e13 e14 e15
            have HB9 : Hid (Below w.heap.size w x9) := HB.out.trans ((HBR.out.trans (hp.mono HBR.out.size)).mono HB.out.size)
            clear hp
            go_wp2
            all_goals (go_ret; exact ⟨rfl, HB9.out⟩)
    · obtain ⟨a, ha⟩ : ∃ a : Nat, k / 2 = a := ⟨_, rfl⟩
      have HA : Hid (a ≤ k) := by show _ ≤ _; omega
      have hkn := HKk.out.2.2.1
      have hn0 := HF.out.2.2.2
      have z2 : wrap64 ((k : Int) / 2) = (a : Int) := by unfold wrap64; omega
      have z3 : (k : Int) / 2 = (a : Int) := by omega
      have z4 : wrap64 (a : Int) = (a : Int) := by unfold wrap64; omega
      have HCP : Hid ((k : Int) ≤ (cc : Int) ∧ (a : Int) ≤ (cc : Int)) := by show _ ∧ _; omega
      clear hkn hn0 ha
      rcases Int.lt_or_le z 0 with hz3 | hz3
      · have d1 : decide (z < 0) = true := decide_eq_true hz3
        have d2 : True := trivial
        clear hz hz1 hz2
        go_upto_region 6 with fail
        try simp only [d1, d2, z2, z3, z4, Bool.or_false]
        clear d1 d2 z2 z3
        go_wp2_with fail
        go_loopw [6, 7] (fun v iv wr => ∃ (i : Nat) (yr : Option Addr) (m cr : Nat), a ≤ i ∧ i ≤ k ∧ iv = .int .i64 i ∧ v = .slice yr m cr ∧ (((cutW S).take i).drop a).flatten.length = m ∧ OwnK wrE wr w2.heap.size (.slice yr m cr) (((cutW S).take i).drop a).flatten ∧ Below w2.heap.size w2 wr) (fun _ iv _ => k - (intOf iv).toNat)
        case atStart => exact ⟨a, none, 0, 0, Nat.le_refl _, HA.out, rfl, rfl, by rw [List.drop_eq_nil_of_le (by rw [List.length_take]; omega)]; rfl, by rw [List.drop_eq_nil_of_le (by rw [List.length_take]; omega)]; exact OwnK.nil _ _ _, Below.refl _ _⟩
        case round =>
          obtain ⟨i, yr, m, cr, hai, hik, rfl, rfl, hm, oR, hBr⟩ := hrel
          have hz9 := HKk.out.2.2.1
          have hz8 := HF.out.2.2.2
          by_cases hlt : i < k
          · have i0 : (0 : Int) ≤ (i : Int) := by omega
            have i1 : (i : Int) < (k : Int) := by omega
            have hz7 : (i : Int) + 1 ≤ 1954687338267 := by omega
            obtain ⟨d, hd⟩ : ∃ q, (cutW S)[i]? = some q := ⟨_, List.getElem?_eq_getElem (by have := HKk.out.2.2.2; omega)⟩
            obtain ⟨b9, o9, yd, dd, he9, hb9, q1, kd⟩ := (HI.out.kept hBr).at i d hd
            simp only [Option.some.injEq, Addr.mk.injEq, and_true] at he9
            obtain ⟨rfl, rfl⟩ := he9
            rw [Nat.zero_add] at q1
            obtain ⟨nd, hnd⟩ : ∃ q, d.length = q := ⟨_, rfl⟩
            rw [hnd] at q1 kd
            have hfn := flat_next (cutW S) a i d hai hd
            have hfl := flat_len S a (i + 1)
            rw [hfn, List.length_append, hm, hnd] at hfl
            have hsn := HKk.out.2.1
            obtain ⟨v3, c3, w3, hr, o3, b3, -, -⟩ := run_appAll wrE_ok wr w2.heap.size yr m cr _ d yd nd dd (m + nd) 22 oR kd hm hnd rfl (by show (m + nd) * 72 ≤ _; omega) (by unfold maxLen; omega) hBr.size
            have HO : Hid (OwnK wrE w3 w2.heap.size (.slice v3 (m + nd) c3) (((cutW S).take (i + 1)).drop a).flatten) := by show OwnK _ _ _ _ _; rw [hfn]; exact o3
            have HL : Hid ((((cutW S).take (i + 1)).drop a).flatten.length = m + nd) := by show _ = _; rw [hfn, List.length_append, hm, hnd]
            have HB3 : Hid (Below w2.heap.size w2 w3) := hBr.trans b3
            replace hr : (Builtin.append_ #[22, 22] 22 #[.slice yr m cr, .slice yd nd dd]).run Try.prog wr = .ok (.slice v3 (m + nd) c3) w3 := hr
            clear hfn hfl hsn o3 b3 oR hm hBr kd hnd hd
            go_wp2_with (at_builtin; refine wpL_appT 22 rfl _ _ rfl _ w3 (by exact hr) ?_)
            go_roundw
            case rel => exact ⟨i + 1, _, _, _, by omega, by omega, by go_num, rfl, HL.out, HO.out, HB3.out⟩
            case measure => simp [intOf]; omega
          · obtain rfl : i = k := by omega
            have i1 : ¬ (i : Int) < (i : Int) := by omega
            rw [List.take_of_length_le (by rw [HKk.out.2.2.2]; omega), cutW_rest S a (by rw [HKk.out.1]; exact hai)] at hm oR
            have HA : Hid (a ≤ i) := hai
            have HR : Hid ((S.drop (8 * a)).length = m ∧ IsK wrE wr (.slice yr m cr) (S.drop (8 * a))) := ⟨hm, oR.isK wrE_ok⟩
            have HBR : Hid (Below w2.heap.size w2 wr) := hBr
            have FA : Hid ((0 : Int) ≤ (a : Int) ∧ (a : Int) ≤ (i : Int)) := by show _ ∧ _; omega
            clear hm oR hBr hai
            go_upto_region 11 with fail
            refine wp_relies [Fx (.slice x0 n c), Fx (.slice (some ⟨g, 0, none⟩) i cc), Fx (.int .i64 (a : Int)), Fx (.slice (some ⟨g, 0, none⟩) a cc), fun v x => ∃ y4 k4 c4, v = .slice y4 k4 c4 ∧ (S.drop (8 * a)).length = k4 ∧ IsK wrE x (.slice y4 k4 c4) (S.drop (8 * a)), Fx (.slice yr m cr), Fx (.bool true), Fx (.bool true), Fx (.slice yr m cr), fun v x => ∃ y5 k5 c5, v = .slice y5 k5 c5 ∧ (cutW (S.drop (8 * a))).length = k5 ∧ IsLL x (.slice y5 k5 c5) (cutW (S.drop (8 * a))), Fx (.slice (some ⟨g, 0, none⟩) i cc), Fx (.int .i64 (a : Int)), Fx (.slice (if cc = a then some ⟨g, 0, none⟩ else some ⟨g, 0 + a, none⟩) (i - a) (cc - a)), Fx (.bool true), Fx (.bool true), Fx (.bool true)] (by kernel_rfl) (by kernel_rfl) ?_ ?_ ?_
            · repeat' (first | exact all_nil | apply all_cons)
              all_goals intro v y y' hv hb
              all_goals first | exact Fx_mono _ _ _ _ hv hb | (obtain ⟨y4, k4, c4, h1, h2, h3⟩ := hv; exact ⟨y4, k4, c4, h1, h2, h3.kept hb⟩)
            · refine ⟨?_, ?_, ?_, ?_, ?_, ?_, ?_, ?_, ?_, ?_, ?_, ?_, ?_, ?_, ?_, ?_, trivial⟩
              all_goals
                intro ρ x hp ρc ρg ρf ho hd
                have o0 : ρ (.tmp 0) = .slice x0 n c := ho 0 rfl
                have o1 : ρ (.tmp 1) = .int .i64 (a : Int) := ho 1 rfl
                have o5 : ρ (.tmp 5) = .slice (some ⟨g, 0, none⟩) i cc := ho 5 rfl
                have o6 : ρ (.tmp 6) = .slice yr m cr := ho 6 rfl
                clear ho
                simp only [depsR, depR, slotR, Fx, List.getElem?_cons_succ, List.getElem?_cons_zero, Region.binds, forall_const] at hd
                simp only [guardR]
                go_split_ands
              · go_simp
              · go_simp
              · go_simp
              · obtain ⟨s1, s2⟩ := FA.out
                obtain ⟨s3, s4⟩ := HCP.out
                go_simp
              · go_simp
                have hI := HI.out.kept (HBR.out.trans (hp.mono HBR.out.size))
                refine (HF.out.1.left l x0 n c ((cutW S).take a) _ a _ x HF.out.2.1 (HF.out.2.2.1.kept (HB.out.trans ((HBR.out.trans (hp.mono HBR.out.size)).mono HB.out.size))) HF.out.2.2.2 (by rw [List.length_take, HKk.out.2.2.2]; have := HA.out; omega) (hI.take a HA.out) (by have := HA.out; have := HKk.out; have := HF.out.2.2.2; omega) (fun e he => by have := cutW_mem S e (List.mem_of_mem_take he); omega)).mono ?_
                rintro e x' ⟨y4, k4, c4, rfl, hk4, o4, hb⟩
                rw [HS.out, leftW_first S a (by rw [← HS.out]; exact srtW_rise l) (by rw [HKk.out.1]; exact HA.out)] at hk4 o4
                exact ⟨_, rfl, ⟨y4, k4, c4, rfl, by first | exact hk4 | (rw [List.length_drop] at hk4; exact hk4), o4.isK wrE_ok⟩, hb⟩
              · go_simp
              · obtain ⟨y4, k4, c4, e4, hk4, i4⟩ := ‹∃ y4 k4 c4, ρ (.tmp 40) = .slice y4 k4 c4 ∧ _ ∧ _›
                go_simp
                refine (same26_any y4 yr c4 cr k4 m _ _ x hk4 HR.out.1 i4 (HR.out.2.kept hp) (by have := HKk.out.2.1; have := HF.out.2.2.2; have h8 := HR.out.1; rw [← hk4, List.length_drop]; omega)).mono ?_
                rintro e x' ⟨rfl, hb⟩
                exact ⟨_, rfl, by simp [Fx], hb⟩
              · go_simp
              · refine ⟨fun _ => ?_, fun hy => absurd (by simp [yieldR, slotR, *]) hy⟩
                go_simp
              · refine ⟨fun _ => ?_, fun hy => absurd (by simp [yieldR, slotR, *]) hy⟩
                go_simp
                refine (HF.out.1.cut (S.drop (8 * a)) yr m cr x HR.out.1 (HR.out.2.kept hp) (by have := HKk.out.2.1; have := HF.out.2.2.2; have h8 := HR.out.1; rw [← h8, List.length_drop]; omega)).mono ?_
                rintro e x' ⟨y5, k5, c5, ps5, rfl, hk5, hP5, hb⟩
                rw [srtW_id _ (rise_drop S (8 * a) (by rw [← HS.out]; exact srtW_rise l))] at hk5 hP5
                exact ⟨_, rfl, ⟨y5, k5, c5, rfl, by rw [cutW_len]; exact hk5, hP5.isLL⟩, hb⟩
              · refine ⟨fun _ => ?_, fun hy => absurd (by simp [yieldR, slotR, *]) hy⟩
                go_simp
              · refine ⟨fun _ => ?_, fun hy => absurd (by simp [yieldR, slotR, *]) hy⟩
                go_simp
              · refine ⟨fun _ => ?_, fun hy => absurd (by simp [yieldR, slotR, *]) hy⟩
                obtain ⟨s1, s2⟩ := FA.out
                obtain ⟨s3, s4⟩ := HCP.out
                go_simp
              · refine ⟨fun _ => ?_, fun hy => absurd (by simp [yieldR, slotR, *]) hy⟩
                obtain ⟨y5, k5, c5, e5, hk5, i5⟩ := ‹∃ y5 k5 c5, ρ (.tmp 45) = .slice y5 k5 c5 ∧ _ ∧ _›
                rw [cutW_drop S a (by rw [HKk.out.1]; exact HA.out)] at hk5 i5
                go_simp
                have hI := HI.out.kept (HBR.out.trans (hp.mono HBR.out.size))
                have hJ := hI.drop a HA.out (by have := HCP.out.1; omega)
                try rw [Nat.zero_add] at hJ
                have hl6 : ((cutW S).drop a).length = (i - a) := by rw [List.length_drop, HKk.out.2.2.2]
                have hk6 : k5 ≤ 140737488355328 := by have h1 := HKk.out.2.2.1; have h2 := HF.out.2.2.2; rw [List.length_drop, HKk.out.2.2.2] at hk5; omega
                refine (all26_any _ _ y5 _ k5 (i - a) c5 _ x hk5 hl6 i5 hJ hk6 (fun d hd => by have := cutW_mem S d (List.mem_of_mem_drop hd); omega)).mono ?_
                rintro e x' ⟨rfl, hb⟩
                exact ⟨_, rfl, by simp [Fx], hb⟩
              · go_simp
              · go_simp
            · intro vs x9 hp hw
              simp only [owed, Fx] at hw
              obtain ⟨e0, e1, e2, e3, ⟨y4, k4, c4, e4, -⟩, e5, e6, e7, e8, ⟨y5, k5, c5, e9, -⟩, e10, e11, e12, e13, e14, e15, -⟩ := hw
              simp only [List.length_cons, List.length_nil, List.take_succ_cons, List.take_nil, List.drop_succ_cons, List.drop_nil, asg, List.cons_append, List.nil_append, e0, e1, e2, e3, e4, e5, e6, e7, e8, e9, e10, e11, e12, e13, e14, e15]
              clear e0 e1 e2 e3 e4 e5 e6 e7 e8 e9 e10 e11 e12 e13 e14 e15
              have HB9 : Hid (Below w.heap.size w x9) := HB.out.trans ((HBR.out.trans (hp.mono HBR.out.size)).mono HB.out.size)
              clear hp
              go_wp2
              all_goals (go_ret; exact ⟨rfl, HB9.out⟩)
      · have d1 : decide (z < 0) = false := decide_eq_false (by omega)
        have d2 : decide ((k : Int) < z) = true := decide_eq_true (by omega)
        have hz4 : (k : Int) < z := by omega
        have hz5 : z > (k : Int) := by omega
        clear hz hz1 hz2
        go_upto_region 6 with fail
        try simp only [d1, d2, z2, z3, z4, Bool.or_false]
        clear d1 d2 z2 z3
        go_wp2_with fail
        go_loopw [6, 7] (fun v iv wr => ∃ (i : Nat) (yr : Option Addr) (m cr : Nat), a ≤ i ∧ i ≤ k ∧ iv = .int .i64 i ∧ v = .slice yr m cr ∧ (((cutW S).take i).drop a).flatten.length = m ∧ OwnK wrE wr w2.heap.size (.slice yr m cr) (((cutW S).take i).drop a).flatten ∧ Below w2.heap.size w2 wr) (fun _ iv _ => k - (intOf iv).toNat)
        case atStart => exact ⟨a, none, 0, 0, Nat.le_refl _, HA.out, rfl, rfl, by rw [List.drop_eq_nil_of_le (by rw [List.length_take]; omega)]; rfl, by rw [List.drop_eq_nil_of_le (by rw [List.length_take]; omega)]; exact OwnK.nil _ _ _, Below.refl _ _⟩
        case round =>
          obtain ⟨i, yr, m, cr, hai, hik, rfl, rfl, hm, oR, hBr⟩ := hrel
          have hz9 := HKk.out.2.2.1
          have hz8 := HF.out.2.2.2
          by_cases hlt : i < k
          · have i0 : (0 : Int) ≤ (i : Int) := by omega
            have i1 : (i : Int) < (k : Int) := by omega
            have hz7 : (i : Int) + 1 ≤ 1954687338267 := by omega
            obtain ⟨d, hd⟩ : ∃ q, (cutW S)[i]? = some q := ⟨_, List.getElem?_eq_getElem (by have := HKk.out.2.2.2; omega)⟩
            obtain ⟨b9, o9, yd, dd, he9, hb9, q1, kd⟩ := (HI.out.kept hBr).at i d hd
            simp only [Option.some.injEq, Addr.mk.injEq, and_true] at he9
            obtain ⟨rfl, rfl⟩ := he9
            rw [Nat.zero_add] at q1
            obtain ⟨nd, hnd⟩ : ∃ q, d.length = q := ⟨_, rfl⟩
            rw [hnd] at q1 kd
            have hfn := flat_next (cutW S) a i d hai hd
            have hfl := flat_len S a (i + 1)
            rw [hfn, List.length_append, hm, hnd] at hfl
            have hsn := HKk.out.2.1
            obtain ⟨v3, c3, w3, hr, o3, b3, -, -⟩ := run_appAll wrE_ok wr w2.heap.size yr m cr _ d yd nd dd (m + nd) 22 oR kd hm hnd rfl (by show (m + nd) * 72 ≤ _; omega) (by unfold maxLen; omega) hBr.size
            have HO : Hid (OwnK wrE w3 w2.heap.size (.slice v3 (m + nd) c3) (((cutW S).take (i + 1)).drop a).flatten) := by show OwnK _ _ _ _ _; rw [hfn]; exact o3
            have HL : Hid ((((cutW S).take (i + 1)).drop a).flatten.length = m + nd) := by show _ = _; rw [hfn, List.length_append, hm, hnd]
            have HB3 : Hid (Below w2.heap.size w2 w3) := hBr.trans b3
            replace hr : (Builtin.append_ #[22, 22] 22 #[.slice yr m cr, .slice yd nd dd]).run Try.prog wr = .ok (.slice v3 (m + nd) c3) w3 := hr
            clear hfn hfl hsn o3 b3 oR hm hBr kd hnd hd
            go_wp2_with (at_builtin; refine wpL_appT 22 rfl _ _ rfl _ w3 (by exact hr) ?_)
            go_roundw
            case rel => exact ⟨i + 1, _, _, _, by omega, by omega, by go_num, rfl, HL.out, HO.out, HB3.out⟩
            case measure => simp [intOf]; omega
          · obtain rfl : i = k := by omega
            have i1 : ¬ (i : Int) < (i : Int) := by omega
            rw [List.take_of_length_le (by rw [HKk.out.2.2.2]; omega), cutW_rest S a (by rw [HKk.out.1]; exact hai)] at hm oR
            have HA : Hid (a ≤ i) := hai
            have HR : Hid ((S.drop (8 * a)).length = m ∧ IsK wrE wr (.slice yr m cr) (S.drop (8 * a))) := ⟨hm, oR.isK wrE_ok⟩
            have HBR : Hid (Below w2.heap.size w2 wr) := hBr
            have FA : Hid ((0 : Int) ≤ (a : Int) ∧ (a : Int) ≤ (i : Int)) := by show _ ∧ _; omega
            clear hm oR hBr hai
            go_upto_region 11 with fail
            refine wp_relies [Fx (.slice x0 n c), Fx (.slice (some ⟨g, 0, none⟩) i cc), Fx (.int .i64 (a : Int)), Fx (.slice (some ⟨g, 0, none⟩) a cc), fun v x => ∃ y4 k4 c4, v = .slice y4 k4 c4 ∧ (S.drop (8 * a)).length = k4 ∧ IsK wrE x (.slice y4 k4 c4) (S.drop (8 * a)), Fx (.slice yr m cr), Fx (.bool true), Fx (.bool true), Fx (.slice yr m cr), fun v x => ∃ y5 k5 c5, v = .slice y5 k5 c5 ∧ (cutW (S.drop (8 * a))).length = k5 ∧ IsLL x (.slice y5 k5 c5) (cutW (S.drop (8 * a))), Fx (.slice (some ⟨g, 0, none⟩) i cc), Fx (.int .i64 (a : Int)), Fx (.slice (if cc = a then some ⟨g, 0, none⟩ else some ⟨g, 0 + a, none⟩) (i - a) (cc - a)), Fx (.bool true), Fx (.bool true), Fx (.bool true)] (by kernel_rfl) (by kernel_rfl) ?_ ?_ ?_
            · repeat' (first | exact all_nil | apply all_cons)
              all_goals intro v y y' hv hb
              all_goals first | exact Fx_mono _ _ _ _ hv hb | (obtain ⟨y4, k4, c4, h1, h2, h3⟩ := hv; exact ⟨y4, k4, c4, h1, h2, h3.kept hb⟩)
            · refine ⟨?_, ?_, ?_, ?_, ?_, ?_, ?_, ?_, ?_, ?_, ?_, ?_, ?_, ?_, ?_, ?_, trivial⟩
              all_goals
                intro ρ x hp ρc ρg ρf ho hd
                have o0 : ρ (.tmp 0) = .slice x0 n c := ho 0 rfl
                have o1 : ρ (.tmp 1) = .int .i64 (a : Int) := ho 1 rfl
                have o5 : ρ (.tmp 5) = .slice (some ⟨g, 0, none⟩) i cc := ho 5 rfl
                have o6 : ρ (.tmp 6) = .slice yr m cr := ho 6 rfl
                clear ho
                simp only [depsR, depR, slotR, Fx, List.getElem?_cons_succ, List.getElem?_cons_zero, Region.binds, forall_const] at hd
                simp only [guardR]
                go_split_ands
              · go_simp
              · go_simp
              · go_simp
              · obtain ⟨s1, s2⟩ := FA.out
                obtain ⟨s3, s4⟩ := HCP.out
                go_simp
              · go_simp
                have hI := HI.out.kept (HBR.out.trans (hp.mono HBR.out.size))
                refine (HF.out.1.left l x0 n c ((cutW S).take a) _ a _ x HF.out.2.1 (HF.out.2.2.1.kept (HB.out.trans ((HBR.out.trans (hp.mono HBR.out.size)).mono HB.out.size))) HF.out.2.2.2 (by rw [List.length_take, HKk.out.2.2.2]; have := HA.out; omega) (hI.take a HA.out) (by have := HA.out; have := HKk.out; have := HF.out.2.2.2; omega) (fun e he => by have := cutW_mem S e (List.mem_of_mem_take he); omega)).mono ?_
                rintro e x' ⟨y4, k4, c4, rfl, hk4, o4, hb⟩
                rw [HS.out, leftW_first S a (by rw [← HS.out]; exact srtW_rise l) (by rw [HKk.out.1]; exact HA.out)] at hk4 o4
                exact ⟨_, rfl, ⟨y4, k4, c4, rfl, by first | exact hk4 | (rw [List.length_drop] at hk4; exact hk4), o4.isK wrE_ok⟩, hb⟩
              · go_simp
              · obtain ⟨y4, k4, c4, e4, hk4, i4⟩ := ‹∃ y4 k4 c4, ρ (.tmp 40) = .slice y4 k4 c4 ∧ _ ∧ _›
                go_simp
                refine (same26_any y4 yr c4 cr k4 m _ _ x hk4 HR.out.1 i4 (HR.out.2.kept hp) (by have := HKk.out.2.1; have := HF.out.2.2.2; have h8 := HR.out.1; rw [← hk4, List.length_drop]; omega)).mono ?_
                rintro e x' ⟨rfl, hb⟩
                exact ⟨_, rfl, by simp [Fx], hb⟩
              · go_simp
              · refine ⟨fun _ => ?_, fun hy => absurd (by simp [yieldR, slotR, *]) hy⟩
                go_simp
              · refine ⟨fun _ => ?_, fun hy => absurd (by simp [yieldR, slotR, *]) hy⟩
                go_simp
                refine (HF.out.1.cut (S.drop (8 * a)) yr m cr x HR.out.1 (HR.out.2.kept hp) (by have := HKk.out.2.1; have := HF.out.2.2.2; have h8 := HR.out.1; rw [← h8, List.length_drop]; omega)).mono ?_
                rintro e x' ⟨y5, k5, c5, ps5, rfl, hk5, hP5, hb⟩
                rw [srtW_id _ (rise_drop S (8 * a) (by rw [← HS.out]; exact srtW_rise l))] at hk5 hP5
                exact ⟨_, rfl, ⟨y5, k5, c5, rfl, by rw [cutW_len]; exact hk5, hP5.isLL⟩, hb⟩
              · refine ⟨fun _ => ?_, fun hy => absurd (by simp [yieldR, slotR, *]) hy⟩
                go_simp
              · refine ⟨fun _ => ?_, fun hy => absurd (by simp [yieldR, slotR, *]) hy⟩
                go_simp
              · refine ⟨fun _ => ?_, fun hy => absurd (by simp [yieldR, slotR, *]) hy⟩
                obtain ⟨s1, s2⟩ := FA.out
                obtain ⟨s3, s4⟩ := HCP.out
                go_simp
              · refine ⟨fun _ => ?_, fun hy => absurd (by simp [yieldR, slotR, *]) hy⟩
                obtain ⟨y5, k5, c5, e5, hk5, i5⟩ := ‹∃ y5 k5 c5, ρ (.tmp 45) = .slice y5 k5 c5 ∧ _ ∧ _›
                rw [cutW_drop S a (by rw [HKk.out.1]; exact HA.out)] at hk5 i5
                go_simp
                have hI := HI.out.kept (HBR.out.trans (hp.mono HBR.out.size))
                have hJ := hI.drop a HA.out (by have := HCP.out.1; omega)
                try rw [Nat.zero_add] at hJ
                have hl6 : ((cutW S).drop a).length = (i - a) := by rw [List.length_drop, HKk.out.2.2.2]
                have hk6 : k5 ≤ 140737488355328 := by have h1 := HKk.out.2.2.1; have h2 := HF.out.2.2.2; rw [List.length_drop, HKk.out.2.2.2] at hk5; omega
                refine (all26_any _ _ y5 _ k5 (i - a) c5 _ x hk5 hl6 i5 hJ hk6 (fun d hd => by have := cutW_mem S d (List.mem_of_mem_drop hd); omega)).mono ?_
                rintro e x' ⟨rfl, hb⟩
                exact ⟨_, rfl, by simp [Fx], hb⟩
              · go_simp
              · go_simp
            · intro vs x9 hp hw
              simp only [owed, Fx] at hw
              obtain ⟨e0, e1, e2, e3, ⟨y4, k4, c4, e4, -⟩, e5, e6, e7, e8, ⟨y5, k5, c5, e9, -⟩, e10, e11, e12, e13, e14, e15, -⟩ := hw
              simp only [List.length_cons, List.length_nil, List.take_succ_cons, List.take_nil, List.drop_succ_cons, List.drop_nil, asg, List.cons_append, List.nil_append, e0, e1, e2, e3, e4, e5, e6, e7, e8, e9, e10, e11, e12, e13, e14, e15]
              clear e0 e1 e2 e3 e4 e5 e6 e7 e8 e9 e10 e11 e12 e13 e14 e15
              have HB9 : Hid (Below w.heap.size w x9) := HB.out.trans ((HBR.out.trans (hp.mono HBR.out.size)).mono HB.out.size)
              clear hp
              go_wp2
              all_goals (go_ret; exact ⟨rfl, HB9.out⟩)
end Go.Proofs.Ytmbkkdojjfdliaa
