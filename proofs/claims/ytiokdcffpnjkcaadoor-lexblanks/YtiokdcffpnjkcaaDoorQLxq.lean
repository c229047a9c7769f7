import Derived.Test.YtiokdcffpnjkcaaDoorQLxb
namespace Go.Proofs.YtiokdcffpnjkcaaDoor
open Go.RowKit

/-! lex.isStray, lex.writeQuoted -/
set_option linter.unusedSimpArgs false in
theorem hasErr (s : ByteArray) (w : World) : Calls Tryd.prog 37 #[.string s, .string ⟨#[239, 191, 189]⟩] w fun e w' => e = .returned (.bool (decide ((lS s).take 3 = [239, 191, 189]))) ∧ w' = w := by
  have hz3 : (ByteArray.mk #[239, 191, 189]).size = 3 := rfl
  have hl := lS_len s
  obtain ⟨r, hr⟩ : ∃ r, decide ((lS s).take 3 = [239, 191, 189]) = r := ⟨_, rfl⟩
  rw [hr]
  by_cases h3 : 3 ≤ s.size
  · have hi3 : (3 : Int) ≤ (s.size : Int) := by omega
    have hq : ∀ W, (sCut0 (.string s) (.int .i64 3)).run Tryd.prog W = .ok (.value (.string (s.extract 0 3))) W := fun W => run_sCut0 W s 3 h3
    have hx : lS (s.extract 0 3) = (lS s).take 3 := by rw [lS_cut]; rfl
    by_cases hf : (lS s).take 3 = [239, 191, 189]
    · have hx2 : ((s.extract 0 3).toList == [239, 191, 189]) = true := by have h := sEq14 (s := s.extract 0 3) (t := ⟨#[239, 191, 189]⟩) (by rw [hx, hf]; rfl); rwa [ByteArray.toList_eq ⟨#[239, 191, 189]⟩] at h
      obtain rfl : r = true := by rw [← hr]; simp [hf]
      clear hr hf hx hl
      generalize s.extract 0 3 = S7 at hx2 hq
      go_enter Tryd.func37, Tryd.ntmps37
      go_wp2
      go_ret
      exact ⟨rfl, rfl⟩
    · have hx2 : ((s.extract 0 3).toList == [239, 191, 189]) = false := by have h := sNe14 (s := s.extract 0 3) (t := ⟨#[239, 191, 189]⟩) (by rw [hx]; exact hf); rwa [ByteArray.toList_eq ⟨#[239, 191, 189]⟩] at h
      obtain rfl : r = false := by rw [← hr]; simp [hf]
      clear hr hf hx hl
      generalize s.extract 0 3 = S7 at hx2 hq
      go_enter Tryd.func37, Tryd.ntmps37
      go_wp2
      go_ret
      exact ⟨rfl, rfl⟩
  · have hi3 : ¬ (3 : Int) ≤ (s.size : Int) := by omega
    obtain rfl : r = false := by
      rw [← hr, decide_eq_false]
      intro h
      have := congrArg List.length h
      rw [List.length_take] at this
      simp at this
      omega
    clear hr hl
    go_enter Tryd.func37, Tryd.ntmps37
    go_wp2
    go_ret
    exact ⟨rfl, rfl⟩
theorem hasErr2 (s : ByteArray) (w : World) : Calls Tryd.prog 26 #[.string s, .string ⟨#[239, 191, 189]⟩] w fun e w' => e = .returned (.bool (decide ((lS s).take 3 = [239, 191, 189]))) ∧ w' = w := by
  have h := hasErr s
  generalize decide ((lS s).take 3 = [239, 191, 189]) = r at h ⊢
  go_enter Tryd.func26, Tryd.ntmps26
  go_wp2_with fail
  refine (h _).mono ?_
  rintro e w' ⟨rfl, rfl⟩
  go_wp2
  go_ret
  exact ⟨rfl, rfl⟩
set_option linter.unusedSimpArgs false in
theorem isStray_any (v : Nat) (s : ByteArray) (w : World) : Calls Tryd.prog 16 #[.int .i32 (v : Int), .string s] w fun e w' => e = .returned (.bool (stray v (lS s))) ∧ w' = w := by
  have h := hasErr2 s
  unfold stray
  generalize decide ((lS s).take 3 = [239, 191, 189]) = r at h ⊢
  by_cases hv : v = 65533
  · have h1 : ((v : Int) == 65533) = true := by rw [hv]; rfl
    rw [decide_eq_true hv, Bool.true_and]
    clear hv
    go_enter Tryd.func16, Tryd.ntmps16
    go_wp2_with fail
    refine (h _).mono ?_
    rintro e w' ⟨rfl, rfl⟩
    go_wp2
    go_ret
    exact ⟨rfl, rfl⟩
  · have h1 : ((v : Int) == 65533) = false := beq_eq_false_iff_ne.2 (by omega)
    rw [decide_eq_false hv, Bool.false_and]
    clear hv
    go_enter Tryd.func16, Tryd.ntmps16
    go_wp2_with fail
    go_ret
    exact ⟨rfl, rfl⟩
end Go.Proofs.YtiokdcffpnjkcaaDoor
