import Derived.Test.YtfihpfaljjljhaaZf
import Derived.Test.YtfihpfaljjljhaaKept
namespace Go.Proofs.Ytfihpfaljjljhaa
open Go.RowKit

theorem zfB_all (s : Nat → UInt8) : zfB s 0 64 = secEq s secZ := by
  rw [Bool.eq_iff_iff, zfB_iff, secEq_iff]
  constructor
  · rintro ⟨_, h⟩ i hi; exact h i hi (by omega) (by omega)
  · intro h; exact ⟨by omega, fun i hi _ _ => h i hi⟩
set_option maxHeartbeats 400000 in
theorem lawZero_no (s : Nat → UInt8) (a b : Int) (w : World) (h : ¬ (0 ≤ a ∧ a ≤ b ∧ b ≤ 64)) :
    Calls Try.prog 3 #[.agg (secA s), .int .i64 a, .int .i64 b] w fun e w' => e = .returned (.bool true) ∧ Below w.heap.size w w' := by
  have hz := zfB_bad s a b h
  by_cases h1 : a < 0
  all_goals
    by_cases h2 : 64 < b
  all_goals
    by_cases h3 : b < a
  all_goals
    first
    | (exfalso; omega)
    | skip
  all_goals
    go_enter Try.func3, Try.ntmps3
    go_wp2_with fail
    refine (taken_any _).mono ?_
    rintro e w1 ⟨rfl, hb1⟩
    obtain ⟨k1, r1⟩ := keepRow hb1 (n := w.heap.size) (c := secA s) (by simp) (rowOk_new _ _ _ _ rfl (secA_size _)) (rowAt_new _ _ _ _ rfl)
    have z1 : w.heap.size + 1 ≤ w1.heap.size := by have := hb1.size; simpa using this
    go_wp2_with fail
    refine (zeroFrom_any _ _ _ _).mono ?_
    rintro e w2 ⟨rfl, hb2⟩
    go_wp2_with fail
    go_ret
    exact ⟨rfl, (((Below.refl _ _).alloc (Nat.le_refl _) _).trans (hb1.mono (by simp))).trans (hb2.mono (by omega))⟩
theorem zero_eq {s : Nat → UInt8} {r : Bool} (h : secEq s secZ = r) (w : World) :
    Calls Try.prog 8 #[.agg (secA s)] w fun e w' => e = .returned (.bool r) ∧ Below w.heap.size w w' := by
  rw [← h]; exact zero_any s w
theorem zeroFrom_eq {s : Nat → UInt8} {a b : Int} {r : Bool} (h : zfB s a b = r) (w : World) :
    Calls Try.prog 7 #[.agg (secA s), .int .i64 a, .int .i64 b] w fun e w' => e = .returned (.bool r) ∧ Below w.heap.size w w' := by
  rw [← h]; exact zeroFrom_any s a b w
set_option maxHeartbeats 800000 in
theorem lawZero_yes (s : Nat → UInt8) (a b : Nat) (w : World) (h : a ≤ b) (h' : b ≤ 64) :
    Calls Try.prog 3 #[.agg (secA s), .int .i64 a, .int .i64 b] w fun e w' => e = .returned (.bool true) ∧ Below w.heap.size w w' := by
  go_enter Try.func3, Try.ntmps3
  have c1 : decide ((a : Int) < 0) = false := by simp
  have c2 : decide ((64 : Int) < (b : Int)) = false := by simp; omega
  have c3 : decide (b < a) = false := by simp; omega
  go_wp2_with fail
  refine (taken_any _).mono ?_
  rintro e w1 ⟨rfl, hb1⟩
  have H1 : Held w.heap.size w.heap.size w s w1 := (Held.start w s _).below hb1
  have z1 : w.heap.size + 1 ≤ w1.heap.size := by have := hb1.size; simpa using this
  clear hb1
  go_wp2_with fail
  go_loopw [7, 8] (fun al i w' => ∃ k : Nat, a ≤ k ∧ k ≤ b ∧ i = .int .i64 k ∧ al = .bool (zfB s a k) ∧ Held w.heap.size w.heap.size w s w') (fun _ i _ => b - (intOf i).toNat)
  case atStart => exact ⟨a, Nat.le_refl _, h, rfl, by rw [zfB_none s a (by omega) (by omega)], H1⟩
  case round =>
    obtain ⟨k, hk1, hk2, rfl, rfl, hH⟩ := hrel
    by_cases hlt : k < b
    · obtain ⟨y, hy⟩ : ∃ y, zfB s a k = y := ⟨_, rfl⟩
      obtain ⟨z, hz⟩ : ∃ z, zfB s k b = z := ⟨_, rfl⟩
      obtain ⟨x, hx⟩ : ∃ x, (((s k).toNat : Int) == 0) = x := ⟨_, rfl⟩
      have hx1 : zfB s k ((k : Int) + 1) = x := by rw [zfB_one s k (by omega), hx]
      have hyz : zfB s a b = (y && z) := by rw [zfB_cut s a k b (by omega) (by omega) (by omega) (by omega), hy, hz]
      have HN : Hid (zfB s a ((k + 1 : Nat) : Int) = (y && x)) := by
        show _ = _
        rw [zfB_cut s a k _ (by omega) (by omega) (by omega) (by omega), hy, ← hx1]; rfl
      have hR := hH.2.2.1
      have hA := hH.2.2.2
      have kN : Nonempty (Kw (Held w.heap.size w.heap.size w s)) := ⟨⟨wr, hH⟩⟩
      have kR : ∀ n : Kw (Held w.heap.size w.heap.size w s), rowOk n.w w.heap.size = true := fun n => n.ok.2.2.1
      have kA : ∀ n : Kw (Held w.heap.size w.heap.size w s), rowAt n.w w.heap.size = secA s := fun n => n.ok.2.2.2
      have kC : ∀ n : Kw (Held w.heap.size w.heap.size w s), n.w.cell? ⟨w.heap.size, k, none⟩ = some (Value.int .u8 ((s k).toNat : Int)) := fun n => n.ok.cell k (by omega)
      cases y
      · cases z <;> cases x <;> simp only [Bool.false_and] at hyz
        all_goals
        go_wp2_with fail
        refine wp_region_kept (Held w.heap.size w.heap.size w s) (by kernel_rfl) (Held.drew (by assumption)) ?_
        repeat (go_big_quiet_step ((refine Calls.kept (zeroFrom_eq (by first | exact hx1 | exact hyz | exact hy | exact hz) _) ?_; exact fun w' hb => Held.below (Kw.ok _) hb)))
        refine wpQuiet_nil ?_
        rintro ⟨w3, H3⟩
        go_wp2
        go_roundw
        case rel => exact ⟨k + 1, by omega, by omega, by go_num, by rw [HN.out]; rfl, H3⟩
        case measure => simp [intOf]; omega
      · cases z <;> cases x <;> simp only [Bool.true_and] at hyz
        all_goals
        go_wp2_with fail
        refine (zeroFrom_eq hx1 _).mono ?_
        rintro e w2 ⟨rfl, hb2⟩
        have H2 := hH.below hb2
        clear hH hR hA hb2
        go_wp2_with fail
        refine wp_region_kept (Held w.heap.size w.heap.size w s) (by kernel_rfl) (Held.drew (by assumption)) ?_
        repeat (go_big_quiet_step ((refine Calls.kept (zeroFrom_eq (by first | exact hx1 | exact hyz | exact hy | exact hz) _) ?_; exact fun w' hb => Held.below (Kw.ok _) hb)))
        refine wpQuiet_nil ?_
        rintro ⟨w3, H3⟩
        go_wp2
        go_roundw
        case rel => exact ⟨k + 1, by omega, by omega, by go_num, by rw [HN.out]; rfl, H3⟩
        case measure => simp [intOf]; omega
    · obtain rfl : k = b := by omega
      have hR := hH.2.2.1
      have hA := hH.2.2.2
      have kN : Nonempty (Kw (Held w.heap.size w.heap.size w s)) := ⟨⟨wr, hH⟩⟩
      have kR : ∀ n : Kw (Held w.heap.size w.heap.size w s), rowOk n.w w.heap.size = true := fun n => n.ok.2.2.1
      have kA : ∀ n : Kw (Held w.heap.size w.heap.size w s), rowAt n.w w.heap.size = secA s := fun n => n.ok.2.2.2
      obtain ⟨y, hy⟩ : ∃ y, zfB s a k = y := ⟨_, rfl⟩
      obtain ⟨z, hz⟩ : ∃ z, zfB s 0 64 = z := ⟨_, rfl⟩
      have hz' : secEq s secZ = z := by rw [← zfB_all, hz]
      cases y <;> cases z
      all_goals
        go_wp2_with fail
        refine wp_region_kept (Held w.heap.size w.heap.size w s) (by kernel_rfl) (Held.drew (by assumption)) ?_
        repeat (go_big_quiet_step (first | (refine Calls.kept (zeroFrom_eq (by first | exact hy | exact hz) _) ?_; exact fun w' hb => Held.below (Kw.ok _) hb) | (refine Calls.kept (zero_eq hz' _) ?_; exact fun w' hb => Held.below (Kw.ok _) hb)))
        refine wpQuiet_nil ?_
        rintro ⟨w3, H3⟩
        go_wp2
        go_ret
        exact ⟨rfl, H3.2.1⟩
end Go.Proofs.Ytfihpfaljjljhaa
