
import Derived.Test.YtejjjgheedngdaaGeo3
import Derived.Test.YtejjjgheedngdaaRely
import Derived.Deep.DeepCutAuto
namespace Go.Proofs.Ytejjjgheedngdaa
open Go.RowKit

/-- The thirteen places by six numbers. -/
def pk (n B S T C R : Int) (k : Nat) : Int :=
  match k with
  | 0 => n
  | 1 => 11
  | 2 => B
  | 3 => 11 + B
  | 4 => S
  | 5 => 11 + B + S
  | 6 => T
  | 7 => 11 + B + S + T
  | 8 => T
  | 9 => 11 + B + S + T + T
  | 10 => C
  | 11 => 11 + B + S + T + T + C
  | 12 => R
  | _ => 0
section
variable (n B S T C R : Int)
@[go_sem] theorem pk_0 : pk n B S T C R 0 = n := by unfold pk; rfl
@[go_sem] theorem pk_1 : pk n B S T C R 1 = 11 := by unfold pk; rfl
@[go_sem] theorem pk_2 : pk n B S T C R 2 = B := by unfold pk; rfl
@[go_sem] theorem pk_3 : pk n B S T C R 3 = 11 + B := by unfold pk; rfl
@[go_sem] theorem pk_4 : pk n B S T C R 4 = S := by unfold pk; rfl
@[go_sem] theorem pk_5 : pk n B S T C R 5 = 11 + B + S := by unfold pk; rfl
@[go_sem] theorem pk_6 : pk n B S T C R 6 = T := by unfold pk; rfl
@[go_sem] theorem pk_7 : pk n B S T C R 7 = 11 + B + S + T := by unfold pk; rfl
@[go_sem] theorem pk_8 : pk n B S T C R 8 = T := by unfold pk; rfl
@[go_sem] theorem pk_9 : pk n B S T C R 9 = 11 + B + S + T + T := by unfold pk; rfl
@[go_sem] theorem pk_10 : pk n B S T C R 10 = C := by unfold pk; rfl
@[go_sem] theorem pk_11 : pk n B S T C R 11 = 11 + B + S + T + T + C := by unfold pk; rfl
@[go_sem] theorem pk_12 : pk n B S T C R 12 = R := by unfold pk; rfl
end
def cntT (k : Nat) : Nat := if k ≤ 2 then k else if k ≤ 11 then 2 else k - 9
theorem cntT_up {n : Int} {k : Nat} (_h : (k : Int) < n) (ht : tgtB n k = true) : cntT (k + 1) = cntT k + 1 := by
  unfold tgtB at ht
  simp at ht
  unfold cntT
  repeat' split
  all_goals omega
theorem cntT_stay {n : Int} {k : Nat} (h : (k : Int) < n) (ht : tgtB n k = false) : cntT (k + 1) = cntT k := by
  have : ¬ (k < 2) ∧ ¬ (10 < k) := by
    refine ⟨fun h2 => ?_, fun h2 => ?_⟩ <;> · unfold tgtB at ht; simp [h] at ht; omega
  unfold cntT
  repeat' split
  all_goals omega
theorem cntT_le (k : Nat) : cntT k ≤ k := by
  unfold cntT
  repeat' split
  all_goals omega
theorem cntT_end (k : Nat) (h : 64 ≤ (k : Int)) : ((cntT k : Nat) : Int) = (k : Int) - 9 := by
  unfold cntT
  repeat' split
  all_goals omega
set_option maxRecDepth 100000 in
set_option maxHeartbeats 800000 in
theorem geomParts_yes (n m c B S T C R : Int) (h : Nat → Int) (w : World) (hn0 : 64 ≤ n) (hn1 : n ≤ 1024) (_hm0 : -9223372036854775808 ≤ m) (_hm1 : m ≤ 9223372036854775807)
    (hB0 : 0 ≤ B ∧ B ≤ 1024) (hS0 : 0 ≤ S ∧ S ≤ 1024) (hT0 : 0 ≤ T ∧ T ≤ 1024) (hC0 : 0 ≤ C ∧ C ≤ 1024) (hR0 : 0 ≤ R ∧ R ≤ 1024)
    (hO : ∀ w, Calls Try.prog 6 #[.int .i64 n] w fun r w' => r = .returned (.tuple #[.agg (gA (pk n B S T C R)), .int .i64 0]) ∧ Below w.heap.size w w')
    (hM : ∀ w, Calls Try.prog 6 #[.int .i64 m] w fun r w' => r = .returned (.tuple #[.agg (gA h), .int .i64 c]) ∧ Below w.heap.size w w')
    (t1 : ¬ n ≤ 11 + B + S + T + T + C) (t2 : ¬ 480 * B < n) (t3 : ¬ n ≤ 480 * (B - 1)) (t4 : ¬ 15 * C < S) (t5 : ¬ S ≤ 15 * (C - 1)) (t6 : ¬ S < 4 * R) (t7 : ¬ 4 * R + 4 ≤ S)
    (t8 : ¬ n < 8 * S) (t9 : ¬ n < 16 * T) (t10 : n / 8 = S)
    (hc : c = 0 ∧ n ≤ m → S ≤ h 4 ∧ T ≤ h 6 ∧ B ≤ h 2 ∧ C ≤ h 10 ∧ 11 + B + S + T + T + C ≤ h 11 ∧ R ≤ h 12) :
    Calls Try.prog 3 #[.int .i64 n, .int .i64 m] w fun r w' => r = .returned (.bool true) ∧ Below w.heap.size w w' := by
  go_enter Try.func3, Try.ntmps3
  go_wp2_with fail
  go_at_call 5
  refine (gtaken_any _).mono ?_
  rintro e w0 ⟨rfl, hb0⟩
  go_wp2_with fail
  go_at_call 6
  refine (hO _).mono ?_
  rintro e w1 ⟨rfl, hb1⟩
  clear hO
  go_upto_region 4 with fail
  have h5 : RowC (w1.alloc (.cells (gA (pk n B S T C R)) 24)) w1.heap.size (gA (pk n B S T C R)) := RowC.new _ _ _
  have hB : Below w.heap.size w (w1.alloc (.cells (gA (pk n B S T C R)) 24)) := by
    have h1 := hb0.trans (hb1.mono hb0.size)
    exact h1.alloc h1.size _
  clear hb0 hb1
  generalize w1.alloc (.cells (gA (pk n B S T C R)) 24) = X1 at h5 hB ⊢
  generalize w1.heap.size = g5 at h5 ⊢
  have H5 : Hid (RowC X1 g5 (gA (pk n B S T C R))) := h5
  have HB : Hid (Below w.heap.size w X1) := hB
  clear hB
  obtain ⟨r1, q1⟩ := h5
  have c1 := H5.out.cell 1
  have c2 := H5.out.cell 2
  have c3 := H5.out.cell 3
  have c4 := H5.out.cell 4
  have c5 := H5.out.cell 5
  have c6 := H5.out.cell 6
  have c7 := H5.out.cell 7
  have c8 := H5.out.cell 8
  have c9 := H5.out.cell 9
  have c10 := H5.out.cell 10
  have c11 := H5.out.cell 11
  have c12 := H5.out.cell 12
  go_upto_region 10 with fail
  clear c1 c2 c3 c4 c5 c6 c7 c8 c9 c10 c11 c12 r1 q1 t1 t2 t3 t4 t5 t6 t7 t8 t9 t10
  obtain ⟨N, rfl⟩ := Int.eq_ofNat_of_zero_le (show 0 ≤ n by omega)
  go_wp2_with fail
  go_loopw [7, 8] (fun a i wr => ∃ k : Nat, k ≤ N ∧ i = .int .i64 k ∧ a = .int .i64 (cntT k) ∧ RowC wr g5 (gA (pk N B S T C R)) ∧ Below w.heap.size w wr) (fun _ i _ => N - (intOf i).toNat)
  case atStart => exact ⟨0, Nat.zero_le _, rfl, rfl, H5.out, HB.out⟩
  case round =>
    clear H5 HB
    obtain ⟨k, hk, rfl, rfl, h5, hB⟩ := hrel
    have H5 : Hid (RowC wr g5 (gA (pk N B S T C R))) := h5
    have HB : Hid (Below w.heap.size w wr) := hB
    obtain ⟨r1, q1⟩ := h5
    have hcl := cntT_le k
    by_cases hlt : k < N
    · clear hB
      have hlt' : (k : Int) < (N : Int) := by omega
      cases ht : tgtB N k
      · have HC : Hid (cntT (k + 1) = cntT k) := cntT_stay hlt' ht
        go_wp2_with (go_at_call 7; refine (gtarget_any _ _ _ (by omega) (by omega)).mono ?_; rintro e w3 ⟨rfl, rfl⟩)
        go_roundw
        case rel => exact ⟨k + 1, by omega, by go_num, by rw [HC.out], RowC.kept H5.out (below_alloc _ _), HB.out.alloc HB.out.size _⟩
        case measure => simp [intOf]; omega
      · have HC : Hid (cntT (k + 1) = cntT k + 1) := cntT_up hlt' ht
        go_wp2_with (go_at_call 7; refine (gtarget_any _ _ _ (by omega) (by omega)).mono ?_; rintro e w3 ⟨rfl, rfl⟩)
        go_roundw
        case rel => exact ⟨k + 1, by omega, by go_num, by rw [HC.out]; go_num, RowC.kept H5.out (below_alloc _ _), HB.out.alloc HB.out.size _⟩
        case measure => simp [intOf]; omega
    · have e : k = N := by omega
      subst e
      have hend := cntT_end k hn0
      have u1 : tgtB k k = false := by unfold tgtB; simp
      have u2 : tgtB k (-1) = false := by unfold tgtB; simp
      have hlt5 : g5 < wr.heap.size := RowC.lt H5.out
      clear hcl hB
      go_wp2_with (go_at_call 7; refine (gtarget_any _ _ _ (by omega) (by omega)).mono ?_; rintro e w3 ⟨rfl, rfl⟩)
      go_at_call 6
      have h5 : RowC ((wr.alloc (.cells (gA (pk k B S T C R)) 24)).alloc (.cells (gA (pk k B S T C R)) 24)) g5 (gA (pk k B S T C R)) := (RowC.kept H5.out (below_alloc _ _)).kept (below_alloc _ _)
      have hB : Below w.heap.size w ((wr.alloc (.cells (gA (pk k B S T C R)) 24)).alloc (.cells (gA (pk k B S T C R)) 24)) := (HB.out.alloc HB.out.size _).alloc (by have := HB.out.size; simp; omega) _
      clear H5 HB r1 q1
      generalize (wr.alloc (.cells (gA (pk k B S T C R)) 24)).alloc (.cells (gA (pk k B S T C R)) 24) = X2 at h5 hB ⊢
      refine (hM _).mono ?_
      rintro e w4 ⟨rfl, hb4⟩
      clear hM
      replace h5 := h5.kept hb4
      replace hB := hB.trans (hb4.mono hB.size)
      have H9 : Hid (RowC (w4.alloc (.cells (gA h) 24)) w4.heap.size (gA h)) := RowC.new _ _ _
      have H5 : Hid (RowC (w4.alloc (.cells (gA h) 24)) g5 (gA (pk k B S T C R))) := RowC.kept h5 (below_alloc _ _)
      have HB : Hid (Below w.heap.size w (w4.alloc (.cells (gA h) 24))) := hB.alloc hB.size _
      clear hb4 h5 hB
      go_upto_region 19 with fail
      generalize w4.alloc (.cells (gA h) 24) = X3 at H9 H5 HB ⊢
      generalize w4.heap.size = g9 at H9 ⊢
      by_cases hcc : c = 0 ∧ (k : Int) ≤ m
      · obtain ⟨v1, v2, v3, v4, v5, v6⟩ := hc hcc
        obtain ⟨rfl, hm⟩ := hcc
        have hm' : ¬ m < (k : Int) := by omega
        have c2 := H5.out.cell 2
        have c4 := H5.out.cell 4
        have c6 := H5.out.cell 6
        have c10 := H5.out.cell 10
        have c11 := H5.out.cell 11
        have c12 := H5.out.cell 12
        have d2 := H9.out.cell 2
        have d4 := H9.out.cell 4
        have d6 := H9.out.cell 6
        have d10 := H9.out.cell 10
        have d11 := H9.out.cell 11
        have d12 := H9.out.cell 12
        clear hc hm
        go_wp2
        go_ret
        exact ⟨rfl, HB.out⟩
      · by_cases hz : c = 0
        · have hm : m < (k : Int) := by
            rcases Int.lt_or_le m (k : Int) with hh | hh
            · exact hh
            · exact absurd ⟨hz, hh⟩ hcc
          subst hz
          clear hc hcc
          go_wp2
          go_ret
          exact ⟨rfl, HB.out⟩
        · clear hc hcc
          go_wp2
          go_ret
          exact ⟨rfl, HB.out⟩
set_option maxHeartbeats 400000 in
set_option maxRecDepth 100000 in
theorem geomParts_no (n m : Int) (w : World) (h : ¬ (64 ≤ n ∧ n ≤ 1024)) (hn0 : -9223372036854775808 ≤ n) (hn1 : n ≤ 9223372036854775807) :
    Calls Try.prog 3 #[.int .i64 n, .int .i64 m] w fun r w' => r = .returned (.bool true) ∧ Below w.heap.size w w' := by
  have hO := fun w => of_no n w h hn0 hn1
  have hor : n < 64 ∨ (¬ n < 64 ∧ 1024 < n) := by omega
  clear h
  rcases hor with h1 | ⟨h1, h2⟩
  all_goals
    go_enter Try.func3, Try.ntmps3
    go_wp2_with fail
    go_at_call 5
    refine (gtaken_any _).mono ?_
    rintro e w0 ⟨rfl, hb0⟩
    go_wp2_with fail
    go_at_call 6
    refine (hO _).mono ?_
    rintro e w1 ⟨rfl, hb1⟩
    clear hO
    have hB : Hid (Below w.heap.size w (w1.alloc (.cells (gA fun _ => 0) 24))) := by
      have h1 := hb0.trans (hb1.mono hb0.size)
      exact h1.alloc h1.size _
    clear hb0 hb1
    go_wp2
    go_ret
    exact ⟨rfl, hB.out⟩
theorem geomParts_any (n m : Int) (w : World) (hn0 : -9223372036854775808 ≤ n) (hn1 : n ≤ 9223372036854775807) (hm0 : -9223372036854775808 ≤ m) (hm1 : m ≤ 9223372036854775807) :
    Calls Try.prog 3 #[.int .i64 n, .int .i64 m] w fun r w' => r = .returned (.bool true) ∧ Below w.heap.size w w' := by
  by_cases h : 64 ≤ n ∧ n ≤ 1024
  · have hO := fun w => of_yes n w h.1 h.2
    have eA : gA (geoF n) = gA (pk n ((n + 479) / 480) (n / 8) (n / 16) ((n / 8 + 14) / 15) (n / 8 / 4)) := by
      unfold gA geoF pk
      simp [h]
    rw [eA] at hO
    by_cases hm : 64 ≤ m ∧ m ≤ 1024
    · refine geomParts_yes n m 0 ((n + 479) / 480) (n / 8) (n / 16) ((n / 8 + 14) / 15) (n / 8 / 4) (geoF m) w h.1 h.2 hm0 hm1 (by omega) (by omega) (by omega) (by omega) (by omega) hO (fun w => of_yes m w hm.1 hm.2)
        (by omega) (by omega) (by omega) (by omega) (by omega) (by omega) (by omega) (by omega) (by omega) rfl ?_
      rintro ⟨-, hle⟩
      unfold geoF
      simp only [hm, and_self, if_true]
      omega
    · exact geomParts_yes n m 22 ((n + 479) / 480) (n / 8) (n / 16) ((n / 8 + 14) / 15) (n / 8 / 4) (fun _ => 0) w h.1 h.2 hm0 hm1 (by omega) (by omega) (by omega) (by omega) (by omega) hO (fun w => of_no m w hm hm0 hm1)
        (by omega) (by omega) (by omega) (by omega) (by omega) (by omega) (by omega) (by omega) (by omega) rfl (fun hh => absurd hh.1 (by omega))
  · exact geomParts_no n m w h hn0 hn1
end Go.Proofs.Ytejjjgheedngdaa
