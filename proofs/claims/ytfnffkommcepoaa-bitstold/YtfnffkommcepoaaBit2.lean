
import Derived.Test.YtfnffkommcepoaaBit1
namespace Go.Proofs.Ytfnffkommcepoaa
open Go.RowKit

/-! assayref07: sealed, torn -/
set_option linter.unusedSimpArgs false in
set_option maxHeartbeats 400000 in
theorem refSealed7_any (s : Sc) (w : World) :
    Calls Try.prog 32 #[.agg (secA s)] w fun e w' => e = .returned (.bool (isSl s)) ∧ Below w.heap.size w w' := by
  have HF : Hid (_ = isSl s) := sealed_form s
  go_enter Try.func32, Try.ntmps32
  go_wp2_with fail
  go_at_call 22
  have hR1 : ScR (w.alloc (.cells (secA s) 29)) w.heap.size s := ScR.new w s _
  have hB : Below w.heap.size w (w.alloc (.cells (secA s) 29)) := below_alloc w _
  obtain ⟨g1, hg1⟩ : ∃ g, w.heap.size = g := ⟨_, rfl⟩
  rw [hg1] at hR1
  simp only [hg1]
  generalize w.alloc (.cells (secA s) 29) = X at hB hR1 ⊢
  refine (refSum7_any s _).mono ?_
  rintro e w1 ⟨rfl, hb1⟩
  replace hR1 := hR1.kept hb1
  replace hB := hB.trans (hb1.mono hB.size)
  clear hb1
  have H1 : Hid (ScR (w1.alloc (.cells (bA4 (sumB s)) 54)) g1 s) := hR1.kept (below_alloc _ _)
  have HB : Hid (Below w.heap.size w (w1.alloc (.cells (bA4 (sumB s)) 54))) := hB.alloc hB.size _
  have hR3 : RowC (w1.alloc (.cells (bA4 (sumB s)) 54)) w1.heap.size (bA4 (sumB s)) := RowC.new _ _ _
  clear hR1 hB hg1
  go_upto_region 2 with fail
  generalize w1.alloc (.cells (bA4 (sumB s)) 54) = X at H1 hR3 HB ⊢
  generalize w1.heap.size = g3 at hR3 ⊢
  have c0 := hR3.cell 0
  have c1 := hR3.cell 1
  have c2 := hR3.cell 2
  have c3 := hR3.cell 3
  have d0 := ScR.cell H1.out 60 (by omega)
  have d1 := ScR.cell H1.out 61 (by omega)
  have d2 := ScR.cell H1.out 62 (by omega)
  have d3 := ScR.cell H1.out 63 (by omega)
  clear hR3 H1
  rw [bA4_get _ _ (by omega)] at c0 c1 c2 c3
  generalize (sumB s 0).toNat = b0 at *
  generalize (sumB s 1).toNat = b1 at *
  generalize (sumB s 2).toNat = b2 at *
  generalize (sumB s 3).toNat = b3 at *
  generalize (s 60).toNat = a0 at *
  generalize (s 61).toNat = a1 at *
  generalize (s 62).toNat = a2 at *
  generalize (s 63).toNat = a3 at *
  by_cases p0 : (a0 : Int) = b0
  · by_cases p1 : (a1 : Int) = b1
    · by_cases p2 : (a2 : Int) = b2
      · have HE : Hid (isSl s = ((a3 : Int) == b3)) := by show _ = _; rw [← HF.out, p0, p1, p2]; simp
        clear HF
        go_wp2
        go_ret
        exact ⟨by rw [HE.out]; rfl, HB.out⟩
      · have HE : Hid (isSl s = false) := by show _ = _; rw [← HF.out]; simp; omega
        clear HF
        go_wp2
        go_ret
        exact ⟨by rw [HE.out]; rfl, HB.out⟩
    · have HE : Hid (isSl s = false) := by show _ = _; rw [← HF.out]; simp; omega
      clear HF
      go_wp2
      go_ret
      exact ⟨by rw [HE.out]; rfl, HB.out⟩
  · have HE : Hid (isSl s = false) := by show _ = _; rw [← HF.out]; simp; omega
    clear HF
    go_wp2
    go_ret
    exact ⟨by rw [HE.out]; rfl, HB.out⟩
set_option maxHeartbeats 400000 in
theorem refTorn_any (s : Sc) (k n : Nat) (w : World) (hk : k ≤ 3) (hn : n ≤ 1024) :
    Calls Try.prog 24 #[.agg (secA s), .int .i64 (k : Int), .int .i64 (n : Int)] w fun e w' => e = .returned (.bool (tornB s k n)) ∧ Below w.heap.size w w' := by
  go_enter Try.func24, Try.ntmps24
  go_wp2_with fail
  go_at_call 32
  have hR1 : ScR (w.alloc (.cells (secA s) 29)) w.heap.size s := ScR.new w s _
  have hB : Below w.heap.size w (w.alloc (.cells (secA s) 29)) := below_alloc w _
  obtain ⟨g1, hg1⟩ : ∃ g, w.heap.size = g := ⟨_, rfl⟩
  rw [hg1] at hR1
  simp only [hg1]
  generalize w.alloc (.cells (secA s) 29) = X at hB hR1 ⊢
  refine (refSealed7_any s _).mono ?_
  rintro e w1 ⟨rfl, hb1⟩
  replace hR1 := hR1.kept hb1
  replace hB := hB.trans (hb1.mono hB.size)
  clear hb1
  cases hs : isSl s
  · have HE : Hid (tornB s k n = true) := by show _ = _; unfold tornB; rw [hs]; exact Bool.true_or _
    clear hR1 hg1 hs
    go_wp2
    go_ret
    exact ⟨by rw [HE.out]; rfl, hB⟩
  · have HE : Hid (tornB s k n = overU s k n 480) := by show _ = _; unfold tornB; rw [hs]; exact Bool.false_or _
    clear hs
    go_wp2_with fail
    go_loopw [7] (fun i wr => ∃ m : Nat, m ≤ 480 ∧ i = .int .i64 m ∧ overU s k n m = false ∧ ScR wr g1 s ∧ Below w.heap.size w wr) (fun i _ => 480 - (intOf i).toNat)
    case atStart => exact ⟨0, by omega, rfl, rfl, hR1, hB⟩
    case round =>
      clear hR1 hB
      obtain ⟨m, hm, rfl, hov, h1, hB⟩ := hrel
      by_cases hlt : m < 480
      · have H1 : Hid (ScR wr g1 s) := h1
        have HB : Hid (Below w.heap.size w wr) := hB
        obtain ⟨r1, q1⟩ := h1
        have hm1 : (m : Int) < 480 := by omega
        by_cases hp : (n : Int) ≤ (k : Int) * 480 + (m : Int)
        · have hp' : n ≤ k * 480 + m := by omega
          cases hf : fbit s m
          · have HO : Hid (overU s k n (m + 1) = false) := by show _ = _; rw [overU, hov, hf]; simp
            clear hov HE hB
            go_wp2_with (go_at_call 25; refine (refBit_any s m _ hlt).mono ?_; rintro e w3 ⟨rfl, rfl⟩; rw [hf])
            go_roundw
            case rel => exact ⟨m + 1, by omega, by go_num, HO.out, ScR.kept H1.out (below_alloc _ _), HB.out.alloc HB.out.size _⟩
            case measure => simp [intOf]; omega
          · have HO : Hid (tornB s k n = true) := by show _ = _; rw [HE.out, overU_iff]; exact ⟨m, hlt, hp', hf⟩
            clear hov HE hB
            go_wp2_with (go_at_call 25; refine (refBit_any s m _ hlt).mono ?_; rintro e w3 ⟨rfl, rfl⟩; rw [hf])
            go_ret
            exact ⟨by rw [HO.out]; rfl, HB.out.alloc HB.out.size _⟩
        · have HO : Hid (overU s k n (m + 1) = false) := by
            show _ = _
            have : ¬ n ≤ k * 480 + m := by omega
            rw [overU, hov]; simp [this]
          clear hov HE hB
          go_wp2
          go_roundw
          case rel => exact ⟨m + 1, by omega, by go_num, HO.out, H1.out, HB.out⟩
          case measure => simp [intOf]; omega
      · obtain rfl : m = 480 := by omega
        have HO : Hid (tornB s k n = false) := by show _ = _; rw [HE.out, hov]
        clear hov HE h1
        go_wp2
        go_ret
        exact ⟨by rw [HO.out]; rfl, hB⟩
end Go.Proofs.Ytfnffkommcepoaa
