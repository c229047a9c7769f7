import Derived.Test.YtklbdhpnbjhgkaaGreatDoorQFin1
import Derived.Test.YtklbdhpnbjhgkaaGreatDoorQCrcR2
import Derived.Test.YtklbdhpnbjhgkaaGreatDoorQBow
namespace Go.Proofs.YtklbdhpnbjhgkaaGreatDoor
open Go.RowKit Go.Sort

/-! The numbers' bytes, the sum's; what may stand -/
theorem sub_two (v : Nat) : subL (putI secZ 0 v 2) 0 2 = two v := by
  have h : putI secZ 0 v 2 = putN secZ 0 v 2 := rfl
  rw [h]
  simp [subL, List.range, List.range.loop, putN, two]
theorem sub_four (v : Nat) : subL (putI secZ 0 v 4) 0 4 = le4 v := by
  have h : putI secZ 0 v 4 = putN secZ 0 v 4 := rfl
  rw [h]
  simp [subL, List.range, List.range.loop, putN, le4]
set_option linter.unusedSimpArgs false in
theorem two22 (v : Nat) (hv : v < 65536) (w : World) : Calls Tryz.prog 27 #[.int .i64 (v : Int)] w fun e w' => ∃ g, e = .returned (.slice (some ⟨g, 0, none⟩) 2 2) ∧ w.heap.size ≤ g ∧ rowB w' g (two v) ∧ Below w.heap.size w w' := by
  have h1 := putU16_any secZ 0 (v : Int) w (by omega) (by omega) (by omega) (by omega)
  have hm : (v : Int) % 65536 = v := by omega
  go_enter Tryz.func27, Tryz.ntmps27
  go_wp2_with fail
  refine h1.mono ?_
  rintro e w1 ⟨rfl, b1⟩
  have h2 := bytes_in (putI secZ 0 v 2) 0 2 w1 (by decide)
  go_wp2_with fail
  refine h2.mono ?_
  rintro e w2 ⟨g, rfl, hg, hr, b2⟩
  have hr' : rowB w2 g (two v) := by rw [← sub_two]; exact hr
  have hg' := Nat.le_trans b1.size hg
  have bb : Below w.heap.size w w2 := b1.trans (b2.mono b1.size)
  clear hr h1 h2
  go_wp2
  go_ret
  exact ⟨g, rfl, hg', hr', bb⟩
set_option linter.unusedSimpArgs false in
theorem sumOf22 (x : Option Addr) (n c : Nat) (l : List UInt8) (w : World) (hl : IsB w (.slice x n c) l) (h9 : l.length ≤ maxLen) : Calls Tryz.prog 28 #[.slice x n c] w fun e w' => ∃ g, e = .returned (.slice (some ⟨g, 0, none⟩) 4 4) ∧ w.heap.size ≤ g ∧ rowB w' g (le4 (sumL l).toNat) ∧ Below w.heap.size w w' := by
  have b0 := below_alloc w (.cells #[.slice x n c] 33)
  have h0 := sum_one (.slice x n c) l (w.alloc (.cells #[.slice x n c] 33)) ⟨w.heap.size, 0, none⟩ 1 h9 (by simp) (hl.kept b0)
  have hs := sum_lt l
  obtain ⟨s, hse⟩ : ∃ s, (sumL l).toNat = s := ⟨_, rfl⟩
  rw [hse] at h0 hs ⊢
  clear hse hl
  go_enter Tryz.func28, Tryz.ntmps28
  go_wp2_with fail
  refine h0.mono ?_
  rintro e w0 ⟨rfl, rfl⟩
  have h1 := putU32_any secZ 0 (s : Int) (w.alloc (.cells #[.slice x n c] 33)) (by omega) (by omega) (by omega) (by omega)
  go_wp2_with fail
  refine h1.mono ?_
  rintro e w1 ⟨rfl, b1⟩
  have h2 := bytes_in (putI secZ 0 s 4) 0 4 w1 (by decide)
  go_wp2_with fail
  refine h2.mono ?_
  rintro e w2 ⟨g, rfl, hg, hr, b2⟩
  have hr' : rowB w2 g (le4 s) := by rw [← sub_four]; exact hr
  have bb1 : Below w.heap.size w w1 := b0.trans (b1.mono b0.size)
  have bb : Below w.heap.size w w2 := bb1.trans (b2.mono bb1.size)
  have hg' := Nat.le_trans bb1.size hg
  clear hr h1 h2 h0 b0 b1 bb1
  go_wp2
  go_ret
  exact ⟨g, rfl, hg', hr', bb⟩
set_option linter.unusedSimpArgs false in
theorem isStatus22 (v : Int) (w : World) : Calls Tryz.prog 52 #[.int .i64 v] w fun e w' => e = .returned (.bool (okSt v)) ∧ w' = w := by
  unfold okSt
  by_cases h1 : v = 1
  · go_enter Tryz.func52, Tryz.ntmps52
    go_wp2
    go_ret
    exact ⟨by simp [h1], rfl⟩
  · by_cases h2 : v = 2
    · go_enter Tryz.func52, Tryz.ntmps52
      go_wp2
      go_ret
      exact ⟨by simp [h2], rfl⟩
    · go_enter Tryz.func52, Tryz.ntmps52
      go_wp2
      go_ret
      exact ⟨by simp [h1, h2], rfl⟩
/-- A function of one number that says whether it may stand. -/
def WOk (fn : FuncId) (ok : Int → Bool) : Prop := ∀ (v : Int) (w : World), Calls Tryz.prog fn #[.int .i64 v] w fun e w' => e = .returned (.bool (ok v)) ∧ w' = w
def okR (lo hi : Int) (v : Int) : Bool := decide (lo ≤ v ∧ v ≤ hi)
set_option linter.unusedSimpArgs false in
theorem isKind22 : WOk 85 (okR 1 19) := by
  intro v w
  unfold okR
  by_cases h1 : 1 ≤ v
  · by_cases h2 : v ≤ 19
    · go_enter Tryz.func85, Tryz.ntmps85
      go_wp2
      go_ret
      exact ⟨by congr 2; first | (simp; omega) | (simp [h1]; done), rfl⟩
    · go_enter Tryz.func85, Tryz.ntmps85
      go_wp2
      go_ret
      exact ⟨by congr 2; first | (simp; omega) | (simp [h1]; done), rfl⟩
  · go_enter Tryz.func85, Tryz.ntmps85
    go_wp2
    go_ret
    exact ⟨by congr 2; first | (simp; omega) | (simp [h1]; done), rfl⟩
set_option linter.unusedSimpArgs false in
theorem isAt22 : WOk 86 (okR 0 1023) := by
  intro v w
  unfold okR
  by_cases h1 : 0 ≤ v
  · by_cases h2 : v ≤ 1023
    · go_enter Tryz.func86, Tryz.ntmps86
      go_wp2
      go_ret
      exact ⟨by congr 2; first | (simp; omega) | (simp [h1]; done), rfl⟩
    · go_enter Tryz.func86, Tryz.ntmps86
      go_wp2
      go_ret
      exact ⟨by congr 2; first | (simp; omega) | (simp [h1]; done), rfl⟩
  · go_enter Tryz.func86, Tryz.ntmps86
    go_wp2
    go_ret
    exact ⟨by congr 2; first | (simp; omega) | (simp [h1]; done), rfl⟩
set_option linter.unusedSimpArgs false in
theorem isSlot22 : WOk 58 (okR 0 127) := by
  intro v w
  unfold okR
  by_cases h1 : 0 ≤ v
  · by_cases h2 : v ≤ 127
    · go_enter Tryz.func58, Tryz.ntmps58
      go_wp2
      go_ret
      exact ⟨by congr 2; first | (simp; omega) | (simp [h1]; done), rfl⟩
    · go_enter Tryz.func58, Tryz.ntmps58
      go_wp2
      go_ret
      exact ⟨by congr 2; first | (simp; omega) | (simp [h1]; done), rfl⟩
  · go_enter Tryz.func58, Tryz.ntmps58
    go_wp2
    go_ret
    exact ⟨by congr 2; first | (simp; omega) | (simp [h1]; done), rfl⟩
theorem anyNum22 : WOk 84 (fun _ => true) := by
  intro v w
  go_enter Tryz.func84, Tryz.ntmps84
  go_wp2
  go_ret
  exact ⟨rfl, rfl⟩
theorem anyDig22 (d : Dg) (w : World) : Calls Tryz.prog 56 #[.agg (dg_secA d)] w fun e w' => e = .returned (.bool true) ∧ Below w.heap.size w w' := by
  go_enter Tryz.func56, Tryz.ntmps56
  go_wp2
  go_ret
  exact ⟨rfl, by first | exact Below.refl _ _ | exact below_al _ _⟩
end Go.Proofs.YtklbdhpnbjhgkaaGreatDoor
