import Derived.Test.YtafbkdpheneceaaQHea5
import Derived.Test.YtafbkdpheneceaaQDev2
namespace Go.Proofs.Ytafbkdpheneceaa
open Go.RowKit Go.Shelf

/-! What is asked of each span; sectors joined with those that touch them -/
theorem eg25 : ∀ args w, (callFunc 25 args).run Try.prog w = .ok (.enter 25 args) w := enters_of Try.func25 (by kernel_rfl) rfl
theorem eg40 : ∀ args w, (callFunc 40 args).run Try.prog w = .ok (.enter 40 args) w := enters_of Try.func40 (by kernel_rfl) rfl
theorem eg29 : ∀ args w, (callFunc 29 args).run Try.prog w = .ok (.enter 29 args) w := enters_of Try.func29 (by kernel_rfl) rfl
def holdsB (want s : Pr) : Bool := decide (s.1 ≤ want.1 ∧ want.2 ≤ s.2)
def meetsB (want s : Pr) : Bool := decide (want.1 < s.2 ∧ s.1 < want.2)
def touchB (s o : Pr) : Bool := decide (o.2 = s.1 ∨ s.2 = o.1)
set_option linter.unusedSimpArgs false in
theorem clo25 (w : World) (gw : Nat) (want s : Pr) (hg : RowC w gw (prA want)) : Calls Try.prog 25 #[.agg (prA s), .pointer (some ⟨gw, 0, none⟩)] w fun e w' => e = .returned (.bool (holdsB want s)) ∧ Below w.heap.size w w' := by
  have b0 := below_alloc w (.cells (prA s) 56)
  have kb := RowC.newB w (prA s) 56
  have kw := hg.kept b0
  have q1 := kb.1
  have q2 := kb.2
  have q3 : (rowAt (w.alloc (.cells (prA s) 56)) w.heap.size).size = 2 := by rw [q2]; exact prA_size _
  have r1 := kw.1
  have r2 := kw.2
  have r3 : (rowAt (w.alloc (.cells (prA s) 56)) gw).size = 2 := by rw [r2]; exact prA_size _
  have hh : Calls Try.prog 26 #[.agg (prA s), .agg (prA want)] (w.alloc (.cells (prA s) 56)) fun e w' => e = .returned (.bool (holdsB want s)) ∧ Below (w.alloc (.cells (prA s) 56)).heap.size (w.alloc (.cells (prA s) 56)) w' := holds_any (w.alloc (.cells (prA s) 56)) s want
  have h1 := run_load_sp _ _ q1 q3
  have h2 := run_load_sp _ _ r1 r3
  rw [q2] at h1
  rw [r2] at h2
  go_enter Try.func25, Try.ntmps25
  go_upto_region 1 with fail
  generalize w.alloc (.cells (prA s) 56) = X at *
  go_wp2_with fail
  go_at_call 26
  refine hh.mono ?_
  rintro e w2 ⟨rfl, hB2⟩
  have hB3 : Below w.heap.size w w2 := b0.trans (hB2.mono b0.size)
  go_wp2
  go_ret
  exact ⟨rfl, hB3⟩
set_option linter.unusedSimpArgs false in
theorem clo40 (w : World) (gs : Nat) (s o : Pr) (hg : RowC w gs (prA s)) : Calls Try.prog 40 #[.agg (prA o), .pointer (some ⟨gs, 0, none⟩)] w fun e w' => e = .returned (.bool (touchB s o)) ∧ Below w.heap.size w w' := by
  have b0 := below_alloc w (.cells (prA o) 56)
  have kb := RowC.newB w (prA o) 56
  have kw := hg.kept b0
  have c0 := kb.cell 0
  have c1 := kb.cell 1
  have d0 := kw.cell 0
  have d1 := kw.cell 1
  rw [prA_0] at c0 d0
  rw [prA_1] at c1 d1
  clear kb kw hg
  by_cases h1 : o.2 = s.1
  · have ht : touchB s o = true := by unfold touchB; simp [h1]
    have h1b : (o.2 == s.1) = true := by simp [h1]
    rw [ht]
    go_enter Try.func40, Try.ntmps40
    go_upto_region 1 with fail
    generalize w.alloc (.cells (prA o) 56) = X at *
    go_wp2
    go_ret
    exact ⟨rfl, b0⟩
  · have h1b : (o.2 == s.1) = false := by simp [h1]
    by_cases h2 : s.2 = o.1
    · have ht : touchB s o = true := by unfold touchB; simp [h2]
      have h2b : (s.2 == o.1) = true := by simp [h2]
      rw [ht]
      go_enter Try.func40, Try.ntmps40
      go_upto_region 1 with fail
      generalize w.alloc (.cells (prA o) 56) = X at *
      go_wp2
      go_ret
      exact ⟨rfl, b0⟩
    · have ht : touchB s o = false := by unfold touchB; simp [h1, h2]
      have h2b : (s.2 == o.1) = false := by simp [h2]
      rw [ht]
      go_enter Try.func40, Try.ntmps40
      go_upto_region 1 with fail
      generalize w.alloc (.cells (prA o) 56) = X at *
      go_wp2
      go_ret
      exact ⟨rfl, b0⟩
set_option linter.unusedSimpArgs false in
theorem contains_meets (w : World) (x : Option Addr) (n c : Nat) (l : List Pr) (hn : l.length = n) (h : IsK spE w (.slice x n c) l) (hl : n ≤ 1048576) (want : Pr) :
    Calls Try.prog 28 #[.slice x n c, .func (.func 29) #[.agg (prA want)] #[]] w fun e w' => (∃ q, e = .returned (.bool q) ∧ (q = true ↔ ∃ p ∈ l, meetsB want p = true)) ∧ Below w.heap.size w w' := by
  have hi := index_pre w x n c l hn h hl (meetsB want) 29 (.agg (prA want)) eg29 (fun W _ p => meets_any W want p)
  go_enter Try.func28, Try.ntmps28
  go_wp2_with fail
  go_at_call 24
  refine hi.mono ?_
  rintro e w2 ⟨⟨r, rfl, hr⟩, hB2⟩
  clear hi h
  rcases hr with ⟨rfl, hno⟩ | ⟨j, rfl, hj, hd⟩
  · go_wp2
    go_ret
    refine ⟨⟨false, rfl, fun h => (by cases h), ?_⟩, hB2⟩
    rintro ⟨p, hp, hm⟩
    rw [hno p hp] at hm; cases hm
  · have hj0 : (0 : Int) ≤ (j : Int) := by omega
    go_wp2
    go_ret
    refine ⟨⟨true, rfl, fun _ => ⟨gp l j, ?_, hd⟩, fun _ => rfl⟩, hB2⟩
    rw [getD_at _ _ (by omega)]; exact List.getElem_mem _
end Go.Proofs.Ytafbkdpheneceaa
