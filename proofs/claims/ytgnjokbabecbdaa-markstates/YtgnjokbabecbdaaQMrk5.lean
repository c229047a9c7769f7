import Derived.Test.YtgnjokbabecbdaaQMrk4
namespace Go.Proofs.Ytgnjokbabecbdaa
open Go.RowKit

/-! mark.trying: what is given up is caught. -/
theorem catch_pan (p : Addr) (z e : Int) (w : World) (hc : w.cell? p = some (.int .i64 z)) (hz : w.frozen? p = false) :
    CallsD Try.prog 28 #[.pointer (some p)] (.panicking (gup e)) w fun r u' w' =>
      r = .returned (.tuple #[]) ∧ u' = .panicking [{ v := .iface 29 (.int .i64 e), recovered := true }] ∧ w' = w.setCell p (.int .i64 e) := by
  have hta : ∀ W : World, (Instr.typeAssert (.iface 29 (.int .i64 e)) 20 29 false).run Try.prog W = .ok (.int .i64 e) W := fun _ => by kernel_rfl
  refine callsD_of_wpS Try.func28 rfl fun c₀ cs hu => ?_
  apply wpS_seq
  apply wpS_region
  simp [wpOpsS, go_sem, recoverD, hu, gup, Try.ntmps28, Exit.thenS]
  apply wpS_seq
  apply wpS_region
  simp [wpOpsS, go_sem, Exit.thenS]
  refine wpS_cond (t := true) (by simp [Act.eval, Array.replicate]) ?_
  simp only [if_true]
  apply wpS_region
  simp [wpOpsS, go_sem, hta, hc, hz, bodyPostS, results, Array.replicate, Try.results28]
theorem catch_idle (p : Addr) (w : World) :
    CallsD Try.prog 28 #[.pointer (some p)] .returning w fun r u' w' => r = .returned (.tuple #[]) ∧ u' = .returning ∧ w' = w := by
  refine callsD_of_wpS Try.func28 rfl fun c₀ cs hu => ?_
  apply wpS_seq
  apply wpS_region
  simp [wpOpsS, go_sem, recoverD, hu, Try.ntmps28, Exit.thenS]
  apply wpS_seq
  apply wpS_region
  simp [wpOpsS, go_sem, Exit.thenS]
  refine wpS_cond (t := false) (by simp [Act.eval, Array.replicate]) ?_
  simp only [Bool.false_eq_true, if_false]
  refine wpS_of_wp (wp_skip ?_)
  cases c₀
  simp_all [bodyPostS, results, Try.results28]
theorem trying_put_yes (a b s : Addr) (w : World) (R : World → Prop)
    (hdo : Calls Try.prog 16 #[.pointer (some a), .pointer (some b), .pointer (some s)] (w.alloc (.cells #[.int .i64 0] 29)) fun e w1 => e = .returned (.tuple #[]) ∧ R w1 ∧ RowC w1 w.heap.size #[.int .i64 0]) :
    Calls Try.prog 15 #[.func (.func 16) #[] #[.pointer (some a), .pointer (some b), .pointer (some s)]] w fun r w' => r = .returned (.int .i64 0) ∧ ∃ w1, R w1 ∧ w' = w1.setCell ⟨w.heap.size, 0, none⟩ (.int .i64 0) := by
  have hmf : ∀ (fn : Fn) (first cap : Array Value) (w : World), (Instr.makeFunc fn first cap).run Try.prog w = .ok (.func fn first cap) w := fun _ _ _ _ => rfl
  go_enter_defers Try.func15, Try.ntmps15
  go_wp2_with (go_at_call 16; refine hdo.mono ?_; rintro e w1 ⟨rfl, hR, hC⟩; have c0 : w1.cell? ⟨w.heap.size, 0, none⟩ = some (.int .i64 0) := hC.cell 0; have f0 := hC.frozen 0; have HCS : Hid (∀ v, RowC (w1.setCell ⟨w.heap.size, 0, none⟩ v) w.heap.size (#[Value.int .i64 0].setIfInBounds 0 v)) := fun v => hC.set 0 v; clear hC)
  refine leaves_cons (f := 28) (args := #[.pointer (some ⟨w.heap.size, 0, none⟩)]) (by simp) (by simp [go_sem]) ?_
  refine (catch_idle ⟨w.heap.size, 0, none⟩ _).mono ?_
  rintro e u' w'' ⟨rfl, rfl, rfl⟩
  have c1 : (w1.setCell ⟨w.heap.size, 0, none⟩ (.int .i64 0)).cell? ⟨w.heap.size, 0, none⟩ = some (.int .i64 0) := (HCS.out _).cell 0
  simp [Leaves, settle, results, Try.results15, go_sem, c1]
  exact ⟨w1, hR, rfl⟩
theorem trying_put_no (a b s : Addr) (z : Int) (w : World) (R : World → Prop)
    (hdo : Calls Try.prog 16 #[.pointer (some a), .pointer (some b), .pointer (some s)] (w.alloc (.cells #[.int .i64 0] 29)) fun e w1 => e = .panicked (gup z) ∧ R w1 ∧ RowC w1 w.heap.size #[.int .i64 0]) :
    Calls Try.prog 15 #[.func (.func 16) #[] #[.pointer (some a), .pointer (some b), .pointer (some s)]] w fun r w' => r = .returned (.int .i64 z) ∧ ∃ w1, R w1 ∧ w' = w1.setCell ⟨w.heap.size, 0, none⟩ (.int .i64 z) := by
  have hmf : ∀ (fn : Fn) (first cap : Array Value) (w : World), (Instr.makeFunc fn first cap).run Try.prog w = .ok (.func fn first cap) w := fun _ _ _ _ => rfl
  go_enter_defers Try.func15, Try.ntmps15
  go_wp2_with (go_at_call 16; refine hdo.mono ?_; rintro e w1 ⟨rfl, hR, hC⟩; have c0 : w1.cell? ⟨w.heap.size, 0, none⟩ = some (.int .i64 0) := hC.cell 0; have f0 := hC.frozen 0; have HCS : Hid (∀ v, RowC (w1.setCell ⟨w.heap.size, 0, none⟩ v) w.heap.size (#[Value.int .i64 0].setIfInBounds 0 v)) := fun v => hC.set 0 v; clear hC)
  refine leaves_cons (f := 28) (args := #[.pointer (some ⟨w.heap.size, 0, none⟩)]) (by simp) (by simp [go_sem]) ?_
  refine (catch_pan ⟨w.heap.size, 0, none⟩ 0 z _ c0 f0).mono ?_
  rintro e u' w'' ⟨rfl, rfl, rfl⟩
  have c1 : (w1.setCell ⟨w.heap.size, 0, none⟩ (.int .i64 z)).cell? ⟨w.heap.size, 0, none⟩ = some (.int .i64 z) := (HCS.out _).cell 0
  simp [Leaves, settle, results, Try.results15, go_sem, c1]
  exact ⟨w1, hR, rfl⟩
theorem trying_state_yes (a b s d l : Addr) (w : World) (R : World → Prop)
    (hdo : Calls Try.prog 19 #[.pointer (some a), .pointer (some b), .pointer (some s), .pointer (some d), .pointer (some l)] (w.alloc (.cells #[.int .i64 0] 29)) fun e w1 => e = .returned (.tuple #[]) ∧ R w1 ∧ RowC w1 w.heap.size #[.int .i64 0]) :
    Calls Try.prog 15 #[.func (.func 19) #[] #[.pointer (some a), .pointer (some b), .pointer (some s), .pointer (some d), .pointer (some l)]] w fun r w' => r = .returned (.int .i64 0) ∧ ∃ w1, R w1 ∧ w' = w1.setCell ⟨w.heap.size, 0, none⟩ (.int .i64 0) := by
  have hmf : ∀ (fn : Fn) (first cap : Array Value) (w : World), (Instr.makeFunc fn first cap).run Try.prog w = .ok (.func fn first cap) w := fun _ _ _ _ => rfl
  go_enter_defers Try.func15, Try.ntmps15
  go_wp2_with (go_at_call 19; refine hdo.mono ?_; rintro e w1 ⟨rfl, hR, hC⟩; have c0 : w1.cell? ⟨w.heap.size, 0, none⟩ = some (.int .i64 0) := hC.cell 0; have f0 := hC.frozen 0; have HCS : Hid (∀ v, RowC (w1.setCell ⟨w.heap.size, 0, none⟩ v) w.heap.size (#[Value.int .i64 0].setIfInBounds 0 v)) := fun v => hC.set 0 v; clear hC)
  refine leaves_cons (f := 28) (args := #[.pointer (some ⟨w.heap.size, 0, none⟩)]) (by simp) (by simp [go_sem]) ?_
  refine (catch_idle ⟨w.heap.size, 0, none⟩ _).mono ?_
  rintro e u' w'' ⟨rfl, rfl, rfl⟩
  have c1 : (w1.setCell ⟨w.heap.size, 0, none⟩ (.int .i64 0)).cell? ⟨w.heap.size, 0, none⟩ = some (.int .i64 0) := (HCS.out _).cell 0
  simp [Leaves, settle, results, Try.results15, go_sem, c1]
  exact ⟨w1, hR, rfl⟩
theorem trying_state_no (a b s d l : Addr) (z : Int) (w : World) (R : World → Prop)
    (hdo : Calls Try.prog 19 #[.pointer (some a), .pointer (some b), .pointer (some s), .pointer (some d), .pointer (some l)] (w.alloc (.cells #[.int .i64 0] 29)) fun e w1 => e = .panicked (gup z) ∧ R w1 ∧ RowC w1 w.heap.size #[.int .i64 0]) :
    Calls Try.prog 15 #[.func (.func 19) #[] #[.pointer (some a), .pointer (some b), .pointer (some s), .pointer (some d), .pointer (some l)]] w fun r w' => r = .returned (.int .i64 z) ∧ ∃ w1, R w1 ∧ w' = w1.setCell ⟨w.heap.size, 0, none⟩ (.int .i64 z) := by
  have hmf : ∀ (fn : Fn) (first cap : Array Value) (w : World), (Instr.makeFunc fn first cap).run Try.prog w = .ok (.func fn first cap) w := fun _ _ _ _ => rfl
  go_enter_defers Try.func15, Try.ntmps15
  go_wp2_with (go_at_call 19; refine hdo.mono ?_; rintro e w1 ⟨rfl, hR, hC⟩; have c0 : w1.cell? ⟨w.heap.size, 0, none⟩ = some (.int .i64 0) := hC.cell 0; have f0 := hC.frozen 0; have HCS : Hid (∀ v, RowC (w1.setCell ⟨w.heap.size, 0, none⟩ v) w.heap.size (#[Value.int .i64 0].setIfInBounds 0 v)) := fun v => hC.set 0 v; clear hC)
  refine leaves_cons (f := 28) (args := #[.pointer (some ⟨w.heap.size, 0, none⟩)]) (by simp) (by simp [go_sem]) ?_
  refine (catch_pan ⟨w.heap.size, 0, none⟩ 0 z _ c0 f0).mono ?_
  rintro e u' w'' ⟨rfl, rfl, rfl⟩
  have c1 : (w1.setCell ⟨w.heap.size, 0, none⟩ (.int .i64 z)).cell? ⟨w.heap.size, 0, none⟩ = some (.int .i64 z) := (HCS.out _).cell 0
  simp [Leaves, settle, results, Try.results15, go_sem, c1]
  exact ⟨w1, hR, rfl⟩
end Go.Proofs.Ytgnjokbabecbdaa
