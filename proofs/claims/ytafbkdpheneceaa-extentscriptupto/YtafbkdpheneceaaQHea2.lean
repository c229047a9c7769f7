import Derived.Test.YtafbkdpheneceaaQHea1
namespace Go.Proofs.Ytafbkdpheneceaa
open Go.RowKit

/-! A span's order asked through an interface: (the translation of a type parameter's method) -/
def spIface (x : Value) : Sem Next := do pure (.value (← Instr.makeInterface 56 x))
def befCall (x y : Value) : Sem Next := callMethod x "assay/extent.before" #[y]
section
variable (ρ : Operand → Value) (dst : Option Tmp) (ty : TypeId) (pos : String) (after : Array Edge) (guard : Option (Nat × Bool))
@[go_sem ↓] theorem execOp_spIface (x : Operand) : execOp ρ { dst, op := .makeInterface 56 x, type := ty, pos, after, guard } = spIface (ρ x) := rfl
@[go_sem ↓] theorem execOp_befCall (x y : Operand) (ts : Array TypeId) : execOp ρ { dst, op := .call { callee := .invoke x "assay/extent.before", args := #[y], argTypes := ts }, type := ty, pos, after, guard } = befCall (ρ x) (ρ y) := by
  simp [execOp, resolve, invoke, befCall]
end
@[go_sem] theorem run_spIface (w : World) (v : Value) : (spIface v).run Try.prog w = .ok (.value (.iface 56 v)) w := by
  simp only [spIface, Instr.makeInterface, Sem.run_bind, run_underlying Try.underlying56, Result.andThen_ok]
  rfl
theorem meth_before (w : World) (v : Value) : (method (Try.prog.types.size + Made.depth) 56 v "assay/extent.before").run Try.prog w = .ok (61, v) w := rfl
@[go_sem] theorem run_befCall (w : World) (v y : Value) : (befCall (.iface 56 v) y).run Try.prog w = .ok (.enter 61 #[v, y]) w := by
  simp only [befCall, callMethod, Sem.run_bind, run_program, Result.andThen_ok, meth_before]
  simp [go_sem]
/-- The lower one of two. -/
def lowOf (l : List Pr) (n i j : Nat) : Nat := if j < n ∧ kx l j < kx l i then j else i
theorem lowOf_or (l : List Pr) (n i j : Nat) : lowOf l n i j = i ∨ (lowOf l n i j = j ∧ j < n ∧ kx l j < kx l i) := by
  unfold lowOf; split
  · rename_i h; exact .inr ⟨rfl, h⟩
  · exact .inl rfl
set_option linter.unusedSimpArgs false in
set_option maxHeartbeats 1000000 in
theorem lower_any (w : World) (b o g n c : Nat) (cur : Array Value) (T : TypeId) (l : List Pr) (i j : Nat) (h : HpAt w b o cur T (.slice (some ⟨g, 0, none⟩) n c) l) (hi : i < n) :
    Calls Try.prog 43 #[.pointer (some ⟨b, o, none⟩), .int .i64 (i : Int), .int .i64 (j : Int)] w fun e w' => e = .returned (.int .i64 ((lowOf l n i j : Nat) : Int)) ∧ Below w.heap.size w w' := by
  have hi1 : (i : Int) < (n : Int) := by omega
  have hi0 : (0 : Int) ≤ (i : Int) := by omega
  have hj0 : (0 : Int) ≤ (j : Int) := by omega
  obtain ⟨bj, hbj⟩ : ∃ q, decide (j < n) = q := ⟨_, rfl⟩
  have HB : Hid (decide (j < n) = bj) := hbj
  clear hbj
  obtain ⟨r, hr⟩ : ∃ r : Nat, lowOf l n i j = r := ⟨_, rfl⟩
  have HR : Hid _ := hr
  rw [hr]
  clear hr
  go_enter Try.func43, Try.ntmps43
  go_upto_region 1 with fail
  refine wp_reliesT [Fx (.int .i64 ((j : Int))), Fx (.pointer (some ⟨b, o, none⟩)), Fx (.pointer (some ⟨b, o, none⟩)), Fx (.pointer (some ⟨b, o, none⟩)), Fx (.slice (some ⟨g, 0, none⟩) n c), Fx (.int .i64 ((n : Int))), Fx (.bool bj), Fx (.bool bj), Fx (bif bj then .pointer (some ⟨b, o, none⟩) else undef), Fx (bif bj then .pointer (some ⟨b, o, none⟩) else undef), Fx (bif bj then .pointer (some ⟨b, o, none⟩) else undef), Fx (bif bj then .slice (some ⟨g, 0, none⟩) n c else undef), Fx (bif bj then .int .i64 ((j : Int)) else undef), Fx (bif bj then .pointer (some ⟨g, j * 2, none⟩) else undef), Fx (bif bj then .agg (prA (gp l j)) else undef), Fx (bif bj then .iface 56 (.agg (prA (gp l j))) else undef), Fx (bif bj then .pointer (some ⟨b, o, none⟩) else undef), Fx (bif bj then .pointer (some ⟨b, o, none⟩) else undef), Fx (bif bj then .pointer (some ⟨b, o, none⟩) else undef), Fx (bif bj then .slice (some ⟨g, 0, none⟩) n c else undef), Fx (bif bj then .int .i64 ((i : Int)) else undef), Fx (bif bj then .pointer (some ⟨g, i * 2, none⟩) else undef), Fx (bif bj then .agg (prA (gp l i)) else undef), Fx (bif bj then .bool (decide ((gp l j).1 < (gp l i).1)) else undef)] (by kernel_rfl) (by kernel_rfl) ?_ ?_ ?_
  · repeat' (first | exact all_nil | apply all_cons)
    all_goals intro v y y' hv hb
    all_goals first | exact Fx_mono _ _ _ _ hv hb
  · refine ⟨?_, ?_, ?_, ?_, ?_, ?_, ?_, ?_, ?_, ?_, ?_, ?_, ?_, ?_, ?_, ?_, ?_, ?_, ?_, ?_, ?_, ?_, ?_, ?_, trivial⟩
    all_goals
      intro ρ x hp ρc ρg ρf ho hd
      have o0 : ρ (.tmp 0) = .pointer (some ⟨b, o, none⟩) := ho 0 rfl
      have o1 : ρ (.tmp 1) = .int .i64 ((i : Int)) := ho 1 rfl
      have o2 : ρ (.tmp 2) = .int .i64 ((j : Int)) := ho 2 rfl
      clear ho
      have hx := h.later hp
      have kc := hx.cell
      simp only [depsR, depR, slotR, Fx, List.getElem?_cons_succ, List.getElem?_cons_zero, Region.binds, forall_const] at hd
      simp only [guardR]
      go_split_ands
    · go_simp
    · go_simp
    · go_simp
    · go_simp
    · go_simp
    · go_simp
    · have hq := HB.out
      go_simp
    · go_simp
    · refine ⟨fun hy => ?_, fun hy => ?_⟩
      · obtain rfl : bj = true := by cases bj <;> first | rfl | (exfalso; simp [yieldR, slotR, undef, *] at hy)
        go_simp
      · obtain rfl : bj = false := by cases bj <;> first | rfl | (exfalso; simp [yieldR, slotR, undef, *] at hy)
        rfl
    · refine ⟨fun hy => ?_, fun hy => ?_⟩
      · obtain rfl : bj = true := by cases bj <;> first | rfl | (exfalso; simp [yieldR, slotR, undef, *] at hy)
        go_simp
      · obtain rfl : bj = false := by cases bj <;> first | rfl | (exfalso; simp [yieldR, slotR, undef, *] at hy)
        rfl
    · refine ⟨fun hy => ?_, fun hy => ?_⟩
      · obtain rfl : bj = true := by cases bj <;> first | rfl | (exfalso; simp [yieldR, slotR, undef, *] at hy)
        go_simp
      · obtain rfl : bj = false := by cases bj <;> first | rfl | (exfalso; simp [yieldR, slotR, undef, *] at hy)
        rfl
    · refine ⟨fun hy => ?_, fun hy => ?_⟩
      · obtain rfl : bj = true := by cases bj <;> first | rfl | (exfalso; simp [yieldR, slotR, undef, *] at hy)
        go_simp
      · obtain rfl : bj = false := by cases bj <;> first | rfl | (exfalso; simp [yieldR, slotR, undef, *] at hy)
        rfl
    · refine ⟨fun hy => ?_, fun hy => ?_⟩
      · obtain rfl : bj = true := by cases bj <;> first | rfl | (exfalso; simp [yieldR, slotR, undef, *] at hy)
        go_simp
      · obtain rfl : bj = false := by cases bj <;> first | rfl | (exfalso; simp [yieldR, slotR, undef, *] at hy)
        rfl
    · refine ⟨fun hy => ?_, fun hy => ?_⟩
      · obtain rfl : bj = true := by cases bj <;> first | rfl | (exfalso; simp [yieldR, slotR, undef, *] at hy)
        have hj : j < n := of_decide_eq_true HB.out
        have hj1 : (j : Int) < (n : Int) := by omega
        go_simp
      · obtain rfl : bj = false := by cases bj <;> first | rfl | (exfalso; simp [yieldR, slotR, undef, *] at hy)
        rfl
    · refine ⟨fun hy => ?_, fun hy => ?_⟩
      · obtain rfl : bj = true := by cases bj <;> first | rfl | (exfalso; simp [yieldR, slotR, undef, *] at hy)
        have hj : j < n := of_decide_eq_true HB.out
        have hj1 : (j : Int) < (n : Int) := by omega
        have hh := hx.rg j hj
        go_simp
      · obtain rfl : bj = false := by cases bj <;> first | rfl | (exfalso; simp [yieldR, slotR, undef, *] at hy)
        rfl
    · refine ⟨fun hy => ?_, fun hy => ?_⟩
      · obtain rfl : bj = true := by cases bj <;> first | rfl | (exfalso; simp [yieldR, slotR, undef, *] at hy)
        go_simp
      · obtain rfl : bj = false := by cases bj <;> first | rfl | (exfalso; simp [yieldR, slotR, undef, *] at hy)
        rfl
    · refine ⟨fun hy => ?_, fun hy => ?_⟩
      · obtain rfl : bj = true := by cases bj <;> first | rfl | (exfalso; simp [yieldR, slotR, undef, *] at hy)
        go_simp
      · obtain rfl : bj = false := by cases bj <;> first | rfl | (exfalso; simp [yieldR, slotR, undef, *] at hy)
        rfl
    · refine ⟨fun hy => ?_, fun hy => ?_⟩
      · obtain rfl : bj = true := by cases bj <;> first | rfl | (exfalso; simp [yieldR, slotR, undef, *] at hy)
        go_simp
      · obtain rfl : bj = false := by cases bj <;> first | rfl | (exfalso; simp [yieldR, slotR, undef, *] at hy)
        rfl
    · refine ⟨fun hy => ?_, fun hy => ?_⟩
      · obtain rfl : bj = true := by cases bj <;> first | rfl | (exfalso; simp [yieldR, slotR, undef, *] at hy)
        go_simp
      · obtain rfl : bj = false := by cases bj <;> first | rfl | (exfalso; simp [yieldR, slotR, undef, *] at hy)
        rfl
    · refine ⟨fun hy => ?_, fun hy => ?_⟩
      · obtain rfl : bj = true := by cases bj <;> first | rfl | (exfalso; simp [yieldR, slotR, undef, *] at hy)
        go_simp
      · obtain rfl : bj = false := by cases bj <;> first | rfl | (exfalso; simp [yieldR, slotR, undef, *] at hy)
        rfl
    · refine ⟨fun hy => ?_, fun hy => ?_⟩
      · obtain rfl : bj = true := by cases bj <;> first | rfl | (exfalso; simp [yieldR, slotR, undef, *] at hy)
        go_simp
      · obtain rfl : bj = false := by cases bj <;> first | rfl | (exfalso; simp [yieldR, slotR, undef, *] at hy)
        rfl
    · refine ⟨fun hy => ?_, fun hy => ?_⟩
      · obtain rfl : bj = true := by cases bj <;> first | rfl | (exfalso; simp [yieldR, slotR, undef, *] at hy)
        go_simp
      · obtain rfl : bj = false := by cases bj <;> first | rfl | (exfalso; simp [yieldR, slotR, undef, *] at hy)
        rfl
    · refine ⟨fun hy => ?_, fun hy => ?_⟩
      · obtain rfl : bj = true := by cases bj <;> first | rfl | (exfalso; simp [yieldR, slotR, undef, *] at hy)
        have hh := hx.rg i hi
        go_simp
      · obtain rfl : bj = false := by cases bj <;> first | rfl | (exfalso; simp [yieldR, slotR, undef, *] at hy)
        rfl
    · refine ⟨fun hy => ?_, fun hy => ?_⟩
      · obtain rfl : bj = true := by cases bj <;> first | rfl | (exfalso; simp [yieldR, slotR, undef, *] at hy)
        go_simp
        refine (before_any x (gp l j) (gp l i)).mono ?_
        rintro e w' ⟨rfl, hw⟩
        exact ⟨_, rfl, rfl, hw⟩
      · obtain rfl : bj = false := by cases bj <;> first | rfl | (exfalso; simp [yieldR, slotR, undef, *] at hy)
        rfl
  · intro vs x hp hw
    simp only [owed, Fx] at hw
    obtain ⟨e0, e1, e2, e3, e4, e5, e6, e7, e8, e9, e10, e11, e12, e13, e14, e15, e16, e17, e18, e19, e20, e21, e22, e23, -⟩ := hw
    simp only [List.length_cons, List.length_nil, List.take_succ_cons, List.take_zero, List.drop_succ_cons, List.drop_zero, asg, List.cons_append, List.nil_append, e0, e1, e2, e3, e4, e5, e6, e7, e8, e9, e10, e11, e12, e13, e14, e15, e16, e17, e18, e19, e20, e21, e22, e23]
    clear e0 e1 e2 e3 e4 e5 e6 e7 e8 e9 e10 e11 e12 e13 e14 e15 e16 e17 e18 e19 e20 e21 e22 e23
    cases bj
    · have hrr : r = i := by
        have := HR.out
        unfold lowOf at this
        rw [if_neg (fun hh => by have := HB.out; rw [decide_eq_false_iff_not] at this; exact this hh.1)] at this
        exact this.symm
      simp only [cond_false]
      go_wp2
      go_ret
      exact ⟨by rw [hrr]; rfl, hp⟩
    · have hjl : j < n := of_decide_eq_true HB.out
      simp only [cond_true]
      obtain ⟨q, hq⟩ : ∃ q, decide ((gp l j).1 < (gp l i).1) = q := ⟨_, rfl⟩
      rw [hq]
      cases q
      · have hrr : r = i := by
          have := HR.out
          unfold lowOf at this
          rw [if_neg (fun hh => by rw [decide_eq_false_iff_not] at hq; exact hq hh.2)] at this
          exact this.symm
        go_wp2
        go_ret
        exact ⟨by rw [hrr]; rfl, hp⟩
      · have hrr : r = j := by
          have := HR.out
          unfold lowOf at this
          rw [if_pos ⟨hjl, of_decide_eq_true hq⟩] at this
          exact this.symm
        go_wp2
        go_ret
        exact ⟨by rw [hrr]; rfl, hp⟩
end Go.Proofs.Ytafbkdpheneceaa
