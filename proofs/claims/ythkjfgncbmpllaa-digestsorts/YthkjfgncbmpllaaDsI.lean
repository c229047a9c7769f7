
import Derived.Test.YthkjfgncbmpllaaDsJ
namespace Go.Proofs.Ythkjfgncbmpllaa
open Go.RowKit Go.Sort

/-! digest.Sorted -/
def dgBS0 : Sem Next := do pure (.value (← Instr.buildSlice 31 0 #[]))
@[go_sem ↓] theorem execOp_dgBS0 (ρ : Operand → Value) (dst : Option Tmp) (ty : TypeId) (pos : String) (after : Array Edge) (guard : Option (Nat × Bool)) : execOp ρ { dst, op := .buildSlice 31 0 #[], type := ty, pos, after, guard } = dgBS0 := by simp [execOp, dgBS0]
@[go_sem] theorem run_dgBS0 (w : World) : dgBS0.run Try.prog w = .ok (.value (.slice (some ⟨w.heap.size, 0, none⟩) 0 0)) (w.alloc (.cells #[] 23)) := by
  obtain ⟨i, hi, hzz⟩ := Option.map_eq_some_iff.1 infoDg
  simp only [Prod.mk.injEq] at hzz
  obtain ⟨hz, hs, hby⟩ := hzz
  simp [dgBS0, Instr.buildSlice, run_underlying Try.underlying31, sizeOf, typeInfo, hi, hs]
  have e : (Array.map (fun _ => (default : Value)) (Array.range 0)) = #[] := by simp
  rw [e]
  simp [Instr.fill, newRow]
theorem OwnDs.none (w : World) : OwnDs (w.alloc (.cells #[] 23)) w.heap.size (.slice (some ⟨w.heap.size, 0, none⟩) 0 0) [] :=
  ⟨rfl, .inr ⟨w.heap.size, 0, #[], rfl, Nat.le_refl _, heap_alloc_last w _, Nat.le_refl _, by decide, rfl, rfl⟩⟩
set_option linter.unusedSimpArgs false in
theorem run_app_noD (w : World) (g c' : Nat) (x : Option Addr) (c : Nat) (ty : TypeId) :
    (Builtin.append_ #[31, 31] ty #[.slice (some ⟨g, 0, none⟩) 0 c', .slice x 0 c]).run Try.prog w = .ok (.slice (some ⟨g, 0, none⟩) 0 c') w := by
  obtain ⟨i, hi, hzz⟩ := Option.map_eq_some_iff.1 infoDg
  simp only [Prod.mk.injEq] at hzz
  obtain ⟨hz, hs, hby⟩ := hzz
  cases x with
  | none => simp [Builtin.append_, run_underlying Try.underlying31, sizeOf, typeInfo, hi, hs, Builtin.lenOf, Builtin.firstCells, storeCells]
  | some a => simp [Builtin.append_, run_underlying Try.underlying31, sizeOf, typeInfo, hi, hs, Builtin.lenOf, Builtin.firstCells, loadCells, loadCellsFrom, storeCells]
/-- A new copy. -/
theorem run_copyD (w : World) (x : Option Addr) (c : Nat) (ds : List Dg) (ty : TypeId) (h : IsDs w (.slice x ds.length c) ds) (hl : ds.length * 32 ≤ 140737488355328) :
    ∃ g c' w', (Builtin.append_ #[31, 31] ty #[.slice (some ⟨w.heap.size, 0, none⟩) 0 0, .slice x ds.length c]).run Try.prog (w.alloc (.cells #[] 23)) = .ok (.slice (some ⟨g, 0, none⟩) ds.length c') w' ∧ OwnDs w' w.heap.size (.slice (some ⟨g, 0, none⟩) ds.length c') ds ∧ Below w.heap.size w w' := by
  by_cases h0 : ds = []
  · subst h0
    exact ⟨_, _, _, run_app_noD _ _ _ _ _ _, OwnDs.none w, below_alloc _ _⟩
  · obtain ⟨v', w', hr, hO, hg, hb⟩ := run_app_moreD (w.alloc (.cells #[] 23)) w.heap.size (.slice (some ⟨w.heap.size, 0, none⟩) 0 0) [] x c ds ty (OwnDs.none w) (h.kept (below_alloc _ _)) h0 (by simpa using hl) (by simp)
    rw [List.nil_append] at hO
    obtain ⟨g, c', rfl, hbg, hlt⟩ := World.ownsRow.form hO (List.length_pos_iff.2 h0)
    exact ⟨g, c', w', hr, hO, (below_alloc _ _).trans hb⟩
set_option linter.unusedSimpArgs false in
set_option maxHeartbeats 400000 in
theorem sortedOk : SortedOk := by
  intro x c ds w h hl
  obtain ⟨g, c', w1, hr, hO, hB⟩ := run_copyD w x c ds 31 h (by omega)
  obtain ⟨n, hn⟩ : ∃ n, ds.length = n := ⟨_, rfl⟩
  have hS := sort_any g c' w.heap.size ds w1 hO hB.size (by omega)
  rw [hn] at hr hS hl ⊢
  go_enter Try.func11, Try.ntmps11
  go_wp2_with (first | (at_builtin; refine wpL_appD rfl _ _ rfl _ w1 (by exact hr) ?_))
  refine hS.mono ?_
  rintro e w2 ⟨rfl, ts, hlt, hO2, hp, hm, hg2, hB2⟩
  have hC := compact_any g c' w.heap.size n ts w2 hO2 hp (by omega)
  go_wp2_with fail
  refine hC.mono ?_
  rintro e w3 ⟨K, rs, rfl, hO3, hs3, hg3⟩
  have hB9 := hB.trans (hB2.trans (below_grownD hg3 (Nat.le_trans hB.size hg2.size) (World.ownsRow.lt hO3 g rfl).1))
  have HS : Hid (SortedTo ds rs) := ⟨hs3.1, fun m => (hs3.2 m).trans (hm m)⟩
  clear hs3 hm hp hO2 hO hB hB2 hg2 hg3 hS hC h
  go_wp2
  go_ret
  exact ⟨_, rs, rfl, hO3, HS.out, hB9⟩
end Go.Proofs.Ythkjfgncbmpllaa
