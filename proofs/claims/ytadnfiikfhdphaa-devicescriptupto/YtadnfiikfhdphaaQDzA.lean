import Derived.Test.YtadnfiikfhdphaaQDev8
namespace Go.Proofs.Ytadnfiikfhdphaa
open Go.RowKit

/-! The device as it landed: its pending acts (a write, and a function value that holds where the place and the sector lie) -/
abbrev Ac := Wr × Nat × Nat
def cloV (ga gs : Nat) : Value := .func (.func 37) #[] #[.pointer (some ⟨gs, 0, none⟩), .pointer (some ⟨ga, 0, none⟩)]
def actA (x : Ac) : Array Value := wrA x.1 ++ #[cloV x.2.1 x.2.2]
def actZ : Array Value := wrA wrZ ++ #[.nilFunc]
theorem actA_size (x : Ac) : (actA x).size = 66 := by simp [actA, wrA_size]
theorem actZ_size : actZ.size = 66 := by simp [actZ, wrA_size]
theorem actA_list (x : Ac) : (actA x).toList = (wrA x.1).toList ++ [cloV x.2.1 x.2.2] := by simp [actA]
theorem actA_one (x : Ac) : (actA x).all (·.oneCell') = true := by
  rw [Array.all_eq_true_iff_forall_mem]
  intro v hv
  simp only [actA, Array.mem_append] at hv
  rcases hv with hv | hv
  · exact Array.all_eq_true_iff_forall_mem.1 (wrA_one x.1) v hv
  · simp at hv; subst hv; rfl
def actE : EK Ac := { T := 80, S := 53, k := 66, bytes := 80, z := .agg actZ, enc := fun x => (actA x).toList }
theorem actE_ok : actE.Ok where
  len x := by unfold actE; simp only; rw [Array.length_toList]; exact actA_size x
  one x v hv := by
    unfold actE at hv
    simp only at hv
    exact Array.all_eq_true_iff_forall_mem.1 (actA_one x) v (Array.mem_toList_iff.1 hv)
  und := Try.underlying53
  info := by
    have h : (Try.prog.info? 80).map (fun i => (i.zero, i.size, i.bytes)) = some (some (.agg actZ), 66, 80) := by kernel_rfl
    exact h
  zc := by unfold actE; simp only [Value.cells]; exact actZ_size
  kp := by show 0 < 66; omega
  row := ⟨_, Try.underlying80, rfl⟩
theorem actE_k : actE.k = 66 := rfl
theorem actE_enc (x : Ac) : actE.enc x = (actA x).toList := by simp only [actE]
theorem size_act : (Try.prog.info? 80).map (·.size) = some 66 := by kernel_rfl
theorem zero_act (w : World) : (zeroValue 80).run Try.prog w = .ok (.agg actZ) w := by
  have h : (Try.prog.info? 80).map (fun i => (i.zero, i.size)) = some (some (.agg actZ), 66) := by kernel_rfl
  exact (zero_of_info h).1 w
theorem zero_wr (w : World) : (zeroValue 77).run Try.prog w = .ok (.agg (wrA wrZ)) w := by
  have h : (Try.prog.info? 77).map (fun i => (i.zero, i.size)) = some (some (.agg (wrA wrZ)), 65) := by kernel_rfl
  exact (zero_of_info h).1 w
def actLoad (p : Value) : Sem Next := do pure (.value (← Instr.loadAt 80 p))
def actStore (p x : Value) : Sem Next := do Instr.storeAt 80 p x; pure .skip
def actAlloc : Sem Next := do pure (.value (← Instr.alloc 80 true (.tuple #[])))
def wrAlloc : Sem Next := do pure (.value (← Instr.alloc 77 true (.tuple #[])))
def actBuild2 (x y : Value) : Sem Next := do pure (.value (← Instr.build 80 #[(0, x), (1, y)]))
def actBS (x : Value) : Sem Next := do pure (.value (← Instr.buildSlice 53 1 #[(0, x)]))
def actBS0 : Sem Next := do pure (.value (← Instr.buildSlice 53 0 #[]))
def secBS0 : Sem Next := do pure (.value (← Instr.buildSlice 24 0 #[]))
section
variable (ρ : Operand → Value) (dst : Option Tmp) (ty ty' : TypeId) (pos : String) (after : Array Edge) (guard : Option (Nat × Bool))
@[go_sem ↓] theorem execOp_actLoad (x : Operand) : execOp ρ { dst, op := .load 80 x, type := ty, pos, after, guard } = actLoad (ρ x) := rfl
@[go_sem ↓] theorem execOp_actStore (x y : Operand) : execOp ρ { dst, op := .store 80 x y, type := ty, pos, after, guard } = actStore (ρ x) (ρ y) := rfl
@[go_sem ↓] theorem execOp_actAlloc : execOp ρ { dst, op := .alloc 80, type := ty, pos, after, guard } = actAlloc := rfl
@[go_sem ↓] theorem execOp_wrAlloc : execOp ρ { dst, op := .alloc 77, type := ty, pos, after, guard } = wrAlloc := rfl
@[go_sem ↓] theorem execOp_actBuild2 (x y : Operand) : execOp ρ { dst, op := .build 80 #[(0, x), (1, y)], type := ty, pos, after, guard } = actBuild2 (ρ x) (ρ y) := by simp [execOp, actBuild2]
@[go_sem ↓] theorem execOp_actBS (x : Operand) : execOp ρ { dst, op := .buildSlice 53 1 #[(0, x)], type := ty, pos, after, guard } = actBS (ρ x) := by simp [execOp, actBS]
@[go_sem ↓] theorem execOp_actBS0 : execOp ρ { dst, op := .buildSlice 53 0 #[], type := ty, pos, after, guard } = actBS0 := by simp [execOp, actBS0]
@[go_sem ↓] theorem execOp_secBS0 : execOp ρ { dst, op := .buildSlice 24 0 #[], type := ty, pos, after, guard } = secBS0 := by simp [execOp, secBS0]
end
@[go_sem] theorem run_actLoad_mid (w : World) (b o : Nat) (h : rgOk w b o 66 = true) : (actLoad (.pointer (some ⟨b, o, none⟩))).run Try.prog w = .ok (.value (.agg (rg w b o 66))) w := by
  simp only [actLoad, Sem.run_bind]
  rw [run_loadAt_mid w b o 80 _ _ (rangeAt_rg h) Try.underlying80 rfl (by rw [size_act, Array.length_toList, rg_size])]
  rfl
@[go_sem] theorem run_actAlloc (w : World) : actAlloc.run Try.prog w = .ok (.value (.pointer (some ⟨w.heap.size, 0, none⟩))) (w.alloc (.cells actZ 80)) := by
  simp only [actAlloc, Instr.alloc, Sem.run_bind, zero_act, Result.andThen_ok]
  rfl
@[go_sem] theorem run_wrAlloc (w : World) : wrAlloc.run Try.prog w = .ok (.value (.pointer (some ⟨w.heap.size, 0, none⟩))) (w.alloc (.cells (wrA wrZ) 77)) := by
  simp only [wrAlloc, Instr.alloc, Sem.run_bind, zero_wr, Result.andThen_ok]
  rfl
@[go_sem] theorem run_actStore (w : World) (n : Nat) (x : Ac) (h : n = w.heap.size) : (actStore (.pointer (some ⟨n, 0, none⟩)) (.agg (actA x))).run Try.prog (w.alloc (.cells actZ 80)) = .ok .skip (w.alloc (.cells (actA x) 80)) := by
  simp only [actStore, Instr.storeAt, Instr.sureAddr, Sem.run_bind, Sem.run_pure, Result.andThen_ok]
  rw [run_storeVar_row _ n 80 80 actZ (actA x) (by rw [h]; exact heap_alloc_last w _) (by rw [size_act, actA_size]) (by rw [actA_size, actZ_size]) (actA_one x), setRow_new w n _ _ _ h]; rfl
@[go_sem] theorem run_wrStore (w : World) (n : Nat) (x : Wr) (h : n = w.heap.size) : (wrStore (.pointer (some ⟨n, 0, none⟩)) (.agg (wrA x))).run Try.prog (w.alloc (.cells (wrA wrZ) 77)) = .ok .skip (w.alloc (.cells (wrA x) 77)) := by
  simp only [wrStore, Instr.storeAt, Instr.sureAddr, Sem.run_bind, Sem.run_pure, Result.andThen_ok]
  rw [run_storeVar_row _ n 77 77 (wrA wrZ) (wrA x) (by rw [h]; exact heap_alloc_last w _) (by rw [size_wr, wrA_size]) (by rw [wrA_size, wrA_size]) (wrA_one x), setRow_new w n _ _ _ h]; rfl
@[go_sem] theorem run_actBS (w : World) (x : Ac) : (actBS (.agg (actA x))).run Try.prog w = .ok (.value (.slice (some ⟨w.heap.size, 0, none⟩) 1 1)) (w.alloc (.cells (actA x) 80)) := by
  have h := run_litK1 actE_ok (by show 66 ≤ 1000; omega) w x
  simp only [actE, toA] at h
  simp only [actBS, Sem.run_bind, h]
  rfl
@[go_sem] theorem run_actBS0 (w : World) : actBS0.run Try.prog w = .ok (.value (.slice (some ⟨w.heap.size, 0, none⟩) 0 0)) (w.alloc (.cells #[] 80)) := by
  have h := run_litK0 actE_ok w
  simp only [actE] at h
  simp only [actBS0, Sem.run_bind, h]
  rfl
@[go_sem] theorem run_secBS0 (w : World) : secBS0.run Try.prog w = .ok (.value (.slice (some ⟨w.heap.size, 0, none⟩) 0 0)) (w.alloc (.cells #[] 27)) := by
  have h := run_litK0 secE_ok w
  simp only [secE] at h
  simp only [secBS0, Sem.run_bind, h]
  rfl
theorem actPlaces : (Try.prog.info? 77).map (·.size) = some 65 ∧ (Try.prog.info? 78).map (·.size) = some 1 := ⟨by kernel_rfl, by kernel_rfl⟩
theorem built_act (ps : List (Nat × Value)) : Try.prog.built 80 ps = Instr.fill (fun i => #[(0, 65), (65, 1)][i]?) actZ ps := by
  obtain ⟨i, hi, hzz⟩ := Option.map_eq_some_iff.1 actE_ok.info
  simp only [Prod.mk.injEq] at hzz
  obtain ⟨i1, h1, s1⟩ := Option.map_eq_some_iff.1 actPlaces.1
  obtain ⟨i2, h2, s2⟩ := Option.map_eq_some_iff.1 actPlaces.2
  have hz : i.zero = some (.agg actZ) := hzz.1
  have hi' : Try.prog.info? 80 = some i := hi
  unfold Program.built
  simp only [hi', Try.underlying80, hz]
  simp [h1, h2, s1, s2, Value.cells]
def actP (i : Nat) : Option (Nat × Nat) := #[(0, 65), (65, 1)][i]?
theorem fill_act1 (x : Wr) (ps : List (Nat × Value)) : Instr.fill actP actZ ((0, .agg (wrA x)) :: ps) = Instr.fill actP (wrA x ++ #[.nilFunc]) ps := by
  have hc : (Value.agg (wrA x)).cells = wrA x := rfl
  have hp : actP 0 = some (0, 65) := rfl
  have e : ((wrA x).zipIdx.foldl (fun (cs : Array Value) p => cs.setIfInBounds (0 + p.2) p.1) actZ) = wrA x ++ #[.nilFunc] := by
    apply Array.ext_getElem?
    intro i
    rw [blit_get, actZ_size, wrA_size]
    by_cases h1 : i < 65
    · rw [if_pos (by omega), Array.getElem?_append_left (by rw [wrA_size]; exact h1), Nat.sub_zero]
    · rw [if_neg (by omega)]
      unfold actZ
      rw [Array.getElem?_append_right (by rw [wrA_size]; omega), Array.getElem?_append_right (by rw [wrA_size]; omega), wrA_size, wrA_size]
  rw [← e]
  have hs := wrA_size x
  generalize wrA x = Y at hc hs
  have hz := actZ_size
  generalize actZ = Z at hz
  rw [Instr.fill]
  simp only [hp]
  rw [hc, if_neg (by simp [hs, hz])]
theorem fill_act2 (x : Wr) (ga gs : Nat) : Instr.fill actP (wrA x ++ #[.nilFunc]) [(1, cloV ga gs)] = some (actA (x, ga, gs)) := by
  have hc : (cloV ga gs).cells = #[cloV ga gs] := rfl
  have hp : actP 1 = some (65, 1) := rfl
  have e : ((#[cloV ga gs]).zipIdx.foldl (fun (cs : Array Value) p => cs.setIfInBounds (65 + p.2) p.1) (wrA x ++ #[.nilFunc])) = actA (x, ga, gs) := by
    apply Array.ext_getElem?
    intro i
    rw [blit_get]
    unfold actA
    by_cases h1 : i < 65
    · rw [if_neg (by omega), Array.getElem?_append_left (by rw [wrA_size]; exact h1), Array.getElem?_append_left (by rw [wrA_size]; exact h1)]
    · rw [Array.getElem?_append_right (by rw [wrA_size]; omega), Array.getElem?_append_right (by rw [wrA_size]; omega), wrA_size]
      by_cases h2 : i = 65
      · subst h2
        rw [if_pos (by simp [wrA_size])]
      · rw [if_neg (by simp; omega), Array.getElem?_eq_none (by simp; omega), Array.getElem?_eq_none (by simp; omega)]
  rw [← e]
  have hz : (wrA x ++ #[Value.nilFunc]).size = 66 := by simp [wrA_size]
  generalize wrA x ++ #[Value.nilFunc] = Z at hz
  rw [Instr.fill]
  simp only [hp]
  rw [hc, if_neg (by simp [hz])]
  rw [Instr.fill]
@[go_sem] theorem run_actBuild2 (w : World) (x : Wr) (ga gs : Nat) : (actBuild2 (.agg (wrA x)) (cloV ga gs)).run Try.prog w = .ok (.value (.agg (actA (x, ga, gs)))) w := by
  simp only [actBuild2, Sem.run_bind]
  rw [run_build w 80 _ (actA (x, ga, gs)) (by rw [built_act]; show Instr.fill actP _ [(0, .agg (wrA x)), (1, cloV ga gs)] = _; rw [fill_act1, fill_act2])]
  rfl
/-- What lies in an act of a slice. -/
theorem actCells {w : World} {B g n c : Nat} {ms : List Ac} (h : OwnK actE w B (.slice (some ⟨g, 0, none⟩) n c) ms) (i : Nat) (x : Ac) (hi : ms[i]? = some x) : rgOk w g (i * 66) 66 = true ∧ rg w g (i * 66) 66 = actA x := by
  have hr := h.range actE_ok i x hi
  rw [actE_k, actE_enc] at hr
  have h2 := rg_of (k := 66) hr (by rw [Array.length_toList]; exact actA_size x)
  rw [toA] at h2
  exact h2
theorem actCells2 {w : World} {B g n c : Nat} {ms : List Ac} (h : OwnK actE w B (.slice (some ⟨g, 0, none⟩) n c) ms) (i : Nat) (x : Ac) (hi : ms[i]? = some x) : rgOk w g (i * 66) 65 = true ∧ rg w g (i * 66) 65 = wrA x.1 := by
  have hr := h.range actE_ok i x hi
  rw [actE_k, actE_enc, actA_list] at hr
  have h1 : w.rangeAt g (i * 66) (wrA x.1).toList := fun j u hu => hr j u (by
    rw [List.getElem?_append_left (by have := (List.getElem?_eq_some_iff.1 hu).1; exact this)]; exact hu)
  have h2 := rg_of (k := 65) h1 (by rw [Array.length_toList]; exact wrA_size x.1)
  rw [toA] at h2
  exact h2
/-- A row of its own that holds an act, or a write. -/
theorem actRow (w : World) (x : Ac) : (w.alloc (.cells (actA x) 80)).cell? ⟨w.heap.size, 65, none⟩ = some (cloV x.2.1 x.2.2) ∧ rgOk (w.alloc (.cells (actA x) 80)) w.heap.size 0 65 = true ∧ rg (w.alloc (.cells (actA x) 80)) w.heap.size 0 65 = wrA x.1 := by
  have hg := heap_alloc_last w (.cells (actA x) 80)
  have hc : ∀ i, (w.alloc (.cells (actA x) 80)).cell? ⟨w.heap.size, i, none⟩ = (actA x)[i]? := fun i => cell_of_row _ _ i _ _ _ hg
  have h1 : (w.alloc (.cells (actA x) 80)).rangeAt w.heap.size 0 (wrA x.1).toList := fun j u hu => by
    have hj := (List.getElem?_eq_some_iff.1 hu).1
    rw [Array.length_toList] at hj
    rw [Nat.zero_add, hc]
    unfold actA
    rw [Array.getElem?_append_left hj, ← Array.getElem?_toList]; exact hu
  have h2 := rg_of (k := 65) h1 (by rw [Array.length_toList]; exact wrA_size x.1)
  rw [toA] at h2
  refine ⟨?_, h2⟩
  rw [hc]
  unfold actA
  rw [Array.getElem?_append_right (by rw [wrA_size]; omega), wrA_size]
  rfl
theorem wrRow (w : World) (x : Wr) : (w.alloc (.cells (wrA x) 77)).cell? ⟨w.heap.size, 0, none⟩ = some (.int .i64 x.1) ∧ rgOk (w.alloc (.cells (wrA x) 77)) w.heap.size 1 64 = true ∧ rg (w.alloc (.cells (wrA x) 77)) w.heap.size 1 64 = secA x.2 := by
  have hg := heap_alloc_last w (.cells (wrA x) 77)
  have hc : ∀ i, (w.alloc (.cells (wrA x) 77)).cell? ⟨w.heap.size, i, none⟩ = (wrA x)[i]? := fun i => cell_of_row _ _ i _ _ _ hg
  have h1 : (w.alloc (.cells (wrA x) 77)).rangeAt w.heap.size 1 (secA x.2).toList := fun j u hu => by
    rw [hc]
    unfold wrA
    rw [Array.getElem?_append_right (by simp), ← Array.getElem?_toList]
    simpa using hu
  have h2 := rg_of h1 (by simp : (secA x.2).toList.length = 64)
  rw [toA] at h2
  exact ⟨by rw [hc, wrA_at], h2⟩
end Go.Proofs.Ytadnfiikfhdphaa
