
import Derived.Test.YtmbkkdojjfdliaaSec
import Derived.Deep.MidRow
namespace Go.Proofs.Ytmbkkdojjfdliaa
open Go.RowKit

/-! Rows of any length: live and not frozen; their cells are rowAt. -/
def rowL (w : World) (n : Nat) : Bool := match w.heap[n]? with | some (.cells _ _ fr) => fr == (0, 0) | _ => false
@[go_sem] theorem rowL_drew (w : World) (n : Nat) : rowL w.drew n = rowL w n := rfl
@[go_sem] theorem rowL_new (w : World) (n : Nat) (c : Array Value) (t : TypeId) (h : n = w.heap.size) : rowL (w.alloc (.cells c t)) n = true := by
  subst h; unfold rowL; rw [heap_alloc_last]; rfl
@[go_sem] theorem rowL_old (w : World) (n : Nat) (o : Obj) (h : n < w.heap.size) : rowL (w.alloc o) n = rowL w n := by
  unfold rowL; rw [Below.heap_alloc w o n h]
theorem row_of_L {w : World} {n : Nat} (h : rowL w n = true) : ∃ t, w.heap[n]? = some (.cells (rowAt w n) t (0, 0)) := by
  unfold rowL at h
  unfold rowAt
  cases hq : w.heap[n]? with
  | none => simp [hq] at h
  | some o =>
    cases o with
    | cells c t fr =>
      simp [hq] at h
      subst h
      exact ⟨t, rfl⟩
    | _ => simp [hq] at h
theorem rowL_lt {w : World} {n : Nat} (h : rowL w n = true) : n < w.heap.size := by
  obtain ⟨t, hg⟩ := row_of_L h
  exact (Array.getElem?_eq_some_iff.1 hg).1
@[go_sem] theorem rowAt_setRow_L (w : World) (n : Nat) (c : Array Value) (h : rowL w n = true) : rowAt (w.setRow n c) n = c := by
  obtain ⟨t, hg⟩ := row_of_L h
  unfold rowAt; rw [setRow_heap w n _ c t _ hg]
@[go_sem] theorem rowL_setRow_same (w : World) (n : Nat) (c : Array Value) (h : rowL w n = true) : rowL (w.setRow n c) n = true := by
  obtain ⟨t, hg⟩ := row_of_L h
  unfold rowL; rw [setRow_heap w n _ c t _ hg]; rfl
theorem rowL_setRow_other (w : World) (n m : Nat) (c : Array Value) (h : n ≠ m) : rowL (w.setRow m c) n = rowL w n := by
  unfold rowL; rw [setRow_other w m n c h]
theorem cell_rowL {w : World} {n : Nat} (h : rowL w n = true) (i : Nat) : w.cell? ⟨n, i, none⟩ = (rowAt w n)[i]? := by
  obtain ⟨t, hg⟩ := row_of_L h
  exact cell_of_row w n i _ t _ hg
theorem frozen_rowL {w : World} {n : Nat} (h : rowL w n = true) (i : Nat) : w.frozen? ⟨n, i, none⟩ = false := by
  obtain ⟨t, hg⟩ := row_of_L h
  simp [World.frozen?, hg]
/-- A row with these cells. -/
def RowC (w : World) (g : Nat) (c : Array Value) : Prop := rowL w g = true ∧ rowAt w g = c
theorem RowC.block {w w1 : World} {g : Nat} {c : Array Value} (h : RowC w g c) (hb : w1.heap[g]? = w.heap[g]?) : RowC w1 g c := by
  unfold RowC rowL rowAt at *
  rw [hb]; exact h
theorem RowC.kept {w w1 : World} {g : Nat} {c : Array Value} (h : RowC w g c) (hb : Below w.heap.size w w1) : RowC w1 g c := h.block (hb.block g (rowL_lt h.1))
theorem RowC.new (w : World) (c : Array Value) (t : TypeId) : RowC (w.alloc (.cells c t)) w.heap.size c := ⟨rowL_new _ _ _ _ rfl, rowAt_new _ _ _ _ rfl⟩
theorem RowC.lt {w : World} {g : Nat} {c : Array Value} (h : RowC w g c) : g < w.heap.size := rowL_lt h.1
theorem RowC.cell {w : World} {g : Nat} {c : Array Value} (h : RowC w g c) (i : Nat) : w.cell? ⟨g, i, none⟩ = c[i]? := by rw [cell_rowL h.1, h.2]
theorem RowC.frozen {w : World} {g : Nat} {c : Array Value} (h : RowC w g c) (i : Nat) : w.frozen? ⟨g, i, none⟩ = false := frozen_rowL h.1 i
theorem RowC.set {w : World} {g : Nat} {c : Array Value} (h : RowC w g c) (i : Nat) (v : Value) : RowC (w.setCell ⟨g, i, none⟩ v) g (c.setIfInBounds i v) := by
  obtain ⟨t, hg⟩ := row_of_L h.1
  have e := heap_setCell w g i v _ t _ hg
  constructor
  · unfold rowL; rw [e]; rfl
  · have e2 : rowAt (w.setCell ⟨g, i, none⟩ v) g = (rowAt w g).setIfInBounds i v := by
      show (match (w.setCell ⟨g, i, none⟩ v).heap[g]? with | some (.cells c _ _) => c | _ => #[]) = _
      rw [e]
    rw [e2, h.2]
theorem heap_setCell_ne (w : World) (g k i : Nat) (v : Value) (h : g ≠ k) : (w.setCell ⟨g, i, none⟩ v).heap[k]? = w.heap[k]? := by
  simp only [World.setCell, Array.getElem?_modify]; rw [if_neg h]
theorem RowC.set_ne {w : World} {g k : Nat} {c : Array Value} (h : RowC w k c) (i : Nat) (v : Value) (hn : g ≠ k) : RowC (w.setCell ⟨g, i, none⟩ v) k c := h.block (heap_setCell_ne w g k i v hn)
theorem RowC.setRow {w : World} {g : Nat} {c : Array Value} (h : RowC w g c) (d : Array Value) : RowC (w.setRow g d) g d := ⟨rowL_setRow_same _ _ _ h.1, rowAt_setRow_L _ _ _ h.1⟩
theorem RowC.setRow_ne {w : World} {g k : Nat} {c : Array Value} (h : RowC w k c) (d : Array Value) (hn : k ≠ g) : RowC (w.setRow g d) k c := h.block (setRow_other w g k d hn)
/-- Cells laid into a row. -/
def layC (c : Array Value) (o : Nat) (vs : Array Value) : Array Value := (c.toList.take o ++ vs.toList ++ c.toList.drop (o + vs.size)).toArray
theorem layC_all (c vs : Array Value) (h : vs.size = c.size) : layC c 0 vs = vs := by
  unfold layC
  rw [List.drop_of_length_le (by simp [h])]; simp
/-! The operations on them -/
def bigLoad (t : TypeId) (p : Value) : Sem Next := do pure (.value (← Instr.loadAt t p))
def bigStore (t : TypeId) (p x : Value) : Sem Next := do Instr.storeAt t p x; pure .skip
def bigAlloc (t : TypeId) : Sem Next := do pure (.value (← Instr.alloc t true (.tuple #[])))
def bigBox (t : TypeId) (x : Value) : Sem Next := do pure (.value (← Instr.box t x))
theorem run_bigLoad (t : TypeId) (d : TypeDesc) (n : Nat) (hu : Try.prog.underlying t = some d) (hd : d.isRow = true) (hi : (Try.prog.info? t).map (·.size) = some n) (w : World) (g o : Nat) (h : rowL w g = true) (hs : o + n ≤ (rowAt w g).size) :
    (bigLoad t (.pointer (some ⟨g, o, none⟩))).run Try.prog w = .ok (.value (.agg ((rowAt w g).extract o (o + n)))) w := by
  obtain ⟨ty, hg⟩ := row_of_L h
  have hr := World.rangeAt_of_block hg o n
  simp only [bigLoad, Sem.run_bind]
  rw [run_loadAt_mid w g o t _ d hr hu hd (by rw [hi]; simp; omega), Array.toArray_toList]
  rfl
theorem run_bigStore (t : TypeId) (n : Nat) (hi : (Try.prog.info? t).map (·.size) = some n) (w : World) (g o : Nat) (vs : Array Value) (h : rowL w g = true) (hn : vs.size = n) (hs : o + n ≤ (rowAt w g).size) (h1 : vs.all (·.oneCell') = true) :
    (bigStore t (.pointer (some ⟨g, o, none⟩)) (.agg vs)).run Try.prog w = .ok .skip (w.setRow g (layC (rowAt w g) o vs)) := by
  obtain ⟨ty, hg⟩ := row_of_L h
  have hst := run_storeCells_at Try.prog g o ty vs.toList 0 (rowAt w g) w hg (by simp; omega) (fun v hv => Array.all_eq_true_iff_forall_mem.1 h1 v (by simpa using hv))
  cases hq : Try.prog.info? t with
  | none => simp [hq] at hi
  | some i =>
    simp [hq] at hi
    simp only [Nat.add_zero, Array.length_toList] at hst
    simp [bigStore, Instr.storeAt, Instr.sureAddr, storeVar, sizeOf, typeInfo, hq, hi, Value.cells, hn, hst, layC]
theorem run_bigBox (t : TypeId) (c : Array Value) (w : World) : (bigBox t (.agg c)).run Try.prog w = .ok (.value (.pointer (some ⟨w.heap.size, 0, none⟩))) (w.alloc (.cells c t)) := by
  simp only [bigBox, Instr.box, newVar, Value.cells, Sem.run_bind]
  rfl
@[go_sem] theorem ltUp2 (n : Nat) : n < n + 1 + 1 := by omega
@[go_sem] theorem ltUp3 (n : Nat) : n < n + 1 + 1 + 1 := by omega
@[go_sem] theorem ltUp4 (n : Nat) : n < n + 1 + 1 + 1 + 1 := by omega
@[go_sem] theorem ltUp5 (n : Nat) : n < n + 1 + 1 + 1 + 1 + 1 := by omega
@[go_sem] theorem ltUp6 (n : Nat) : n < n + 1 + 1 + 1 + 1 + 1 + 1 := by omega
@[go_sem] theorem ltUp7 (n : Nat) : n < n + 1 + 1 + 1 + 1 + 1 + 1 + 1 := by omega
@[go_sem] theorem ltUp8 (n : Nat) : n < n + 1 + 1 + 1 + 1 + 1 + 1 + 1 + 1 := by omega
@[go_sem] theorem ltUp9 (n : Nat) : n < n + 1 + 1 + 1 + 1 + 1 + 1 + 1 + 1 + 1 := by omega
@[go_sem] theorem ltUpUp21 (n : Nat) : n + 1 < n + 1 + 1 := by omega
@[go_sem] theorem ltUpUp31 (n : Nat) : n + 1 < n + 1 + 1 + 1 := by omega
@[go_sem] theorem ltUpUp41 (n : Nat) : n + 1 < n + 1 + 1 + 1 + 1 := by omega
@[go_sem] theorem ltUpUp51 (n : Nat) : n + 1 < n + 1 + 1 + 1 + 1 + 1 := by omega
@[go_sem] theorem ltUpUp61 (n : Nat) : n + 1 < n + 1 + 1 + 1 + 1 + 1 + 1 := by omega
@[go_sem] theorem ltUpUp71 (n : Nat) : n + 1 < n + 1 + 1 + 1 + 1 + 1 + 1 + 1 := by omega
@[go_sem] theorem ltUpUp81 (n : Nat) : n + 1 < n + 1 + 1 + 1 + 1 + 1 + 1 + 1 + 1 := by omega
@[go_sem] theorem ltUpUp91 (n : Nat) : n + 1 < n + 1 + 1 + 1 + 1 + 1 + 1 + 1 + 1 + 1 := by omega
@[go_sem] theorem ltUpUp32 (n : Nat) : n + 1 + 1 < n + 1 + 1 + 1 := by omega
@[go_sem] theorem ltUpUp42 (n : Nat) : n + 1 + 1 < n + 1 + 1 + 1 + 1 := by omega
@[go_sem] theorem ltUpUp52 (n : Nat) : n + 1 + 1 < n + 1 + 1 + 1 + 1 + 1 := by omega
@[go_sem] theorem ltUpUp62 (n : Nat) : n + 1 + 1 < n + 1 + 1 + 1 + 1 + 1 + 1 := by omega
@[go_sem] theorem ltUpUp72 (n : Nat) : n + 1 + 1 < n + 1 + 1 + 1 + 1 + 1 + 1 + 1 := by omega
@[go_sem] theorem ltUpUp82 (n : Nat) : n + 1 + 1 < n + 1 + 1 + 1 + 1 + 1 + 1 + 1 + 1 := by omega
@[go_sem] theorem ltUpUp92 (n : Nat) : n + 1 + 1 < n + 1 + 1 + 1 + 1 + 1 + 1 + 1 + 1 + 1 := by omega
@[go_sem] theorem ltUpUp43 (n : Nat) : n + 1 + 1 + 1 < n + 1 + 1 + 1 + 1 := by omega
@[go_sem] theorem ltUpUp53 (n : Nat) : n + 1 + 1 + 1 < n + 1 + 1 + 1 + 1 + 1 := by omega
@[go_sem] theorem ltUpUp63 (n : Nat) : n + 1 + 1 + 1 < n + 1 + 1 + 1 + 1 + 1 + 1 := by omega
@[go_sem] theorem ltUpUp73 (n : Nat) : n + 1 + 1 + 1 < n + 1 + 1 + 1 + 1 + 1 + 1 + 1 := by omega
@[go_sem] theorem ltUpUp83 (n : Nat) : n + 1 + 1 + 1 < n + 1 + 1 + 1 + 1 + 1 + 1 + 1 + 1 := by omega
@[go_sem] theorem ltUpUp93 (n : Nat) : n + 1 + 1 + 1 < n + 1 + 1 + 1 + 1 + 1 + 1 + 1 + 1 + 1 := by omega
/-- Each value is one cell. -/
def OneC (c : Array Value) : Bool := c.all (·.oneCell')
end Go.Proofs.Ytmbkkdojjfdliaa
