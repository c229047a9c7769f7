import Derived.Test.YtklbdhpnbjhgkaaGreatDoorRows
import Derived.Test.YtklbdhpnbjhgkaaGreatDoorQNum
import Derived.WalkKit
import Derived.WalkSpells
import Derived.WalkLawsBesides
import Derived.Deep.WholeRow
import Derived.Laws.CopyRow
import Derived.Stop.BytesEq
namespace Go.Proofs.YtklbdhpnbjhgkaaGreatDoor
open Go.RowKit

/-! A sector as a function from places to bytes, its cells, and the model's operations on whole sectors. -/

def dg_secA (s : Nat → UInt8) : Array Value := Array.ofFn (n := 32) fun i => Value.int .u8 ((s i).toNat : Int)
def dg_secZ : Nat → UInt8 := fun _ => 0
def dg_secEq (s t : Nat → UInt8) : Bool := (List.range 32).all fun i => s i == t i

@[simp, go_sem] theorem dg_secA_size (s : Nat → UInt8) : (dg_secA s).size = 32 := by simp [dg_secA]
theorem dg_secA_get (s : Nat → UInt8) (i : Nat) (h : i < 32) : (dg_secA s)[i]? = some (Value.int .u8 ((s i).toNat : Int)) := by simp [dg_secA, h]
@[simp, go_sem] theorem dg_secA_getElem (s : Nat → UInt8) (i : Nat) (h : i < (dg_secA s).size) : (dg_secA s)[i] = Value.int .u8 ((s i).toNat : Int) := by simp [dg_secA]
theorem dg_secEq_iff (s t : Nat → UInt8) : dg_secEq s t = true ↔ ∀ i, i < 32 → s i = t i := by simp [dg_secEq]
theorem dg_secA_inj (s t : Nat → UInt8) : dg_secA s = dg_secA t ↔ ∀ i, i < 32 → s i = t i := by
  constructor
  · intro h i hi
    have := congrArg (fun c => c[i]?) h
    simp only [dg_secA_get s i hi, dg_secA_get t i hi, Option.some.injEq, Value.int.injEq, true_and] at this
    exact UInt8.toNat_inj.1 (by omega)
  · intro h
    apply Array.ext_getElem?
    intro i
    by_cases hi : i < 32
    · rw [dg_secA_get s i hi, dg_secA_get t i hi, h i hi]
    · rw [Array.getElem?_eq_none (by simp; omega), Array.getElem?_eq_none (by simp; omega)]
theorem dg_secA_one (s : Nat → UInt8) : (dg_secA s).all (·.oneCell') = true := by
  rw [Array.all_eq_true_iff_forall_mem]
  intro v hv
  simp only [dg_secA, Array.mem_ofFn] at hv
  obtain ⟨i, rfl⟩ := hv
  rfl
theorem dg_secA_set (s : Nat → UInt8) (i : Nat) (b : UInt8) (h : i < 32) : (dg_secA s).setIfInBounds i (Value.int .u8 (b.toNat : Int)) = dg_secA (upd s i b) := by
  apply Array.ext_getElem?
  intro j
  by_cases hj : j < 32
  · rw [dg_secA_get _ j hj]
    by_cases e : i = j
    · subst e; simp [upd, h]
    · rw [Array.getElem?_setIfInBounds_ne e, dg_secA_get s j hj]; simp [upd, Ne.symm e]
  · rw [Array.getElem?_eq_none (by simp; omega), Array.getElem?_eq_none (by simp; omega)]
theorem dg_secA_of (c : Array Value) (hs : c.size = 32) (h : ∀ i, i < 32 → ∃ x : Int, c[i]? = some (Value.int .u8 x) ∧ 0 ≤ x ∧ x ≤ 255) : ∃ s, c = dg_secA s := by
  refine ⟨fun i => match c[i]? with | some (Value.int _ x) => UInt8.ofNat x.toNat | _ => 0, ?_⟩
  apply Array.ext_getElem?
  intro i
  by_cases hi : i < 32
  · obtain ⟨x, hx, h0, h1⟩ := h i hi
    rw [dg_secA_get _ i hi, hx]
    simp only [UInt8.toNat_ofNat', Option.some.injEq, Value.int.injEq, true_and]
    omega
  · rw [Array.getElem?_eq_none (by omega), Array.getElem?_eq_none (by simp; omega)]

/-- The cells of a block; is it a row of 32 that may be written? -/
def dg_rowAt (w : World) (n : Nat) : Array Value := match w.heap[n]? with | some (.cells c _ _) => c | _ => #[]
def dg_rowOk (w : World) (n : Nat) : Bool := match w.heap[n]? with | some (.cells c _ fr) => c.size == 32 && fr == (0, 0) | _ => false
@[go_sem] theorem dg_rowAt_drew (w : World) (n : Nat) : dg_rowAt w.drew n = dg_rowAt w n := rfl
@[go_sem] theorem dg_rowOk_drew (w : World) (n : Nat) : dg_rowOk w.drew n = dg_rowOk w n := rfl
@[go_sem] theorem dg_setRow_drew' (w : World) (n : Nat) (c : Array Value) : w.drew.setRow n c = (w.setRow n c).drew := rfl
@[go_sem] theorem dg_rowAt_new (w : World) (n : Nat) (c : Array Value) (t : TypeId) (h : n = w.heap.size) : dg_rowAt (w.alloc (.cells c t)) n = c := by
  subst h; unfold dg_rowAt; rw [heap_alloc_last]
@[go_sem] theorem dg_rowOk_new (w : World) (n : Nat) (c : Array Value) (t : TypeId) (h : n = w.heap.size) (hc : c.size = 32) : dg_rowOk (w.alloc (.cells c t)) n = true := by
  subst h; unfold dg_rowOk; rw [heap_alloc_last]; simp [hc]
@[go_sem] theorem dg_rowAt_old (w : World) (n : Nat) (o : Obj) (h : n < w.heap.size) : dg_rowAt (w.alloc o) n = dg_rowAt w n := by
  unfold dg_rowAt; rw [Below.heap_alloc w o n h]
@[go_sem] theorem dg_rowOk_old (w : World) (n : Nat) (o : Obj) (h : n < w.heap.size) : dg_rowOk (w.alloc o) n = dg_rowOk w n := by
  unfold dg_rowOk; rw [Below.heap_alloc w o n h]
@[go_sem] theorem dg_setRow_new (w : World) (n : Nat) (c c' : Array Value) (t : TypeId) (h : n = w.heap.size) : (w.alloc (.cells c t)).setRow n c' = w.alloc (.cells c' t) := by
  subst h; exact World.setRow_alloc_new w c c' t
@[go_sem] theorem dg_setRow_old (w : World) (n : Nat) (c' : Array Value) (o : Obj) (h : n < w.heap.size) : (w.alloc o).setRow n c' = (w.setRow n c').alloc o := by
  simp only [World.setRow, World.alloc]
  congr 1
  apply Array.ext_getElem?
  intro i
  rw [Array.getElem?_modify]
  simp only [Array.getElem?_push, Array.size_modify, Array.getElem?_modify]
  by_cases h1 : n = i
  · subst h1
    have : ¬ n = w.heap.size := by omega
    simp [this]
  · simp [h1]
theorem dg_row_of_ok {w : World} {n : Nat} (h : dg_rowOk w n = true) : ∃ t, w.heap[n]? = some (.cells (dg_rowAt w n) t (0, 0)) ∧ (dg_rowAt w n).size = 32 := by
  unfold dg_rowOk at h
  unfold dg_rowAt
  cases hq : w.heap[n]? with
  | none => simp [hq] at h
  | some o =>
    cases o with
    | cells c t fr =>
      simp [hq] at h
      obtain ⟨h1, h2⟩ := h
      subst h2
      exact ⟨t, rfl, h1⟩
    | _ => simp [hq] at h

@[go_sem] theorem dg_rowAt_setRow_same (w : World) (n : Nat) (c : Array Value) (h : dg_rowOk w n = true) : dg_rowAt (w.setRow n c) n = c := by
  obtain ⟨t, hg, _⟩ := dg_row_of_ok h
  unfold dg_rowAt; rw [setRow_heap w n _ c t _ hg]
@[go_sem] theorem dg_rowOk_setRow_same (w : World) (n : Nat) (c : Array Value) (h : dg_rowOk w n = true) (hc : c.size = 32) : dg_rowOk (w.setRow n c) n = true := by
  obtain ⟨t, hg, _⟩ := dg_row_of_ok h
  unfold dg_rowOk; rw [setRow_heap w n _ c t _ hg]; simp [hc]
theorem dg_rowAt_setRow_other (w : World) (n m : Nat) (c : Array Value) (h : n ≠ m) : dg_rowAt (w.setRow m c) n = dg_rowAt w n := by
  unfold dg_rowAt; rw [setRow_other w m n c h]
theorem dg_rowOk_setRow_other (w : World) (n m : Nat) (c : Array Value) (h : n ≠ m) : dg_rowOk (w.setRow m c) n = dg_rowOk w n := by
  unfold dg_rowOk; rw [setRow_other w m n c h]
/-- Behind a call that has turned nothing old: the old rows are as they were. -/
theorem dg_rows_below {B : Nat} {W w1 : World} (hb : Below B W w1) : (∀ n, n < B → dg_rowOk w1 n = dg_rowOk W n) ∧ (∀ n, n < B → dg_rowAt w1 n = dg_rowAt W n) :=
  ⟨fun n h => by unfold dg_rowOk; rw [hb.block n h], fun n h => by unfold dg_rowAt; rw [hb.block n h]⟩
theorem dg_after {W w1 : World} (hb : Below W.heap.size W w1) : (∀ n, n < W.heap.size → dg_rowOk w1 n = dg_rowOk W n) ∧ (∀ n, n < W.heap.size → dg_rowAt w1 n = dg_rowAt W n) ∧
    (∀ b o, b < W.heap.size → w1.cell? ⟨b, o, none⟩ = W.cell? ⟨b, o, none⟩) ∧ (∀ b o, b < W.heap.size → w1.frozen? ⟨b, o, none⟩ = W.frozen? ⟨b, o, none⟩) ∧ W.heap.size ≤ w1.heap.size :=
  ⟨(dg_rows_below hb).1, (dg_rows_below hb).2, fun b o h => hb.cell (p := ⟨b, o, none⟩) h, fun b o h => hb.frozen (p := ⟨b, o, none⟩) h, hb.size⟩
theorem dg_keepRow {B n : Nat} {W w1 : World} {c : Array Value} (hb : Below B W w1) (h : n < B) (hk : dg_rowOk W n = true) (hc : dg_rowAt W n = c) : dg_rowOk w1 n = true ∧ dg_rowAt w1 n = c :=
  ⟨by rw [(dg_rows_below hb).1 n h]; exact hk, by rw [(dg_rows_below hb).2 n h]; exact hc⟩
theorem dg_below_row {B n : Nat} {w0 w : World} (hb : Below B w0 w) (h : B ≤ n) (c : Array Value) : Below B w0 (w.setRow n c) :=
  ⟨hb.os, hb.tape, hb.output, by simpa using hb.size, fun k hk => by rw [setRow_other w n k c (by omega)]; exact hb.block k hk⟩

theorem dg_cell_rowAt {w : World} {n : Nat} (h : dg_rowOk w n = true) (i : Nat) : w.cell? ⟨n, i, none⟩ = (dg_rowAt w n)[i]? := by
  obtain ⟨t, hg, _⟩ := dg_row_of_ok h
  exact cell_of_row w n i _ t _ hg
theorem dg_lt_of_rowOk {w : World} {n : Nat} (h : dg_rowOk w n = true) : n < w.heap.size := by
  obtain ⟨t, hg, _⟩ := dg_row_of_ok h
  exact (Array.getElem?_eq_some_iff.1 hg).1
/-- Nothing below B has turned, and the row k, not below B, holds s. -/
def dg_Held (B k : Nat) (W : World) (s : Nat → UInt8) (w : World) : Prop := B ≤ k ∧ Below B W w ∧ dg_rowOk w k = true ∧ dg_rowAt w k = dg_secA s
theorem dg_Held.below {B k : Nat} {W w w1 : World} {s : Nat → UInt8} (h : dg_Held B k W s w) (hb : Below w.heap.size w w1) : dg_Held B k W s w1 := by
  obtain ⟨h0, h1, h2, h3⟩ := h
  have h9 := dg_lt_of_rowOk h2
  obtain ⟨h4, h5⟩ := dg_keepRow hb h9 h2 h3
  exact ⟨h0, h1.trans (hb.mono (by omega)), h4, h5⟩
theorem dg_Held.drew {B k : Nat} {W w : World} {s : Nat → UInt8} (h : dg_Held B k W s w) : dg_Held B k W s w.drew := ⟨h.1, h.2.1.drew, h.2.2.1, h.2.2.2⟩
theorem dg_Held.cell {B k : Nat} {W w : World} {s : Nat → UInt8} (h : dg_Held B k W s w) (i : Nat) (hi : i < 32) : w.cell? ⟨k, i, none⟩ = some (Value.int .u8 ((s i).toNat : Int)) := by
  rw [dg_cell_rowAt h.2.2.1, h.2.2.2, dg_secA_get s i hi]
theorem dg_Held.start (w : World) (s : Nat → UInt8) (t : TypeId) : dg_Held w.heap.size w.heap.size w s (w.alloc (.cells (dg_secA s) t)) :=
  ⟨Nat.le_refl _, (Below.refl _ _).alloc (Nat.le_refl _) _, dg_rowOk_new _ _ _ _ rfl (dg_secA_size _), dg_rowAt_new _ _ _ _ rfl⟩

theorem info50 : (Tryz.prog.info? 50).map (fun i => (i.zero, i.size)) = some (some (.agg (dg_secA dg_secZ)), 32) := by kernel_rfl
theorem size50 : (Tryz.prog.info? 50).map (·.size) = some 32 := (zero_of_info info50).2
theorem zero50 (w : World) : (zeroValue 50).run Tryz.prog w = .ok (.agg (dg_secA dg_secZ)) w := (zero_of_info info50).1 w
theorem dg_sizeE (w : World) : (sizeOf 5).run Tryz.prog w = .ok 1 w := by kernel_rfl

/-- The operations on whole sectors, as the walk meets them: each under a name of its own, so that the walk opens none cell by cell. -/
def dg_secLoad (p : Value) : Sem Next := do pure (.value (← Instr.loadAt 50 p))
def dg_secStore (p x : Value) : Sem Next := do Instr.storeAt 50 p x; pure .skip
def dg_secAlloc : Sem Next := do pure (.value (← Instr.alloc 50 true (.tuple #[])))
def dg_secBuild : Sem Next := do pure (.value (← Instr.build 50 #[]))
def dg_secBin (op : BinOp) (x y : Operand) (u v : Value) : Sem Next := do pure (.value (← (do eqGuard op 50 x y u v; binOp op 50 u v)))
section
variable (ρ : Operand → Value) (dst : Option Tmp) (ty ty' : TypeId) (pos : String) (after : Array Edge) (guard : Option (Nat × Bool))
@[go_sem ↓] theorem dg_execOp_load_sec (x : Operand) : execOp ρ { dst, op := .load 50 x, type := ty, pos, after, guard } = dg_secLoad (ρ x) := rfl
@[go_sem ↓] theorem dg_execOp_store_sec (x y : Operand) : execOp ρ { dst, op := .store 50 x y, type := ty, pos, after, guard } = dg_secStore (ρ x) (ρ y) := rfl
@[go_sem ↓] theorem dg_execOp_alloc_sec : execOp ρ { dst, op := .alloc 50, type := ty, pos, after, guard } = dg_secAlloc := rfl
@[go_sem ↓] theorem dg_execOp_build_sec : execOp ρ { dst, op := .build 50 #[], type := ty, pos, after, guard } = dg_secBuild := by
  simp [execOp, dg_secBuild]
@[go_sem ↓] theorem dg_execOp_bin_sec (op : BinOp) (x y : Operand) : execOp ρ { dst, op := .binOp op 50 x y ty', type := ty, pos, after, guard } = dg_secBin op x y (ρ x) (ρ y) := rfl
end
@[go_sem] theorem dg_run_secLoad (w : World) (n : Nat) (h : dg_rowOk w n = true) : (dg_secLoad (.pointer (some ⟨n, 0, none⟩))).run Tryz.prog w = .ok (.value (.agg (dg_rowAt w n))) w := by
  obtain ⟨t, hg, hs⟩ := dg_row_of_ok h
  simp only [dg_secLoad, Instr.loadAt, Instr.sureAddr, Sem.run_bind, Sem.run_pure, Result.andThen_ok]
  rw [run_loadVar_row w n t 50 (dg_rowAt w n) (0, 0) _ hg Tryz.underlying50 rfl (by rw [size50, hs])]; rfl
@[go_sem] theorem dg_run_secStore (w : World) (n : Nat) (s : Nat → UInt8) (h : dg_rowOk w n = true) : (dg_secStore (.pointer (some ⟨n, 0, none⟩)) (.agg (dg_secA s))).run Tryz.prog w = .ok .skip (w.setRow n (dg_secA s)) := by
  obtain ⟨t, hg, hs⟩ := dg_row_of_ok h
  simp only [dg_secStore, Instr.storeAt, Instr.sureAddr, Sem.run_bind, Sem.run_pure, Result.andThen_ok]
  rw [run_storeVar_row w n t 50 (dg_rowAt w n) (dg_secA s) hg (by rw [size50]; simp) (by simp [hs]) (dg_secA_one s)]; rfl
@[go_sem] theorem dg_run_secAlloc (w : World) : dg_secAlloc.run Tryz.prog w = .ok (.value (.pointer (some ⟨w.heap.size, 0, none⟩))) (w.alloc (.cells (dg_secA dg_secZ) 50)) := by
  simp only [dg_secAlloc, Instr.alloc, Sem.run_bind, zero50, Result.andThen_ok]
  rfl
@[go_sem] theorem dg_run_secBuild (w : World) : dg_secBuild.run Tryz.prog w = .ok (.value (.agg (dg_secA dg_secZ))) w := by
  simp only [dg_secBuild, Sem.run_bind]
  rw [run_build w 50 #[] (dg_secA dg_secZ) (by kernel_rfl)]; rfl
theorem dg_secA_cells (s : Nat → UInt8) : dg_secA s = (((List.range 32).map s).map Extern.Stop.cell).toArray := by
  apply Array.ext_getElem?
  intro i
  by_cases hi : i < 32
  · rw [dg_secA_get s i hi]; simp [hi, Extern.Stop.cell]
  · rw [Array.getElem?_eq_none (by simp; omega), Array.getElem?_eq_none (by simp; omega)]
theorem dg_beq_secL (s t : Nat → UInt8) : (((List.range 32).map s) == ((List.range 32).map t)) = dg_secEq s t := by
  rw [Bool.eq_iff_iff, dg_secEq_iff, beq_iff_eq]
  constructor
  · intro h i hi
    have := congrArg (fun l => l[i]?) h
    simpa [hi] using this
  · intro h
    exact List.map_congr_left fun i hi => h i (by simpa using hi)
theorem dg_run_equal_sec (w : World) (s t : Nat → UInt8) : (Op.equalIn 10000 50 (.agg (dg_secA s)) (.agg (dg_secA t))).run Tryz.prog w = .ok (dg_secEq s t) w := by
  rw [dg_secA_cells, dg_secA_cells, run_equalIn_bytes w 9998 50 5 32 Tryz.underlying50 Tryz.underlying5 dg_sizeE _ _ (by simp) (by simp), dg_beq_secL]
theorem dg_eqGuard_sec (w : World) (op : BinOp) (x y : Operand) (xs ys : Array Value) : (eqGuard op 50 x y (.agg xs) (.agg ys)).run Tryz.prog w = .ok () w :=
  run_eqGuard_agg w op 50 x y xs ys (by kernel_rfl)
@[go_sem] theorem dg_run_secEql (w : World) (x y : Operand) (s t : Nat → UInt8) : (dg_secBin .eql x y (.agg (dg_secA s)) (.agg (dg_secA t))).run Tryz.prog w = .ok (.value (.bool (dg_secEq s t))) w := by
  simp only [dg_secBin, Sem.run_bind, dg_eqGuard_sec, Result.andThen_ok]
  rw [run_eql_struct, dg_run_equal_sec]; rfl
@[go_sem] theorem dg_run_secNeq (w : World) (x y : Operand) (s t : Nat → UInt8) : (dg_secBin .neq x y (.agg (dg_secA s)) (.agg (dg_secA t))).run Tryz.prog w = .ok (.value (.bool (!dg_secEq s t))) w := by
  simp only [dg_secBin, Sem.run_bind, dg_eqGuard_sec, Result.andThen_ok]
  rw [run_neq_struct, dg_run_equal_sec]; rfl

/-- One row's bytes laid into another's. -/
theorem dg_secA_blit (s t : Nat → UInt8) (o p m : Nat) (h : o + m ≤ 32) (h' : p + m ≤ 32) :
    ((dg_secA s).toList.take o ++ ((dg_secA t).toList.drop p).take m ++ (dg_secA s).toList.drop (o + m)).toArray = dg_secA (blit s o t p m) := by
  apply Array.ext_getElem?
  intro i
  by_cases hi : i < 32
  · rw [dg_secA_get _ i hi]
    have hs : (dg_secA s).toList.length = 32 := by simp
    have ht : (dg_secA t).toList.length = 32 := by simp
    simp only [List.getElem?_toArray, List.append_assoc]
    by_cases h1 : i < o
    · rw [List.getElem?_append_left (by simp; omega), List.getElem?_take, if_pos h1, Array.getElem?_toList, dg_secA_get s i hi]
      unfold blit; rw [if_neg (by omega)]
    · rw [List.getElem?_append_right (by simp; omega)]
      have e1 : (List.take o (dg_secA s).toList).length = o := by simp; omega
      rw [e1]
      by_cases h2 : i < o + m
      · rw [List.getElem?_append_left (by simp; omega), List.getElem?_take, if_pos (by omega), List.getElem?_drop, Array.getElem?_toList, dg_secA_get t _ (by omega)]
        unfold blit; rw [if_pos (by omega)]
      · have e2 : (List.take m (List.drop p (dg_secA t).toList)).length = m := by simp; omega
        rw [List.getElem?_append_right (by omega), e2, List.getElem?_drop, Array.getElem?_toList, show o + m + (i - o - m) = i by omega, dg_secA_get s i hi]
        unfold blit; rw [if_neg (by omega)]
  · rw [Array.getElem?_eq_none (by simp; omega), Array.getElem?_eq_none (by simp; omega)]
theorem dg_run_copy_sec (w : World) (g o b p dl dc sl sc : Nat) (ty : TypeId) (s t : Nat → UInt8) (hg : dg_rowOk w g = true) (hb : dg_rowOk w b = true) (es : dg_rowAt w g = dg_secA s) (et : dg_rowAt w b = dg_secA t)
    (m : Nat) (hm : m = Nat.min sl dl) (h : o + m ≤ 32) (h' : p + m ≤ 32) :
    (Builtin.copy_ #[33, 33] ty #[.slice (some ⟨g, o, none⟩) dl dc, .slice (some ⟨b, p, none⟩) sl sc]).run Tryz.prog w = .ok (goInt m) (w.setRow g (dg_secA (blit s o t p m))) := by
  obtain ⟨tg, hg', _⟩ := dg_row_of_ok hg
  obtain ⟨tb, hb', _⟩ := dg_row_of_ok hb
  rw [es] at hg'; rw [et] at hb'
  have hl : (((dg_secA t).toList.drop p).take m).length = m := by simp; omega
  have hadd : ∀ j, (⟨b, p, none⟩ : Addr).add j = ⟨b, p + j, none⟩ := fun j => by unfold Addr.add; split <;> simp_all
  have := run_copy_row (P := Tryz.prog) w 33 33 ty 5 g o dl dc ⟨b, p, none⟩ sl sc (dg_secA s) tg (((dg_secA t).toList.drop p).take m) Tryz.underlying33 (by kernel_rfl) hg' (by rw [hl, hm])
    (fun j v hv => by
      rw [hadd, cell_of_row w b (p + j) _ tb _ hb']
      rw [List.getElem?_take] at hv
      split at hv
      · rwa [List.getElem?_drop, Array.getElem?_toList] at hv
      · cases hv) (by rw [hl]; simpa using h) (fun v hv => by
      have := Array.all_eq_true_iff_forall_mem.1 (dg_secA_one t) v (by
        have := List.mem_of_mem_drop (List.mem_of_mem_take hv)
        simpa using this)
      exact this)
  rw [this, hl, dg_secA_blit s t o p m h h']

/-- 's[a:]' of a sector's variable. -/
theorem dg_run_sliceAt_lo (w : World) (n a : Nat) (h : a ≤ 32) :
    (Instr.sliceAt 50 (.pointer (some ⟨n, 0, none⟩)) (some (.int .i64 (a : Int))) none none).run Tryz.prog w = .ok (.slice (some (if 32 = a then ⟨n, 0, none⟩ else ⟨n, a, none⟩)) (32 - a) (32 - a)) w := by
  have hadd : (⟨n, 0, none⟩ : Addr).add a = ⟨n, a, none⟩ := by unfold Addr.add; split <;> simp_all
  have hc : (a : Int) ≤ 32 := by omega
  simp [Instr.sliceAt, Instr.sureAddr, run_underlying Tryz.underlying50, Instr.sliceBounds, run_sliceBound, hc, hadd]

/-- 's[a:a+m]' of a sector's variable. -/
theorem dg_run_sliceAt_lh (w : World) (n a m : Nat) (h : a + m ≤ 32) :
    (Instr.sliceAt 50 (.pointer (some ⟨n, 0, none⟩)) (some (.int .i64 (a : Int))) (some (.int .i64 ((a : Int) + (m : Int)))) none).run Tryz.prog w = .ok (.slice (some (if 32 = a then ⟨n, 0, none⟩ else ⟨n, a, none⟩)) m (32 - a)) w := by
  have hadd : (⟨n, 0, none⟩ : Addr).add a = ⟨n, a, none⟩ := by unfold Addr.add; split <;> simp_all
  have hc : (a : Int) + (m : Int) ≤ 32 := by omega
  have h0 : 0 ≤ (a : Int) + (m : Int) := by omega
  have e : ((a : Int) + (m : Int)).toNat = a + m := by omega
  have hb : ∀ W : World, (Instr.sliceBound (.int .i64 (a : Int)) (a + m) BoundsCode.sliceB).run Tryz.prog W = .ok a W := fun W => by
    have := run_sliceBound (P := Tryz.prog) W .i64 (a : Int) (a + m) BoundsCode.sliceB (by omega) (by omega)
    simpa using this
  simp [Instr.sliceAt, Instr.sureAddr, run_underlying Tryz.underlying50, Instr.sliceBounds, run_sliceBound, hc, h0, e, hb, hadd]

/-- A call that hands a sector back out of its result's variable. -/
theorem dg_bodyPost_sec {fn : Func} {R : Ending → World → Prop} {a : Act} {w : World} (p n : Nat) (hres : fn.results = #[.cell p 50]) (hp : a.tmps.getD p undef = .pointer (some ⟨n, 0, none⟩)) (hd : a.defers = [])
    (hok : dg_rowOk w n = true) (h : R (.returned (.agg (dg_rowAt w n))) w) : bodyPost Tryz.prog fn R .ret a w := by
  obtain ⟨t, hg, hs⟩ := dg_row_of_ok hok
  exact bodyPost_ret (results_cell_row hres a.tmps w n t (dg_rowAt w n) (0, 0) _ hp hg Tryz.underlying50 rfl (by rw [size50, hs])) hd h

end Go.Proofs.YtklbdhpnbjhgkaaGreatDoor
