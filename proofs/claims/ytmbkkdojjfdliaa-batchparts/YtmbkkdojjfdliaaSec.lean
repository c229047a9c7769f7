
import Derived.Test.YtmbkkdojjfdliaaRows
import Derived.Test.YtmbkkdojjfdliaaNum
import Derived.WalkKit
import Derived.WalkSpells
import Derived.WalkLawsBesides
import Derived.Deep.WholeRow
import Derived.Laws.CopyRow
import Derived.Stop.BytesEq
namespace Go.Proofs.Ytmbkkdojjfdliaa
open Go.RowKit

/-! A sector as a function from places to bytes, its cells, and the model's operations on whole sectors. -/

def secA (s : Nat → UInt8) : Array Value := Array.ofFn (n := 64) fun i => Value.int .u8 ((s i).toNat : Int)
def secZ : Nat → UInt8 := fun _ => 0
def secEq (s t : Nat → UInt8) : Bool := (List.range 64).all fun i => s i == t i

@[simp, go_sem] theorem secA_size (s : Nat → UInt8) : (secA s).size = 64 := by simp [secA]
theorem secA_get (s : Nat → UInt8) (i : Nat) (h : i < 64) : (secA s)[i]? = some (Value.int .u8 ((s i).toNat : Int)) := by simp [secA, h]
@[simp, go_sem] theorem secA_getElem (s : Nat → UInt8) (i : Nat) (h : i < (secA s).size) : (secA s)[i] = Value.int .u8 ((s i).toNat : Int) := by simp [secA]
theorem secEq_iff (s t : Nat → UInt8) : secEq s t = true ↔ ∀ i, i < 64 → s i = t i := by simp [secEq]
theorem secA_inj (s t : Nat → UInt8) : secA s = secA t ↔ ∀ i, i < 64 → s i = t i := by
  constructor
  · intro h i hi
    have := congrArg (fun c => c[i]?) h
    simp only [secA_get s i hi, secA_get t i hi, Option.some.injEq, Value.int.injEq, true_and] at this
    exact UInt8.toNat_inj.1 (by omega)
  · intro h
    apply Array.ext_getElem?
    intro i
    by_cases hi : i < 64
    · rw [secA_get s i hi, secA_get t i hi, h i hi]
    · rw [Array.getElem?_eq_none (by simp; omega), Array.getElem?_eq_none (by simp; omega)]
theorem secA_one (s : Nat → UInt8) : (secA s).all (·.oneCell') = true := by
  rw [Array.all_eq_true_iff_forall_mem]
  intro v hv
  simp only [secA, Array.mem_ofFn] at hv
  obtain ⟨i, rfl⟩ := hv
  rfl
theorem secA_set (s : Nat → UInt8) (i : Nat) (b : UInt8) (h : i < 64) : (secA s).setIfInBounds i (Value.int .u8 (b.toNat : Int)) = secA (upd s i b) := by
  apply Array.ext_getElem?
  intro j
  by_cases hj : j < 64
  · rw [secA_get _ j hj]
    by_cases e : i = j
    · subst e; simp [upd, h]
    · rw [Array.getElem?_setIfInBounds_ne e, secA_get s j hj]; simp [upd, Ne.symm e]
  · rw [Array.getElem?_eq_none (by simp; omega), Array.getElem?_eq_none (by simp; omega)]
theorem secA_of (c : Array Value) (hs : c.size = 64) (h : ∀ i, i < 64 → ∃ x : Int, c[i]? = some (Value.int .u8 x) ∧ 0 ≤ x ∧ x ≤ 255) : ∃ s, c = secA s := by
  refine ⟨fun i => match c[i]? with | some (Value.int _ x) => UInt8.ofNat x.toNat | _ => 0, ?_⟩
  apply Array.ext_getElem?
  intro i
  by_cases hi : i < 64
  · obtain ⟨x, hx, h0, h1⟩ := h i hi
    rw [secA_get _ i hi, hx]
    simp only [UInt8.toNat_ofNat', Option.some.injEq, Value.int.injEq, true_and]
    omega
  · rw [Array.getElem?_eq_none (by omega), Array.getElem?_eq_none (by simp; omega)]

/-- The cells of a block; is it a row of 64 that may be written? -/
def rowAt (w : World) (n : Nat) : Array Value := match w.heap[n]? with | some (.cells c _ _) => c | _ => #[]
def rowOk (w : World) (n : Nat) : Bool := match w.heap[n]? with | some (.cells c _ fr) => c.size == 64 && fr == (0, 0) | _ => false
@[go_sem] theorem rowAt_drew (w : World) (n : Nat) : rowAt w.drew n = rowAt w n := rfl
@[go_sem] theorem rowOk_drew (w : World) (n : Nat) : rowOk w.drew n = rowOk w n := rfl
@[go_sem] theorem setRow_drew' (w : World) (n : Nat) (c : Array Value) : w.drew.setRow n c = (w.setRow n c).drew := rfl
@[go_sem] theorem rowAt_new (w : World) (n : Nat) (c : Array Value) (t : TypeId) (h : n = w.heap.size) : rowAt (w.alloc (.cells c t)) n = c := by
  subst h; unfold rowAt; rw [heap_alloc_last]
@[go_sem] theorem rowOk_new (w : World) (n : Nat) (c : Array Value) (t : TypeId) (h : n = w.heap.size) (hc : c.size = 64) : rowOk (w.alloc (.cells c t)) n = true := by
  subst h; unfold rowOk; rw [heap_alloc_last]; simp [hc]
@[go_sem] theorem rowAt_old (w : World) (n : Nat) (o : Obj) (h : n < w.heap.size) : rowAt (w.alloc o) n = rowAt w n := by
  unfold rowAt; rw [Below.heap_alloc w o n h]
@[go_sem] theorem rowOk_old (w : World) (n : Nat) (o : Obj) (h : n < w.heap.size) : rowOk (w.alloc o) n = rowOk w n := by
  unfold rowOk; rw [Below.heap_alloc w o n h]
@[go_sem] theorem setRow_new (w : World) (n : Nat) (c c' : Array Value) (t : TypeId) (h : n = w.heap.size) : (w.alloc (.cells c t)).setRow n c' = w.alloc (.cells c' t) := by
  subst h; exact World.setRow_alloc_new w c c' t
@[go_sem] theorem setRow_old (w : World) (n : Nat) (c' : Array Value) (o : Obj) (h : n < w.heap.size) : (w.alloc o).setRow n c' = (w.setRow n c').alloc o := by
  simp only [World.setRow, World.alloc]
  congr 1
  apply Array.ext_getElem?
  intro i
  rw [Array.getElem?_modify]
  simp only [Array.getElem?_push, Array.size_modify, Array.getElem?_modify]
  by_cases h1 : n = i
  · subst h1
    have : ¬ n = w.heap.size := by omega
    simp [this]
  · simp [h1]
theorem row_of_ok {w : World} {n : Nat} (h : rowOk w n = true) : ∃ t, w.heap[n]? = some (.cells (rowAt w n) t (0, 0)) ∧ (rowAt w n).size = 64 := by
  unfold rowOk at h
  unfold rowAt
  cases hq : w.heap[n]? with
  | none => simp [hq] at h
  | some o =>
    cases o with
    | cells c t fr =>
      simp [hq] at h
      obtain ⟨h1, h2⟩ := h
      subst h2
      exact ⟨t, rfl, h1⟩
    | _ => simp [hq] at h

@[go_sem] theorem rowAt_setRow_same (w : World) (n : Nat) (c : Array Value) (h : rowOk w n = true) : rowAt (w.setRow n c) n = c := by
  obtain ⟨t, hg, _⟩ := row_of_ok h
  unfold rowAt; rw [setRow_heap w n _ c t _ hg]
@[go_sem] theorem rowOk_setRow_same (w : World) (n : Nat) (c : Array Value) (h : rowOk w n = true) (hc : c.size = 64) : rowOk (w.setRow n c) n = true := by
  obtain ⟨t, hg, _⟩ := row_of_ok h
  unfold rowOk; rw [setRow_heap w n _ c t _ hg]; simp [hc]
theorem rowAt_setRow_other (w : World) (n m : Nat) (c : Array Value) (h : n ≠ m) : rowAt (w.setRow m c) n = rowAt w n := by
  unfold rowAt; rw [setRow_other w m n c h]
theorem rowOk_setRow_other (w : World) (n m : Nat) (c : Array Value) (h : n ≠ m) : rowOk (w.setRow m c) n = rowOk w n := by
  unfold rowOk; rw [setRow_other w m n c h]
/-- Behind a call that has turned nothing old: the old rows are as they were. -/
theorem rows_below {B : Nat} {W w1 : World} (hb : Below B W w1) : (∀ n, n < B → rowOk w1 n = rowOk W n) ∧ (∀ n, n < B → rowAt w1 n = rowAt W n) :=
  ⟨fun n h => by unfold rowOk; rw [hb.block n h], fun n h => by unfold rowAt; rw [hb.block n h]⟩
theorem after {W w1 : World} (hb : Below W.heap.size W w1) : (∀ n, n < W.heap.size → rowOk w1 n = rowOk W n) ∧ (∀ n, n < W.heap.size → rowAt w1 n = rowAt W n) ∧
    (∀ b o, b < W.heap.size → w1.cell? ⟨b, o, none⟩ = W.cell? ⟨b, o, none⟩) ∧ (∀ b o, b < W.heap.size → w1.frozen? ⟨b, o, none⟩ = W.frozen? ⟨b, o, none⟩) ∧ W.heap.size ≤ w1.heap.size :=
  ⟨(rows_below hb).1, (rows_below hb).2, fun b o h => hb.cell (p := ⟨b, o, none⟩) h, fun b o h => hb.frozen (p := ⟨b, o, none⟩) h, hb.size⟩
theorem keepRow {B n : Nat} {W w1 : World} {c : Array Value} (hb : Below B W w1) (h : n < B) (hk : rowOk W n = true) (hc : rowAt W n = c) : rowOk w1 n = true ∧ rowAt w1 n = c :=
  ⟨by rw [(rows_below hb).1 n h]; exact hk, by rw [(rows_below hb).2 n h]; exact hc⟩
theorem below_row {B n : Nat} {w0 w : World} (hb : Below B w0 w) (h : B ≤ n) (c : Array Value) : Below B w0 (w.setRow n c) :=
  ⟨hb.os, hb.tape, hb.output, by simpa using hb.size, fun k hk => by rw [setRow_other w n k c (by omega)]; exact hb.block k hk⟩

theorem cell_rowAt {w : World} {n : Nat} (h : rowOk w n = true) (i : Nat) : w.cell? ⟨n, i, none⟩ = (rowAt w n)[i]? := by
  obtain ⟨t, hg, _⟩ := row_of_ok h
  exact cell_of_row w n i _ t _ hg
theorem lt_of_rowOk {w : World} {n : Nat} (h : rowOk w n = true) : n < w.heap.size := by
  obtain ⟨t, hg, _⟩ := row_of_ok h
  exact (Array.getElem?_eq_some_iff.1 hg).1
/-- Nothing below B has turned, and the row k, not below B, holds s. -/
def Held (B k : Nat) (W : World) (s : Nat → UInt8) (w : World) : Prop := B ≤ k ∧ Below B W w ∧ rowOk w k = true ∧ rowAt w k = secA s
theorem Held.below {B k : Nat} {W w w1 : World} {s : Nat → UInt8} (h : Held B k W s w) (hb : Below w.heap.size w w1) : Held B k W s w1 := by
  obtain ⟨h0, h1, h2, h3⟩ := h
  have h9 := lt_of_rowOk h2
  obtain ⟨h4, h5⟩ := keepRow hb h9 h2 h3
  exact ⟨h0, h1.trans (hb.mono (by omega)), h4, h5⟩
theorem Held.drew {B k : Nat} {W w : World} {s : Nat → UInt8} (h : Held B k W s w) : Held B k W s w.drew := ⟨h.1, h.2.1.drew, h.2.2.1, h.2.2.2⟩
theorem Held.cell {B k : Nat} {W w : World} {s : Nat → UInt8} (h : Held B k W s w) (i : Nat) (hi : i < 64) : w.cell? ⟨k, i, none⟩ = some (Value.int .u8 ((s i).toNat : Int)) := by
  rw [cell_rowAt h.2.2.1, h.2.2.2, secA_get s i hi]
theorem Held.start (w : World) (s : Nat → UInt8) (t : TypeId) : Held w.heap.size w.heap.size w s (w.alloc (.cells (secA s) t)) :=
  ⟨Nat.le_refl _, (Below.refl _ _).alloc (Nat.le_refl _) _, rowOk_new _ _ _ _ rfl (secA_size _), rowAt_new _ _ _ _ rfl⟩

theorem info27 : (Try.prog.info? 27).map (fun i => (i.zero, i.size)) = some (some (.agg (secA secZ)), 64) := by kernel_rfl
theorem size27 : (Try.prog.info? 27).map (·.size) = some 64 := (zero_of_info info27).2
theorem zero27 (w : World) : (zeroValue 27).run Try.prog w = .ok (.agg (secA secZ)) w := (zero_of_info info27).1 w
theorem sizeE (w : World) : (sizeOf 5).run Try.prog w = .ok 1 w := by kernel_rfl

/-- The operations on whole sectors, as the walk meets them: each under a name of its own, so that the walk opens none cell by cell. -/
def secLoad (p : Value) : Sem Next := do pure (.value (← Instr.loadAt 27 p))
def secStore (p x : Value) : Sem Next := do Instr.storeAt 27 p x; pure .skip
def secAlloc : Sem Next := do pure (.value (← Instr.alloc 27 true (.tuple #[])))
def secBuild : Sem Next := do pure (.value (← Instr.build 27 #[]))
def secBin (op : BinOp) (x y : Operand) (u v : Value) : Sem Next := do pure (.value (← (do eqGuard op 27 x y u v; binOp op 27 u v)))
section
variable (ρ : Operand → Value) (dst : Option Tmp) (ty ty' : TypeId) (pos : String) (after : Array Edge) (guard : Option (Nat × Bool))
@[go_sem ↓] theorem execOp_load_sec (x : Operand) : execOp ρ { dst, op := .load 27 x, type := ty, pos, after, guard } = secLoad (ρ x) := rfl
@[go_sem ↓] theorem execOp_store_sec (x y : Operand) : execOp ρ { dst, op := .store 27 x y, type := ty, pos, after, guard } = secStore (ρ x) (ρ y) := rfl
@[go_sem ↓] theorem execOp_alloc_sec : execOp ρ { dst, op := .alloc 27, type := ty, pos, after, guard } = secAlloc := rfl
@[go_sem ↓] theorem execOp_build_sec : execOp ρ { dst, op := .build 27 #[], type := ty, pos, after, guard } = secBuild := by
  simp [execOp, secBuild]
@[go_sem ↓] theorem execOp_bin_sec (op : BinOp) (x y : Operand) : execOp ρ { dst, op := .binOp op 27 x y ty', type := ty, pos, after, guard } = secBin op x y (ρ x) (ρ y) := rfl
end
@[go_sem] theorem run_secLoad (w : World) (n : Nat) (h : rowOk w n = true) : (secLoad (.pointer (some ⟨n, 0, none⟩))).run Try.prog w = .ok (.value (.agg (rowAt w n))) w := by
  obtain ⟨t, hg, hs⟩ := row_of_ok h
  simp only [secLoad, Instr.loadAt, Instr.sureAddr, Sem.run_bind, Sem.run_pure, Result.andThen_ok]
  rw [run_loadVar_row w n t 27 (rowAt w n) (0, 0) _ hg Try.underlying27 rfl (by rw [size27, hs])]; rfl
@[go_sem] theorem run_secStore (w : World) (n : Nat) (s : Nat → UInt8) (h : rowOk w n = true) : (secStore (.pointer (some ⟨n, 0, none⟩)) (.agg (secA s))).run Try.prog w = .ok .skip (w.setRow n (secA s)) := by
  obtain ⟨t, hg, hs⟩ := row_of_ok h
  simp only [secStore, Instr.storeAt, Instr.sureAddr, Sem.run_bind, Sem.run_pure, Result.andThen_ok]
  rw [run_storeVar_row w n t 27 (rowAt w n) (secA s) hg (by rw [size27]; simp) (by simp [hs]) (secA_one s)]; rfl
@[go_sem] theorem run_secAlloc (w : World) : secAlloc.run Try.prog w = .ok (.value (.pointer (some ⟨w.heap.size, 0, none⟩))) (w.alloc (.cells (secA secZ) 27)) := by
  simp only [secAlloc, Instr.alloc, Sem.run_bind, zero27, Result.andThen_ok]
  rfl
@[go_sem] theorem run_secBuild (w : World) : secBuild.run Try.prog w = .ok (.value (.agg (secA secZ))) w := by
  simp only [secBuild, Sem.run_bind]
  rw [run_build w 27 #[] (secA secZ) (by kernel_rfl)]; rfl
theorem secA_cells (s : Nat → UInt8) : secA s = (((List.range 64).map s).map Extern.Stop.cell).toArray := by
  apply Array.ext_getElem?
  intro i
  by_cases hi : i < 64
  · rw [secA_get s i hi]; simp [hi, Extern.Stop.cell]
  · rw [Array.getElem?_eq_none (by simp; omega), Array.getElem?_eq_none (by simp; omega)]
theorem beq_secL (s t : Nat → UInt8) : (((List.range 64).map s) == ((List.range 64).map t)) = secEq s t := by
  rw [Bool.eq_iff_iff, secEq_iff, beq_iff_eq]
  constructor
  · intro h i hi
    have := congrArg (fun l => l[i]?) h
    simpa [hi] using this
  · intro h
    exact List.map_congr_left fun i hi => h i (by simpa using hi)
theorem run_equal_sec (w : World) (s t : Nat → UInt8) : (Op.equalIn 10000 27 (.agg (secA s)) (.agg (secA t))).run Try.prog w = .ok (secEq s t) w := by
  rw [secA_cells, secA_cells, run_equalIn_bytes w 9998 27 5 64 Try.underlying27 Try.underlying5 sizeE _ _ (by simp) (by simp), beq_secL]
theorem eqGuard_sec (w : World) (op : BinOp) (x y : Operand) (xs ys : Array Value) : (eqGuard op 27 x y (.agg xs) (.agg ys)).run Try.prog w = .ok () w :=
  run_eqGuard_agg w op 27 x y xs ys (by kernel_rfl)
@[go_sem] theorem run_secEql (w : World) (x y : Operand) (s t : Nat → UInt8) : (secBin .eql x y (.agg (secA s)) (.agg (secA t))).run Try.prog w = .ok (.value (.bool (secEq s t))) w := by
  simp only [secBin, Sem.run_bind, eqGuard_sec, Result.andThen_ok]
  rw [run_eql_struct, run_equal_sec]; rfl
@[go_sem] theorem run_secNeq (w : World) (x y : Operand) (s t : Nat → UInt8) : (secBin .neq x y (.agg (secA s)) (.agg (secA t))).run Try.prog w = .ok (.value (.bool (!secEq s t))) w := by
  simp only [secBin, Sem.run_bind, eqGuard_sec, Result.andThen_ok]
  rw [run_neq_struct, run_equal_sec]; rfl

/-- One row's bytes laid into another's. -/
theorem secA_blit (s t : Nat → UInt8) (o p m : Nat) (h : o + m ≤ 64) (h' : p + m ≤ 64) :
    ((secA s).toList.take o ++ ((secA t).toList.drop p).take m ++ (secA s).toList.drop (o + m)).toArray = secA (blit s o t p m) := by
  apply Array.ext_getElem?
  intro i
  by_cases hi : i < 64
  · rw [secA_get _ i hi]
    have hs : (secA s).toList.length = 64 := by simp
    have ht : (secA t).toList.length = 64 := by simp
    simp only [List.getElem?_toArray, List.append_assoc]
    by_cases h1 : i < o
    · rw [List.getElem?_append_left (by simp; omega), List.getElem?_take, if_pos h1, Array.getElem?_toList, secA_get s i hi]
      unfold blit; rw [if_neg (by omega)]
    · rw [List.getElem?_append_right (by simp; omega)]
      have e1 : (List.take o (secA s).toList).length = o := by simp; omega
      rw [e1]
      by_cases h2 : i < o + m
      · rw [List.getElem?_append_left (by simp; omega), List.getElem?_take, if_pos (by omega), List.getElem?_drop, Array.getElem?_toList, secA_get t _ (by omega)]
        unfold blit; rw [if_pos (by omega)]
      · have e2 : (List.take m (List.drop p (secA t).toList)).length = m := by simp; omega
        rw [List.getElem?_append_right (by omega), e2, List.getElem?_drop, Array.getElem?_toList, show o + m + (i - o - m) = i by omega, secA_get s i hi]
        unfold blit; rw [if_neg (by omega)]
  · rw [Array.getElem?_eq_none (by simp; omega), Array.getElem?_eq_none (by simp; omega)]
/-- 's[a:]' of a sector's variable. -/
theorem run_sliceAt_lo (w : World) (n a : Nat) (h : a ≤ 64) :
    (Instr.sliceAt 27 (.pointer (some ⟨n, 0, none⟩)) (some (.int .i64 (a : Int))) none none).run Try.prog w = .ok (.slice (some (if 64 = a then ⟨n, 0, none⟩ else ⟨n, a, none⟩)) (64 - a) (64 - a)) w := by
  have hadd : (⟨n, 0, none⟩ : Addr).add a = ⟨n, a, none⟩ := by unfold Addr.add; split <;> simp_all
  have hc : (a : Int) ≤ 64 := by omega
  simp [Instr.sliceAt, Instr.sureAddr, run_underlying Try.underlying27, Instr.sliceBounds, run_sliceBound, hc, hadd]

/-- 's[a:a+m]' of a sector's variable. -/
theorem run_sliceAt_lh (w : World) (n a m : Nat) (h : a + m ≤ 64) :
    (Instr.sliceAt 27 (.pointer (some ⟨n, 0, none⟩)) (some (.int .i64 (a : Int))) (some (.int .i64 ((a : Int) + (m : Int)))) none).run Try.prog w = .ok (.slice (some (if 64 = a then ⟨n, 0, none⟩ else ⟨n, a, none⟩)) m (64 - a)) w := by
  have hadd : (⟨n, 0, none⟩ : Addr).add a = ⟨n, a, none⟩ := by unfold Addr.add; split <;> simp_all
  have hc : (a : Int) + (m : Int) ≤ 64 := by omega
  have h0 : 0 ≤ (a : Int) + (m : Int) := by omega
  have e : ((a : Int) + (m : Int)).toNat = a + m := by omega
  have hb : ∀ W : World, (Instr.sliceBound (.int .i64 (a : Int)) (a + m) BoundsCode.sliceB).run Try.prog W = .ok a W := fun W => by
    have := run_sliceBound (P := Try.prog) W .i64 (a : Int) (a + m) BoundsCode.sliceB (by omega) (by omega)
    simpa using this
  simp [Instr.sliceAt, Instr.sureAddr, run_underlying Try.underlying27, Instr.sliceBounds, run_sliceBound, hc, h0, e, hb, hadd]

/-- A call that hands a sector back out of its result's variable. -/
theorem bodyPost_sec {fn : Func} {R : Ending → World → Prop} {a : Act} {w : World} (p n : Nat) (hres : fn.results = #[.cell p 27]) (hp : a.tmps.getD p undef = .pointer (some ⟨n, 0, none⟩)) (hd : a.defers = [])
    (hok : rowOk w n = true) (h : R (.returned (.agg (rowAt w n))) w) : bodyPost Try.prog fn R .ret a w := by
  obtain ⟨t, hg, hs⟩ := row_of_ok hok
  exact bodyPost_ret (results_cell_row hres a.tmps w n t (rowAt w n) (0, 0) _ hp hg Try.underlying27 rfl (by rw [size27, hs])) hd h

theorem heap_setCell (w : World) (g i : Nat) (v : Value) (c : Array Value) (t : TypeId) (fr : Nat × Nat) (h : w.heap[g]? = some (.cells c t fr)) : (w.setCell ⟨g, i, none⟩ v).heap[g]? = some (.cells (c.setIfInBounds i v) t fr) := by
  unfold World.setCell
  rw [Array.getElem?_modify, if_pos rfl, h]
  rfl
theorem below_alloc (w : World) (o : Obj) : Below w.heap.size w (w.alloc o) := (Below.refl _ _).alloc (Nat.le_refl _) _
theorem heap_new (w : World) (o : Obj) : (w.alloc o).heap[w.heap.size]? = some o := by unfold World.alloc; exact Array.getElem?_push_size
theorem heap_old (w : World) (o : Obj) (n : Nat) (h : n < w.heap.size) : (w.alloc o).heap[n]? = w.heap[n]? := Below.heap_alloc w o n h
end Go.Proofs.Ytmbkkdojjfdliaa
