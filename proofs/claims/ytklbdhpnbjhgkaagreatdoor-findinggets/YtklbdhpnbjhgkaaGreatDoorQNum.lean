import Derived.WalkKit
import Derived.Laws.BitsAllLaws
import Derived.Test.YtklbdhpnbjhgkaaGreatDoorRows
import Derived.WalkSpells
import Derived.WalkLawsBesides
import Derived.Deep.WholeRow
import Derived.Laws.CopyRow
import Derived.Stop.BytesEq
import Derived.Laws.IdiomStrings
import Derived.BigQuiet
import Derived.Orders
import Derived.Deep.MidRow
import Derived.Deep.AppendSrc
import Derived.Deep.AppendLies
import Derived.Deep.DeepCutAuto
namespace Go.Proofs.YtklbdhpnbjhgkaaGreatDoor
open Go.RowKit

/-! Plain facts on numbers and bytes; nothing of the program. -/

def inB (a n : Int) : Bool := decide (0 ≤ a ∧ 0 ≤ n ∧ n ≤ 64 - a)
theorem inB_iff (a n : Int) : inB a n = true ↔ 0 ≤ a ∧ 0 ≤ n ∧ n ≤ 64 - a := by simp [inB]
def upd (s : Nat → UInt8) (i : Nat) (b : UInt8) : Nat → UInt8 := fun j => if j = i then b else s j

/-- The number of the first k bytes from a on, the lowest first. -/
def numN (s : Nat → UInt8) (a : Nat) : Nat → Nat
  | 0 => 0
  | k + 1 => numN s a k + (s (a + k)).toNat * 256 ^ k
theorem numN_lt (s : Nat → UInt8) (a : Nat) : ∀ k, numN s a k < 256 ^ k
  | 0 => by simp [numN]
  | k + 1 => by
    have h := numN_lt s a k
    have hb := (s (a + k)).toNat_lt
    have : (s (a + k)).toNat * 256 ^ k ≤ 255 * 256 ^ k := Nat.mul_le_mul_right _ (by omega)
    rw [numN, Nat.pow_succ]
    omega
theorem numN_congr (s t : Nat → UInt8) (a : Nat) : ∀ k, (∀ i, i < k → s (a + i) = t (a + i)) → numN s a k = numN t a k
  | 0, _ => rfl
  | k + 1, h => by rw [numN, numN, numN_congr s t a k (fun i hi => h i (by omega)), h k (by omega)]
theorem or_step (v b k : Nat) (hk : k < 4) (hv : v < 256 ^ k) (hb : b < 256) :
    bits .or .u32 (v : Int) ((b : Int) % 4294967296 * 2 ^ (8 * k) % 4294967296) = ((v + b * 256 ^ k : Nat) : Int) := by
  have e : ((b : Int) % 4294967296 * 2 ^ (8 * k) % 4294967296) = ((b * 256 ^ k : Nat) : Int) := by
    have h1 : (256 : Nat) ^ k = 2 ^ (8 * k) := by rw [Nat.pow_mul]
    have h2 : b * 256 ^ k < 4294967296 := by
      have : b * 256 ^ k ≤ 255 * 256 ^ k := Nat.mul_le_mul_right _ (by omega)
      have : (256 : Nat) ^ k ≤ 256 ^ 3 := Nat.pow_le_pow_right (by omega) (by omega)
      omega
    have e0 : (b : Int) % 4294967296 = (b : Int) := Int.emod_eq_of_lt (by omega) (by omega)
    have e1 : ((2 : Int) ^ (8 * k)) = ((256 ^ k : Nat) : Int) := by rw [h1]; simp
    rw [e0, e1, ← Int.natCast_mul, Int.emod_eq_of_lt (by omega) (by omega)]
  have h2 : b * 256 ^ k < 4294967296 := by
    have : b * 256 ^ k ≤ 255 * 256 ^ k := Nat.mul_le_mul_right _ (by omega)
    have : (256 : Nat) ^ k ≤ 256 ^ 3 := Nat.pow_le_pow_right (by omega) (by omega)
    omega
  have h3 : (256 : Nat) ^ k ≤ 256 ^ 3 := Nat.pow_le_pow_right (by omega) (by omega)
  rw [e, u32_or_nat v (b * 256 ^ k) (by omega) h2]
  have h1 : (256 : Nat) ^ k = 2 ^ (8 * k) := by rw [Nat.pow_mul]
  rw [h1] at hv ⊢
  have := Nat.two_pow_add_eq_or_of_lt hv b
  rw [Nat.or_comm, Nat.mul_comm b, ← this, Nat.add_comm]

/-- The sector with the n lowest bytes of v from a on. -/
def putN (s : Nat → UInt8) (a v n : Nat) : Nat → UInt8 := fun j => if a ≤ j ∧ j < a + n then UInt8.ofNat (v / 256 ^ (j - a)) else s j
theorem putN_zero (s : Nat → UInt8) (a v : Nat) : putN s a v 0 = s := by
  funext j; unfold putN; rw [if_neg (by omega)]
theorem putN_succ (s : Nat → UInt8) (a v k : Nat) : putN s a v (k + 1) = upd (putN s a v k) (a + k) (UInt8.ofNat (v / 256 ^ k)) := by
  funext j
  unfold putN upd
  by_cases h : j = a + k
  · subst h; rw [if_pos (by omega), if_pos rfl, show a + k - a = k by omega]
  · rw [if_neg h]
    by_cases h2 : a ≤ j ∧ j < a + k
    · rw [if_pos (by omega)]; simp only; rw [if_pos h2]
    · rw [if_neg (by omega)]; simp only; rw [if_neg h2]
theorem shr_byte (v k : Nat) : (UInt8.ofNat (v / 256 ^ k)).toNat = v / 256 ^ k % 256 := by simp
theorem shr_form (v k : Nat) : ((v : Int) / 2 ^ (8 * k) % 256) = ((UInt8.ofNat (v / 256 ^ k)).toNat : Int) := by
  have h1 : (256 : Nat) ^ k = 2 ^ (8 * k) := by rw [Nat.pow_mul]
  have e1 : ((2 : Int) ^ (8 * k)) = ((256 ^ k : Nat) : Int) := by rw [h1]; simp
  rw [shr_byte, e1]
  omega
/-- What is put where there is room. -/
def putI (s : Nat → UInt8) (a : Int) (v n : Nat) : Nat → UInt8 := if inB a n then putN s a.toNat v n else s
/-- The number that is read where there is one. -/
def numI (s : Nat → UInt8) (a n : Int) : Nat := if inB a n then numN s a.toNat n.toNat else 0
theorem numI_lt (s : Nat → UInt8) (a n : Int) : numI s a n < 256 ^ n.toNat := by
  unfold numI; split
  · exact numN_lt s _ _
  · exact Nat.pow_pos (by omega)
end Go.Proofs.YtklbdhpnbjhgkaaGreatDoor
namespace Go.Proofs.YtklbdhpnbjhgkaaGreatDoor
open Go.RowKit

/-! A sector as a function from places to bytes, its cells, and the model's operations on whole sectors. -/

def secA (s : Nat → UInt8) : Array Value := Array.ofFn (n := 64) fun i => Value.int .u8 ((s i).toNat : Int)
def secZ : Nat → UInt8 := fun _ => 0
def secEq (s t : Nat → UInt8) : Bool := (List.range 64).all fun i => s i == t i

@[simp, go_sem] theorem secA_size (s : Nat → UInt8) : (secA s).size = 64 := by simp [secA]
theorem secA_get (s : Nat → UInt8) (i : Nat) (h : i < 64) : (secA s)[i]? = some (Value.int .u8 ((s i).toNat : Int)) := by simp [secA, h]
@[simp, go_sem] theorem secA_getElem (s : Nat → UInt8) (i : Nat) (h : i < (secA s).size) : (secA s)[i] = Value.int .u8 ((s i).toNat : Int) := by simp [secA]
theorem secEq_iff (s t : Nat → UInt8) : secEq s t = true ↔ ∀ i, i < 64 → s i = t i := by simp [secEq]
theorem secA_one (s : Nat → UInt8) : (secA s).all (·.oneCell') = true := by
  rw [Array.all_eq_true_iff_forall_mem]
  intro v hv
  simp only [secA, Array.mem_ofFn] at hv
  obtain ⟨i, rfl⟩ := hv
  rfl
theorem secA_set (s : Nat → UInt8) (i : Nat) (b : UInt8) (h : i < 64) : (secA s).setIfInBounds i (Value.int .u8 (b.toNat : Int)) = secA (upd s i b) := by
  apply Array.ext_getElem?
  intro j
  by_cases hj : j < 64
  · rw [secA_get _ j hj]
    by_cases e : i = j
    · subst e; simp [upd, h]
    · rw [Array.getElem?_setIfInBounds_ne e, secA_get s j hj]; simp [upd, Ne.symm e]
  · rw [Array.getElem?_eq_none (by simp; omega), Array.getElem?_eq_none (by simp; omega)]
theorem secA_of (c : Array Value) (hs : c.size = 64) (h : ∀ i, i < 64 → ∃ x : Int, c[i]? = some (Value.int .u8 x) ∧ 0 ≤ x ∧ x ≤ 255) : ∃ s, c = secA s := by
  refine ⟨fun i => match c[i]? with | some (Value.int _ x) => UInt8.ofNat x.toNat | _ => 0, ?_⟩
  apply Array.ext_getElem?
  intro i
  by_cases hi : i < 64
  · obtain ⟨x, hx, h0, h1⟩ := h i hi
    rw [secA_get _ i hi, hx]
    simp only [UInt8.toNat_ofNat', Option.some.injEq, Value.int.injEq, true_and]
    omega
  · rw [Array.getElem?_eq_none (by omega), Array.getElem?_eq_none (by simp; omega)]

/-- The cells of a block; is it a row of 64 that may be written? -/
def rowAt (w : World) (n : Nat) : Array Value := match w.heap[n]? with | some (.cells c _ _) => c | _ => #[]
def rowOk (w : World) (n : Nat) : Bool := match w.heap[n]? with | some (.cells c _ fr) => c.size == 64 && fr == (0, 0) | _ => false
@[go_sem] theorem rowAt_drew (w : World) (n : Nat) : rowAt w.drew n = rowAt w n := rfl
@[go_sem] theorem rowOk_drew (w : World) (n : Nat) : rowOk w.drew n = rowOk w n := rfl
@[go_sem] theorem setRow_drew' (w : World) (n : Nat) (c : Array Value) : w.drew.setRow n c = (w.setRow n c).drew := rfl
@[go_sem] theorem rowAt_new (w : World) (n : Nat) (c : Array Value) (t : TypeId) (h : n = w.heap.size) : rowAt (w.alloc (.cells c t)) n = c := by
  subst h; unfold rowAt; rw [heap_alloc_last]
@[go_sem] theorem rowOk_new (w : World) (n : Nat) (c : Array Value) (t : TypeId) (h : n = w.heap.size) (hc : c.size = 64) : rowOk (w.alloc (.cells c t)) n = true := by
  subst h; unfold rowOk; rw [heap_alloc_last]; simp [hc]
@[go_sem] theorem rowAt_old (w : World) (n : Nat) (o : Obj) (h : n < w.heap.size) : rowAt (w.alloc o) n = rowAt w n := by
  unfold rowAt; rw [Below.heap_alloc w o n h]
@[go_sem] theorem rowOk_old (w : World) (n : Nat) (o : Obj) (h : n < w.heap.size) : rowOk (w.alloc o) n = rowOk w n := by
  unfold rowOk; rw [Below.heap_alloc w o n h]
@[go_sem] theorem setRow_new (w : World) (n : Nat) (c c' : Array Value) (t : TypeId) (h : n = w.heap.size) : (w.alloc (.cells c t)).setRow n c' = w.alloc (.cells c' t) := by
  subst h; exact World.setRow_alloc_new w c c' t
@[go_sem] theorem setRow_old (w : World) (n : Nat) (c' : Array Value) (o : Obj) (h : n < w.heap.size) : (w.alloc o).setRow n c' = (w.setRow n c').alloc o := by
  simp only [World.setRow, World.alloc]
  congr 1
  apply Array.ext_getElem?
  intro i
  rw [Array.getElem?_modify]
  simp only [Array.getElem?_push, Array.size_modify, Array.getElem?_modify]
  by_cases h1 : n = i
  · subst h1
    have : ¬ n = w.heap.size := by omega
    simp [this]
  · simp [h1]
theorem row_of_ok {w : World} {n : Nat} (h : rowOk w n = true) : ∃ t, w.heap[n]? = some (.cells (rowAt w n) t (0, 0)) ∧ (rowAt w n).size = 64 := by
  unfold rowOk at h
  unfold rowAt
  cases hq : w.heap[n]? with
  | none => simp [hq] at h
  | some o =>
    cases o with
    | cells c t fr =>
      simp [hq] at h
      obtain ⟨h1, h2⟩ := h
      subst h2
      exact ⟨t, rfl, h1⟩
    | _ => simp [hq] at h

@[go_sem] theorem rowAt_setRow_same (w : World) (n : Nat) (c : Array Value) (h : rowOk w n = true) : rowAt (w.setRow n c) n = c := by
  obtain ⟨t, hg, _⟩ := row_of_ok h
  unfold rowAt; rw [setRow_heap w n _ c t _ hg]
@[go_sem] theorem rowOk_setRow_same (w : World) (n : Nat) (c : Array Value) (h : rowOk w n = true) (hc : c.size = 64) : rowOk (w.setRow n c) n = true := by
  obtain ⟨t, hg, _⟩ := row_of_ok h
  unfold rowOk; rw [setRow_heap w n _ c t _ hg]; simp [hc]
/-- Behind a call that has turned nothing old: the old rows are as they were. -/
theorem rows_below {B : Nat} {W w1 : World} (hb : Below B W w1) : (∀ n, n < B → rowOk w1 n = rowOk W n) ∧ (∀ n, n < B → rowAt w1 n = rowAt W n) :=
  ⟨fun n h => by unfold rowOk; rw [hb.block n h], fun n h => by unfold rowAt; rw [hb.block n h]⟩
theorem after {W w1 : World} (hb : Below W.heap.size W w1) : (∀ n, n < W.heap.size → rowOk w1 n = rowOk W n) ∧ (∀ n, n < W.heap.size → rowAt w1 n = rowAt W n) ∧
    (∀ b o, b < W.heap.size → w1.cell? ⟨b, o, none⟩ = W.cell? ⟨b, o, none⟩) ∧ (∀ b o, b < W.heap.size → w1.frozen? ⟨b, o, none⟩ = W.frozen? ⟨b, o, none⟩) ∧ W.heap.size ≤ w1.heap.size :=
  ⟨(rows_below hb).1, (rows_below hb).2, fun b o h => hb.cell (p := ⟨b, o, none⟩) h, fun b o h => hb.frozen (p := ⟨b, o, none⟩) h, hb.size⟩
theorem keepRow {B n : Nat} {W w1 : World} {c : Array Value} (hb : Below B W w1) (h : n < B) (hk : rowOk W n = true) (hc : rowAt W n = c) : rowOk w1 n = true ∧ rowAt w1 n = c :=
  ⟨by rw [(rows_below hb).1 n h]; exact hk, by rw [(rows_below hb).2 n h]; exact hc⟩
theorem below_row {B n : Nat} {w0 w : World} (hb : Below B w0 w) (h : B ≤ n) (c : Array Value) : Below B w0 (w.setRow n c) :=
  ⟨hb.os, hb.tape, hb.output, by simpa using hb.size, fun k hk => by rw [setRow_other w n k c (by omega)]; exact hb.block k hk⟩

theorem cell_rowAt {w : World} {n : Nat} (h : rowOk w n = true) (i : Nat) : w.cell? ⟨n, i, none⟩ = (rowAt w n)[i]? := by
  obtain ⟨t, hg, _⟩ := row_of_ok h
  exact cell_of_row w n i _ t _ hg
theorem lt_of_rowOk {w : World} {n : Nat} (h : rowOk w n = true) : n < w.heap.size := by
  obtain ⟨t, hg, _⟩ := row_of_ok h
  exact (Array.getElem?_eq_some_iff.1 hg).1
/-- Nothing below B has turned, and the row k, not below B, holds s. -/
def Held (B k : Nat) (W : World) (s : Nat → UInt8) (w : World) : Prop := B ≤ k ∧ Below B W w ∧ rowOk w k = true ∧ rowAt w k = secA s
theorem Held.below {B k : Nat} {W w w1 : World} {s : Nat → UInt8} (h : Held B k W s w) (hb : Below w.heap.size w w1) : Held B k W s w1 := by
  obtain ⟨h0, h1, h2, h3⟩ := h
  have h9 := lt_of_rowOk h2
  obtain ⟨h4, h5⟩ := keepRow hb h9 h2 h3
  exact ⟨h0, h1.trans (hb.mono (by omega)), h4, h5⟩
theorem Held.drew {B k : Nat} {W w : World} {s : Nat → UInt8} (h : Held B k W s w) : Held B k W s w.drew := ⟨h.1, h.2.1.drew, h.2.2.1, h.2.2.2⟩
theorem Held.cell {B k : Nat} {W w : World} {s : Nat → UInt8} (h : Held B k W s w) (i : Nat) (hi : i < 64) : w.cell? ⟨k, i, none⟩ = some (Value.int .u8 ((s i).toNat : Int)) := by
  rw [cell_rowAt h.2.2.1, h.2.2.2, secA_get s i hi]
theorem info102 : (Tryz.prog.info? 102).map (fun i => (i.zero, i.size)) = some (some (.agg (secA secZ)), 64) := by kernel_rfl
theorem size102 : (Tryz.prog.info? 102).map (·.size) = some 64 := (zero_of_info info102).2
theorem zero102 (w : World) : (zeroValue 102).run Tryz.prog w = .ok (.agg (secA secZ)) w := (zero_of_info info102).1 w
theorem sizeE (w : World) : (sizeOf 5).run Tryz.prog w = .ok 1 w := by kernel_rfl

/-- The operations on whole sectors, as the walk meets them: each under a name of its own, so that the walk opens none cell by cell. -/
def secLoad (p : Value) : Sem Next := do pure (.value (← Instr.loadAt 102 p))
def secStore (p x : Value) : Sem Next := do Instr.storeAt 102 p x; pure .skip
def secAlloc : Sem Next := do pure (.value (← Instr.alloc 102 true (.tuple #[])))
def secBuild : Sem Next := do pure (.value (← Instr.build 102 #[]))
def secBin (op : BinOp) (x y : Operand) (u v : Value) : Sem Next := do pure (.value (← (do eqGuard op 102 x y u v; binOp op 102 u v)))
section
variable (ρ : Operand → Value) (dst : Option Tmp) (ty ty' : TypeId) (pos : String) (after : Array Edge) (guard : Option (Nat × Bool))
@[go_sem ↓] theorem execOp_load_sec (x : Operand) : execOp ρ { dst, op := .load 102 x, type := ty, pos, after, guard } = secLoad (ρ x) := rfl
@[go_sem ↓] theorem execOp_store_sec (x y : Operand) : execOp ρ { dst, op := .store 102 x y, type := ty, pos, after, guard } = secStore (ρ x) (ρ y) := rfl
@[go_sem ↓] theorem execOp_alloc_sec : execOp ρ { dst, op := .alloc 102, type := ty, pos, after, guard } = secAlloc := rfl
@[go_sem ↓] theorem execOp_build_sec : execOp ρ { dst, op := .build 102 #[], type := ty, pos, after, guard } = secBuild := by
  simp [execOp, secBuild]
@[go_sem ↓] theorem execOp_bin_sec (op : BinOp) (x y : Operand) : execOp ρ { dst, op := .binOp op 102 x y ty', type := ty, pos, after, guard } = secBin op x y (ρ x) (ρ y) := rfl
end
@[go_sem] theorem run_secLoad (w : World) (n : Nat) (h : rowOk w n = true) : (secLoad (.pointer (some ⟨n, 0, none⟩))).run Tryz.prog w = .ok (.value (.agg (rowAt w n))) w := by
  obtain ⟨t, hg, hs⟩ := row_of_ok h
  simp only [secLoad, Instr.loadAt, Instr.sureAddr, Sem.run_bind, Sem.run_pure, Result.andThen_ok]
  rw [run_loadVar_row w n t 102 (rowAt w n) (0, 0) _ hg Tryz.underlying102 rfl (by rw [size102, hs])]; rfl
@[go_sem] theorem run_secStore (w : World) (n : Nat) (s : Nat → UInt8) (h : rowOk w n = true) : (secStore (.pointer (some ⟨n, 0, none⟩)) (.agg (secA s))).run Tryz.prog w = .ok .skip (w.setRow n (secA s)) := by
  obtain ⟨t, hg, hs⟩ := row_of_ok h
  simp only [secStore, Instr.storeAt, Instr.sureAddr, Sem.run_bind, Sem.run_pure, Result.andThen_ok]
  rw [run_storeVar_row w n t 102 (rowAt w n) (secA s) hg (by rw [size102]; simp) (by simp [hs]) (secA_one s)]; rfl
@[go_sem] theorem run_secAlloc (w : World) : secAlloc.run Tryz.prog w = .ok (.value (.pointer (some ⟨w.heap.size, 0, none⟩))) (w.alloc (.cells (secA secZ) 102)) := by
  simp only [secAlloc, Instr.alloc, Sem.run_bind, zero102, Result.andThen_ok]
  rfl
@[go_sem] theorem run_secBuild (w : World) : secBuild.run Tryz.prog w = .ok (.value (.agg (secA secZ))) w := by
  simp only [secBuild, Sem.run_bind]
  rw [run_build w 102 #[] (secA secZ) (by kernel_rfl)]; rfl
theorem secA_cells (s : Nat → UInt8) : secA s = (((List.range 64).map s).map Extern.Stop.cell).toArray := by
  apply Array.ext_getElem?
  intro i
  by_cases hi : i < 64
  · rw [secA_get s i hi]; simp [hi, Extern.Stop.cell]
  · rw [Array.getElem?_eq_none (by simp; omega), Array.getElem?_eq_none (by simp; omega)]
theorem beq_secL (s t : Nat → UInt8) : (((List.range 64).map s) == ((List.range 64).map t)) = secEq s t := by
  rw [Bool.eq_iff_iff, secEq_iff, beq_iff_eq]
  constructor
  · intro h i hi
    have := congrArg (fun l => l[i]?) h
    simpa [hi] using this
  · intro h
    exact List.map_congr_left fun i hi => h i (by simpa using hi)
theorem run_equal_sec (w : World) (s t : Nat → UInt8) : (Op.equalIn 10000 102 (.agg (secA s)) (.agg (secA t))).run Tryz.prog w = .ok (secEq s t) w := by
  rw [secA_cells, secA_cells, run_equalIn_bytes w 9998 102 5 64 Tryz.underlying102 Tryz.underlying5 sizeE _ _ (by simp) (by simp), beq_secL]
theorem eqGuard_sec (w : World) (op : BinOp) (x y : Operand) (xs ys : Array Value) : (eqGuard op 102 x y (.agg xs) (.agg ys)).run Tryz.prog w = .ok () w :=
  run_eqGuard_agg w op 102 x y xs ys (by kernel_rfl)
@[go_sem] theorem run_secEql (w : World) (x y : Operand) (s t : Nat → UInt8) : (secBin .eql x y (.agg (secA s)) (.agg (secA t))).run Tryz.prog w = .ok (.value (.bool (secEq s t))) w := by
  simp only [secBin, Sem.run_bind, eqGuard_sec, Result.andThen_ok]
  rw [run_eql_struct, run_equal_sec]; rfl
@[go_sem] theorem run_secNeq (w : World) (x y : Operand) (s t : Nat → UInt8) : (secBin .neq x y (.agg (secA s)) (.agg (secA t))).run Tryz.prog w = .ok (.value (.bool (!secEq s t))) w := by
  simp only [secBin, Sem.run_bind, eqGuard_sec, Result.andThen_ok]
  rw [run_neq_struct, run_equal_sec]; rfl

/-- 's[a:]' of a sector's variable. -/
theorem run_sliceAt_lo (w : World) (n a : Nat) (h : a ≤ 64) :
    (Instr.sliceAt 102 (.pointer (some ⟨n, 0, none⟩)) (some (.int .i64 (a : Int))) none none).run Tryz.prog w = .ok (.slice (some (if 64 = a then ⟨n, 0, none⟩ else ⟨n, a, none⟩)) (64 - a) (64 - a)) w := by
  have hadd : (⟨n, 0, none⟩ : Addr).add a = ⟨n, a, none⟩ := by unfold Addr.add; split <;> simp_all
  have hc : (a : Int) ≤ 64 := by omega
  simp [Instr.sliceAt, Instr.sureAddr, run_underlying Tryz.underlying102, Instr.sliceBounds, run_sliceBound, hc, hadd]

/-- 's[a:a+m]' of a sector's variable. -/
theorem run_sliceAt_lh (w : World) (n a m : Nat) (h : a + m ≤ 64) :
    (Instr.sliceAt 102 (.pointer (some ⟨n, 0, none⟩)) (some (.int .i64 (a : Int))) (some (.int .i64 ((a : Int) + (m : Int)))) none).run Tryz.prog w = .ok (.slice (some (if 64 = a then ⟨n, 0, none⟩ else ⟨n, a, none⟩)) m (64 - a)) w := by
  have hadd : (⟨n, 0, none⟩ : Addr).add a = ⟨n, a, none⟩ := by unfold Addr.add; split <;> simp_all
  have hc : (a : Int) + (m : Int) ≤ 64 := by omega
  have h0 : 0 ≤ (a : Int) + (m : Int) := by omega
  have e : ((a : Int) + (m : Int)).toNat = a + m := by omega
  have hb : ∀ W : World, (Instr.sliceBound (.int .i64 (a : Int)) (a + m) BoundsCode.sliceB).run Tryz.prog W = .ok a W := fun W => by
    have := run_sliceBound (P := Tryz.prog) W .i64 (a : Int) (a + m) BoundsCode.sliceB (by omega) (by omega)
    simpa using this
  simp [Instr.sliceAt, Instr.sureAddr, run_underlying Tryz.underlying102, Instr.sliceBounds, run_sliceBound, hc, h0, e, hb, hadd]

/-- A call that hands a sector back out of its result's variable. -/
theorem bodyPost_sec {fn : Func} {R : Ending → World → Prop} {a : Act} {w : World} (p n : Nat) (hres : fn.results = #[.cell p 102]) (hp : a.tmps.getD p undef = .pointer (some ⟨n, 0, none⟩)) (hd : a.defers = [])
    (hok : rowOk w n = true) (h : R (.returned (.agg (rowAt w n))) w) : bodyPost Tryz.prog fn R .ret a w := by
  obtain ⟨t, hg, hs⟩ := row_of_ok hok
  exact bodyPost_ret (results_cell_row hres a.tmps w n t (rowAt w n) (0, 0) _ hp hg Tryz.underlying102 rfl (by rw [size102, hs])) hd h

theorem heap_setCell (w : World) (g i : Nat) (v : Value) (c : Array Value) (t : TypeId) (fr : Nat × Nat) (h : w.heap[g]? = some (.cells c t fr)) : (w.setCell ⟨g, i, none⟩ v).heap[g]? = some (.cells (c.setIfInBounds i v) t fr) := by
  unfold World.setCell
  rw [Array.getElem?_modify, if_pos rfl, h]
  rfl
theorem below_alloc (w : World) (o : Obj) : Below w.heap.size w (w.alloc o) := (Below.refl _ _).alloc (Nat.le_refl _) _
end Go.Proofs.YtklbdhpnbjhgkaaGreatDoor
namespace Go.Proofs.YtklbdhpnbjhgkaaGreatDoor
open Go.RowKit

/-! A sector as a function from places to bytes, its cells, and the model's operations on whole sectors. -/

def dg_secA (s : Nat → UInt8) : Array Value := Array.ofFn (n := 32) fun i => Value.int .u8 ((s i).toNat : Int)
def dg_secZ : Nat → UInt8 := fun _ => 0
def dg_secEq (s t : Nat → UInt8) : Bool := (List.range 32).all fun i => s i == t i

@[simp, go_sem] theorem dg_secA_size (s : Nat → UInt8) : (dg_secA s).size = 32 := by simp [dg_secA]
theorem dg_secA_get (s : Nat → UInt8) (i : Nat) (h : i < 32) : (dg_secA s)[i]? = some (Value.int .u8 ((s i).toNat : Int)) := by simp [dg_secA, h]
@[simp, go_sem] theorem dg_secA_getElem (s : Nat → UInt8) (i : Nat) (h : i < (dg_secA s).size) : (dg_secA s)[i] = Value.int .u8 ((s i).toNat : Int) := by simp [dg_secA]
theorem dg_secEq_iff (s t : Nat → UInt8) : dg_secEq s t = true ↔ ∀ i, i < 32 → s i = t i := by simp [dg_secEq]
theorem dg_secA_inj (s t : Nat → UInt8) : dg_secA s = dg_secA t ↔ ∀ i, i < 32 → s i = t i := by
  constructor
  · intro h i hi
    have := congrArg (fun c => c[i]?) h
    simp only [dg_secA_get s i hi, dg_secA_get t i hi, Option.some.injEq, Value.int.injEq, true_and] at this
    exact UInt8.toNat_inj.1 (by omega)
  · intro h
    apply Array.ext_getElem?
    intro i
    by_cases hi : i < 32
    · rw [dg_secA_get s i hi, dg_secA_get t i hi, h i hi]
    · rw [Array.getElem?_eq_none (by simp; omega), Array.getElem?_eq_none (by simp; omega)]
theorem dg_secA_one (s : Nat → UInt8) : (dg_secA s).all (·.oneCell') = true := by
  rw [Array.all_eq_true_iff_forall_mem]
  intro v hv
  simp only [dg_secA, Array.mem_ofFn] at hv
  obtain ⟨i, rfl⟩ := hv
  rfl
theorem dg_secA_set (s : Nat → UInt8) (i : Nat) (b : UInt8) (h : i < 32) : (dg_secA s).setIfInBounds i (Value.int .u8 (b.toNat : Int)) = dg_secA (upd s i b) := by
  apply Array.ext_getElem?
  intro j
  by_cases hj : j < 32
  · rw [dg_secA_get _ j hj]
    by_cases e : i = j
    · subst e; simp [upd, h]
    · rw [Array.getElem?_setIfInBounds_ne e, dg_secA_get s j hj]; simp [upd, Ne.symm e]
  · rw [Array.getElem?_eq_none (by simp; omega), Array.getElem?_eq_none (by simp; omega)]
theorem dg_secA_of (c : Array Value) (hs : c.size = 32) (h : ∀ i, i < 32 → ∃ x : Int, c[i]? = some (Value.int .u8 x) ∧ 0 ≤ x ∧ x ≤ 255) : ∃ s, c = dg_secA s := by
  refine ⟨fun i => match c[i]? with | some (Value.int _ x) => UInt8.ofNat x.toNat | _ => 0, ?_⟩
  apply Array.ext_getElem?
  intro i
  by_cases hi : i < 32
  · obtain ⟨x, hx, h0, h1⟩ := h i hi
    rw [dg_secA_get _ i hi, hx]
    simp only [UInt8.toNat_ofNat', Option.some.injEq, Value.int.injEq, true_and]
    omega
  · rw [Array.getElem?_eq_none (by omega), Array.getElem?_eq_none (by simp; omega)]

/-- The cells of a block; is it a row of 32 that may be written? -/
def dg_rowAt (w : World) (n : Nat) : Array Value := match w.heap[n]? with | some (.cells c _ _) => c | _ => #[]
def dg_rowOk (w : World) (n : Nat) : Bool := match w.heap[n]? with | some (.cells c _ fr) => c.size == 32 && fr == (0, 0) | _ => false
@[go_sem] theorem dg_rowAt_drew (w : World) (n : Nat) : dg_rowAt w.drew n = dg_rowAt w n := rfl
@[go_sem] theorem dg_rowOk_drew (w : World) (n : Nat) : dg_rowOk w.drew n = dg_rowOk w n := rfl
@[go_sem] theorem dg_setRow_drew' (w : World) (n : Nat) (c : Array Value) : w.drew.setRow n c = (w.setRow n c).drew := rfl
@[go_sem] theorem dg_rowAt_new (w : World) (n : Nat) (c : Array Value) (t : TypeId) (h : n = w.heap.size) : dg_rowAt (w.alloc (.cells c t)) n = c := by
  subst h; unfold dg_rowAt; rw [heap_alloc_last]
@[go_sem] theorem dg_rowOk_new (w : World) (n : Nat) (c : Array Value) (t : TypeId) (h : n = w.heap.size) (hc : c.size = 32) : dg_rowOk (w.alloc (.cells c t)) n = true := by
  subst h; unfold dg_rowOk; rw [heap_alloc_last]; simp [hc]
@[go_sem] theorem dg_rowAt_old (w : World) (n : Nat) (o : Obj) (h : n < w.heap.size) : dg_rowAt (w.alloc o) n = dg_rowAt w n := by
  unfold dg_rowAt; rw [Below.heap_alloc w o n h]
@[go_sem] theorem dg_rowOk_old (w : World) (n : Nat) (o : Obj) (h : n < w.heap.size) : dg_rowOk (w.alloc o) n = dg_rowOk w n := by
  unfold dg_rowOk; rw [Below.heap_alloc w o n h]
@[go_sem] theorem dg_setRow_new (w : World) (n : Nat) (c c' : Array Value) (t : TypeId) (h : n = w.heap.size) : (w.alloc (.cells c t)).setRow n c' = w.alloc (.cells c' t) := by
  subst h; exact World.setRow_alloc_new w c c' t
@[go_sem] theorem dg_setRow_old (w : World) (n : Nat) (c' : Array Value) (o : Obj) (h : n < w.heap.size) : (w.alloc o).setRow n c' = (w.setRow n c').alloc o := by
  simp only [World.setRow, World.alloc]
  congr 1
  apply Array.ext_getElem?
  intro i
  rw [Array.getElem?_modify]
  simp only [Array.getElem?_push, Array.size_modify, Array.getElem?_modify]
  by_cases h1 : n = i
  · subst h1
    have : ¬ n = w.heap.size := by omega
    simp [this]
  · simp [h1]
theorem dg_row_of_ok {w : World} {n : Nat} (h : dg_rowOk w n = true) : ∃ t, w.heap[n]? = some (.cells (dg_rowAt w n) t (0, 0)) ∧ (dg_rowAt w n).size = 32 := by
  unfold dg_rowOk at h
  unfold dg_rowAt
  cases hq : w.heap[n]? with
  | none => simp [hq] at h
  | some o =>
    cases o with
    | cells c t fr =>
      simp [hq] at h
      obtain ⟨h1, h2⟩ := h
      subst h2
      exact ⟨t, rfl, h1⟩
    | _ => simp [hq] at h

@[go_sem] theorem dg_rowAt_setRow_same (w : World) (n : Nat) (c : Array Value) (h : dg_rowOk w n = true) : dg_rowAt (w.setRow n c) n = c := by
  obtain ⟨t, hg, _⟩ := dg_row_of_ok h
  unfold dg_rowAt; rw [setRow_heap w n _ c t _ hg]
@[go_sem] theorem dg_rowOk_setRow_same (w : World) (n : Nat) (c : Array Value) (h : dg_rowOk w n = true) (hc : c.size = 32) : dg_rowOk (w.setRow n c) n = true := by
  obtain ⟨t, hg, _⟩ := dg_row_of_ok h
  unfold dg_rowOk; rw [setRow_heap w n _ c t _ hg]; simp [hc]
/-- Behind a call that has turned nothing old: the old rows are as they were. -/
theorem dg_rows_below {B : Nat} {W w1 : World} (hb : Below B W w1) : (∀ n, n < B → dg_rowOk w1 n = dg_rowOk W n) ∧ (∀ n, n < B → dg_rowAt w1 n = dg_rowAt W n) :=
  ⟨fun n h => by unfold dg_rowOk; rw [hb.block n h], fun n h => by unfold dg_rowAt; rw [hb.block n h]⟩
theorem dg_keepRow {B n : Nat} {W w1 : World} {c : Array Value} (hb : Below B W w1) (h : n < B) (hk : dg_rowOk W n = true) (hc : dg_rowAt W n = c) : dg_rowOk w1 n = true ∧ dg_rowAt w1 n = c :=
  ⟨by rw [(dg_rows_below hb).1 n h]; exact hk, by rw [(dg_rows_below hb).2 n h]; exact hc⟩
theorem dg_cell_rowAt {w : World} {n : Nat} (h : dg_rowOk w n = true) (i : Nat) : w.cell? ⟨n, i, none⟩ = (dg_rowAt w n)[i]? := by
  obtain ⟨t, hg, _⟩ := dg_row_of_ok h
  exact cell_of_row w n i _ t _ hg
theorem dg_lt_of_rowOk {w : World} {n : Nat} (h : dg_rowOk w n = true) : n < w.heap.size := by
  obtain ⟨t, hg, _⟩ := dg_row_of_ok h
  exact (Array.getElem?_eq_some_iff.1 hg).1
/-- Nothing below B has turned, and the row k, not below B, holds s. -/
def dg_Held (B k : Nat) (W : World) (s : Nat → UInt8) (w : World) : Prop := B ≤ k ∧ Below B W w ∧ dg_rowOk w k = true ∧ dg_rowAt w k = dg_secA s
theorem dg_Held.below {B k : Nat} {W w w1 : World} {s : Nat → UInt8} (h : dg_Held B k W s w) (hb : Below w.heap.size w w1) : dg_Held B k W s w1 := by
  obtain ⟨h0, h1, h2, h3⟩ := h
  have h9 := dg_lt_of_rowOk h2
  obtain ⟨h4, h5⟩ := dg_keepRow hb h9 h2 h3
  exact ⟨h0, h1.trans (hb.mono (by omega)), h4, h5⟩
theorem dg_Held.drew {B k : Nat} {W w : World} {s : Nat → UInt8} (h : dg_Held B k W s w) : dg_Held B k W s w.drew := ⟨h.1, h.2.1.drew, h.2.2.1, h.2.2.2⟩
theorem dg_Held.cell {B k : Nat} {W w : World} {s : Nat → UInt8} (h : dg_Held B k W s w) (i : Nat) (hi : i < 32) : w.cell? ⟨k, i, none⟩ = some (Value.int .u8 ((s i).toNat : Int)) := by
  rw [dg_cell_rowAt h.2.2.1, h.2.2.2, dg_secA_get s i hi]
theorem info50 : (Tryz.prog.info? 50).map (fun i => (i.zero, i.size)) = some (some (.agg (dg_secA dg_secZ)), 32) := by kernel_rfl
theorem size50 : (Tryz.prog.info? 50).map (·.size) = some 32 := (zero_of_info info50).2
theorem zero50 (w : World) : (zeroValue 50).run Tryz.prog w = .ok (.agg (dg_secA dg_secZ)) w := (zero_of_info info50).1 w
theorem dg_sizeE (w : World) : (sizeOf 5).run Tryz.prog w = .ok 1 w := by kernel_rfl

/-- The operations on whole sectors, as the walk meets them: each under a name of its own, so that the walk opens none cell by cell. -/
def dg_secLoad (p : Value) : Sem Next := do pure (.value (← Instr.loadAt 50 p))
def dg_secStore (p x : Value) : Sem Next := do Instr.storeAt 50 p x; pure .skip
def dg_secAlloc : Sem Next := do pure (.value (← Instr.alloc 50 true (.tuple #[])))
def dg_secBuild : Sem Next := do pure (.value (← Instr.build 50 #[]))
def dg_secBin (op : BinOp) (x y : Operand) (u v : Value) : Sem Next := do pure (.value (← (do eqGuard op 50 x y u v; binOp op 50 u v)))
section
variable (ρ : Operand → Value) (dst : Option Tmp) (ty ty' : TypeId) (pos : String) (after : Array Edge) (guard : Option (Nat × Bool))
@[go_sem ↓] theorem dg_execOp_load_sec (x : Operand) : execOp ρ { dst, op := .load 50 x, type := ty, pos, after, guard } = dg_secLoad (ρ x) := rfl
@[go_sem ↓] theorem dg_execOp_store_sec (x y : Operand) : execOp ρ { dst, op := .store 50 x y, type := ty, pos, after, guard } = dg_secStore (ρ x) (ρ y) := rfl
@[go_sem ↓] theorem dg_execOp_alloc_sec : execOp ρ { dst, op := .alloc 50, type := ty, pos, after, guard } = dg_secAlloc := rfl
@[go_sem ↓] theorem dg_execOp_build_sec : execOp ρ { dst, op := .build 50 #[], type := ty, pos, after, guard } = dg_secBuild := by
  simp [execOp, dg_secBuild]
@[go_sem ↓] theorem dg_execOp_bin_sec (op : BinOp) (x y : Operand) : execOp ρ { dst, op := .binOp op 50 x y ty', type := ty, pos, after, guard } = dg_secBin op x y (ρ x) (ρ y) := rfl
end
@[go_sem] theorem dg_run_secLoad (w : World) (n : Nat) (h : dg_rowOk w n = true) : (dg_secLoad (.pointer (some ⟨n, 0, none⟩))).run Tryz.prog w = .ok (.value (.agg (dg_rowAt w n))) w := by
  obtain ⟨t, hg, hs⟩ := dg_row_of_ok h
  simp only [dg_secLoad, Instr.loadAt, Instr.sureAddr, Sem.run_bind, Sem.run_pure, Result.andThen_ok]
  rw [run_loadVar_row w n t 50 (dg_rowAt w n) (0, 0) _ hg Tryz.underlying50 rfl (by rw [size50, hs])]; rfl
@[go_sem] theorem dg_run_secStore (w : World) (n : Nat) (s : Nat → UInt8) (h : dg_rowOk w n = true) : (dg_secStore (.pointer (some ⟨n, 0, none⟩)) (.agg (dg_secA s))).run Tryz.prog w = .ok .skip (w.setRow n (dg_secA s)) := by
  obtain ⟨t, hg, hs⟩ := dg_row_of_ok h
  simp only [dg_secStore, Instr.storeAt, Instr.sureAddr, Sem.run_bind, Sem.run_pure, Result.andThen_ok]
  rw [run_storeVar_row w n t 50 (dg_rowAt w n) (dg_secA s) hg (by rw [size50]; simp) (by simp [hs]) (dg_secA_one s)]; rfl
@[go_sem] theorem dg_run_secAlloc (w : World) : dg_secAlloc.run Tryz.prog w = .ok (.value (.pointer (some ⟨w.heap.size, 0, none⟩))) (w.alloc (.cells (dg_secA dg_secZ) 50)) := by
  simp only [dg_secAlloc, Instr.alloc, Sem.run_bind, zero50, Result.andThen_ok]
  rfl
@[go_sem] theorem dg_run_secBuild (w : World) : dg_secBuild.run Tryz.prog w = .ok (.value (.agg (dg_secA dg_secZ))) w := by
  simp only [dg_secBuild, Sem.run_bind]
  rw [run_build w 50 #[] (dg_secA dg_secZ) (by kernel_rfl)]; rfl
theorem dg_secA_cells (s : Nat → UInt8) : dg_secA s = (((List.range 32).map s).map Extern.Stop.cell).toArray := by
  apply Array.ext_getElem?
  intro i
  by_cases hi : i < 32
  · rw [dg_secA_get s i hi]; simp [hi, Extern.Stop.cell]
  · rw [Array.getElem?_eq_none (by simp; omega), Array.getElem?_eq_none (by simp; omega)]
theorem dg_beq_secL (s t : Nat → UInt8) : (((List.range 32).map s) == ((List.range 32).map t)) = dg_secEq s t := by
  rw [Bool.eq_iff_iff, dg_secEq_iff, beq_iff_eq]
  constructor
  · intro h i hi
    have := congrArg (fun l => l[i]?) h
    simpa [hi] using this
  · intro h
    exact List.map_congr_left fun i hi => h i (by simpa using hi)
theorem dg_run_equal_sec (w : World) (s t : Nat → UInt8) : (Op.equalIn 10000 50 (.agg (dg_secA s)) (.agg (dg_secA t))).run Tryz.prog w = .ok (dg_secEq s t) w := by
  rw [dg_secA_cells, dg_secA_cells, run_equalIn_bytes w 9998 50 5 32 Tryz.underlying50 Tryz.underlying5 dg_sizeE _ _ (by simp) (by simp), dg_beq_secL]
theorem dg_eqGuard_sec (w : World) (op : BinOp) (x y : Operand) (xs ys : Array Value) : (eqGuard op 50 x y (.agg xs) (.agg ys)).run Tryz.prog w = .ok () w :=
  run_eqGuard_agg w op 50 x y xs ys (by kernel_rfl)
@[go_sem] theorem dg_run_secEql (w : World) (x y : Operand) (s t : Nat → UInt8) : (dg_secBin .eql x y (.agg (dg_secA s)) (.agg (dg_secA t))).run Tryz.prog w = .ok (.value (.bool (dg_secEq s t))) w := by
  simp only [dg_secBin, Sem.run_bind, dg_eqGuard_sec, Result.andThen_ok]
  rw [run_eql_struct, dg_run_equal_sec]; rfl
@[go_sem] theorem dg_run_secNeq (w : World) (x y : Operand) (s t : Nat → UInt8) : (dg_secBin .neq x y (.agg (dg_secA s)) (.agg (dg_secA t))).run Tryz.prog w = .ok (.value (.bool (!dg_secEq s t))) w := by
  simp only [dg_secBin, Sem.run_bind, dg_eqGuard_sec, Result.andThen_ok]
  rw [run_neq_struct, dg_run_equal_sec]; rfl

/-- 's[a:]' of a sector's variable. -/
theorem dg_run_sliceAt_lo (w : World) (n a : Nat) (h : a ≤ 32) :
    (Instr.sliceAt 50 (.pointer (some ⟨n, 0, none⟩)) (some (.int .i64 (a : Int))) none none).run Tryz.prog w = .ok (.slice (some (if 32 = a then ⟨n, 0, none⟩ else ⟨n, a, none⟩)) (32 - a) (32 - a)) w := by
  have hadd : (⟨n, 0, none⟩ : Addr).add a = ⟨n, a, none⟩ := by unfold Addr.add; split <;> simp_all
  have hc : (a : Int) ≤ 32 := by omega
  simp [Instr.sliceAt, Instr.sureAddr, run_underlying Tryz.underlying50, Instr.sliceBounds, run_sliceBound, hc, hadd]

end Go.Proofs.YtklbdhpnbjhgkaaGreatDoor
namespace Go.Proofs.YtklbdhpnbjhgkaaGreatDoor
open Go.RowKit

theorem ret_int {k : IntKind} {a b : Int} (h : a = b) : Ending.returned (.int k a) = .returned (.int k b) := by rw [h]
theorem ret_bool {a b : Bool} (h : a = b) : Ending.returned (.bool a) = .returned (.bool b) := by rw [h]
set_option maxHeartbeats 400000 in
theorem within_any (a n : Int) (w : World) (h0 : -9223372036854775808 ≤ a) (h1 : a ≤ 9223372036854775807) (h2 : -9223372036854775808 ≤ n) (h3 : n ≤ 9223372036854775807) :
    Calls Tryz.prog 89 #[.int .i64 a, .int .i64 n] w fun e w' => e = .returned (.bool (inB a n)) ∧ w' = w := by
  have e : inB a n = (decide (0 ≤ a) && decide (0 ≤ n) && decide (n ≤ 64 - a)) := by simp [inB, Bool.and_assoc]
  rw [e]
  by_cases ha : 0 ≤ a <;> by_cases hn : 0 ≤ n <;> go_enter Tryz.func89, Tryz.ntmps89 <;> go_wp2 <;> go_ret <;> simp [ha, hn] <;> omega
/-! Numbers read -/
set_option maxHeartbeats 400000 in
theorem number_yes (s : Nat → UInt8) (a n : Nat) (w : World) (hn : n ≤ 4) (h : a + n ≤ 64) :
    Calls Tryz.prog 117 #[.agg (secA s), .int .i64 a, .int .i64 n] w fun e w' => e = .returned (.int .u32 (numN s a n)) ∧ Below w.heap.size w w' := by
  have hw : inB (a : Int) (n : Int) = true := by simp [inB]; omega
  go_enter Tryz.func117, Tryz.ntmps117
  go_wp2_with (go_at_call 89; refine (within_any _ _ _ (by omega) (by omega) (by omega) (by omega)).mono ?_; rintro e w' ⟨rfl, rfl⟩)
  go_loop [7, 14] (fun v i => ∃ k : Nat, k ≤ n ∧ i = .int .i64 k ∧ v = .int .u32 (numN s a k)) (fun _ i => n - (intOf i).toNat)
  case atStart => exact ⟨0, Nat.zero_le _, rfl, rfl⟩
  case round =>
    obtain ⟨k, hk, rfl, rfl⟩ := hrel
    by_cases hlt : k < n
    · have hc := secA_get s (a + k) (by omega)
      have HS : Hid (bits .or .u32 (numN s a k : Int) (((s (a + k)).toNat : Int) % 4294967296 * 2 ^ (8 * k) % 4294967296) = ((numN s a (k + 1) : Nat) : Int)) :=
        or_step _ _ k (by omega) (numN_lt s a k) (s (a + k)).toNat_lt
      go_wp2
      go_round
      case rel => exact ⟨k + 1, by omega, by go_num, by rw [HS.out]⟩
      case measure => simp [intOf]; omega
    · have e : k = n := by omega
      subst e
      go_wp2
      go_ret
      exact ⟨rfl, (Below.refl _ _).alloc (Nat.le_refl _) _⟩
set_option maxHeartbeats 400000 in
theorem number_no (s : Nat → UInt8) (a n : Int) (w : World) (h0 : -9223372036854775808 ≤ a) (h1 : a ≤ 9223372036854775807) (h2 : 0 ≤ n) (h3 : n ≤ 4) (hw : inB a n = false) :
    Calls Tryz.prog 117 #[.agg (secA s), .int .i64 a, .int .i64 n] w fun e w' => e = .returned (.int .u32 0) ∧ Below w.heap.size w w' := by
  go_enter Tryz.func117, Tryz.ntmps117
  go_wp2_with (go_at_call 89; refine (within_any _ _ _ (by omega) (by omega) (by omega) (by omega)).mono ?_; rintro e w' ⟨rfl, rfl⟩)
  go_ret
  exact ⟨rfl, (Below.refl _ _).alloc (Nat.le_refl _) _⟩
theorem number_any (s : Nat → UInt8) (a n : Int) (w : World) (h0 : -9223372036854775808 ≤ a) (h1 : a ≤ 9223372036854775807) (h2 : 0 ≤ n) (h3 : n ≤ 4) :
    Calls Tryz.prog 117 #[.agg (secA s), .int .i64 a, .int .i64 n] w fun e w' => e = .returned (.int .u32 (numI s a n)) ∧ Below w.heap.size w w' := by
  unfold numI
  cases hw : inB a n
  · exact number_no s a n w h0 h1 h2 h3 hw
  · rw [inB_iff] at hw
    obtain ⟨a', rfl⟩ := Int.eq_ofNat_of_zero_le hw.1
    obtain ⟨n', rfl⟩ := Int.eq_ofNat_of_zero_le hw.2.1
    exact number_yes s a' n' w (by omega) (by omega)
set_option maxHeartbeats 400000 in
theorem u16_any (s : Nat → UInt8) (a : Int) (w : World) (h0 : -9223372036854775808 ≤ a) (h1 : a ≤ 9223372036854775807) :
    Calls Tryz.prog 105 #[.agg (secA s), .int .i64 a] w fun e w' => e = .returned (.int .u16 (numI s a 2)) ∧ Below w.heap.size w w' := by
  have hn := numI_lt s a 2
  go_enter Tryz.func105, Tryz.ntmps105
  go_wp2_with (go_at_call 117; refine (number_any _ _ _ _ (by omega) (by omega) (by omega) (by omega)).mono ?_; rintro e w' ⟨rfl, hb⟩)
  go_ret
  refine ⟨ret_int ?_, ((Below.refl _ _).alloc (Nat.le_refl _) _).trans (hb.mono (by simp))⟩
  simp only [IntKind.wrap_u16]
  have e : (256 : Nat) ^ Int.toNat 2 = 65536 := by decide
  omega
/-! Numbers put -/
set_option maxHeartbeats 400000 in
theorem putNumber_yes (s : Nat → UInt8) (a n v : Nat) (w : World) (hn : n ≤ 4) (h : a + n ≤ 64) (_hv : v < 4294967296) :
    Calls Tryz.prog 90 #[.agg (secA s), .int .i64 a, .int .i64 n, .int .u32 v] w fun e w' => e = .returned (.agg (secA (putN s a v n))) ∧ Below w.heap.size w w' := by
  have hw : inB (a : Int) (n : Int) = true := by simp [inB]; omega
  go_enter Tryz.func90, Tryz.ntmps90
  go_wp2_with (go_at_call 89; refine (within_any _ _ _ (by omega) (by omega) (by omega) (by omega)).mono ?_; rintro e w' ⟨rfl, rfl⟩)
  go_loopw [16] (fun i w' => ∃ k : Nat, k ≤ n ∧ i = .int .i64 k ∧ w' = (w.alloc (.cells (secA (putN s a v k)) 102)).alloc (.cells (secA secZ) 102)) (fun i _ => n - (intOf i).toNat)
  case atStart => exact ⟨0, Nat.zero_le _, rfl, by rw [putN_zero]⟩
  case round =>
    obtain ⟨k, hk, rfl, rfl⟩ := hrel
    by_cases hlt : k < n
    · have hc := secA_get (putN s a v k) (a + k) (by omega)
      have HS : Hid ((secA (putN s a v k)).setIfInBounds (a + k) (Value.int IntKind.u8 ((v : Int) / 2 ^ (8 * k) % 256)) = secA (putN s a v (k + 1))) := by
        show _ = _
        rw [shr_form, secA_set _ _ _ (by omega), ← putN_succ]
      go_wp2
      go_roundw
      case rel => exact ⟨k + 1, by omega, by go_num, by rw [HS.out]⟩
      case measure => simp [intOf]; omega
    · have e : k = n := by omega
      subst e
      go_wp2
      refine bodyPost_sec 8 (w.heap.size + 1) rfl rfl rfl (by go_simp) ⟨by go_simp, ?_⟩
      exact ((Below.refl _ _).alloc (Nat.le_refl _) _).alloc (by simp) _
set_option maxHeartbeats 400000 in
theorem putNumber_no (s : Nat → UInt8) (a n : Int) (v : Nat) (w : World) (h0 : -9223372036854775808 ≤ a) (h1 : a ≤ 9223372036854775807) (h2 : 0 ≤ n) (h3 : n ≤ 4) (hw : inB a n = false) :
    Calls Tryz.prog 90 #[.agg (secA s), .int .i64 a, .int .i64 n, .int .u32 v] w fun e w' => e = .returned (.agg (secA s)) ∧ Below w.heap.size w w' := by
  go_enter Tryz.func90, Tryz.ntmps90
  go_wp2_with (go_at_call 89; refine (within_any _ _ _ (by omega) (by omega) (by omega) (by omega)).mono ?_; rintro e w' ⟨rfl, rfl⟩)
  refine bodyPost_sec 8 (w.heap.size + 1) rfl rfl rfl (by go_simp) ⟨by go_simp, ?_⟩
  exact ((Below.refl _ _).alloc (Nat.le_refl _) _).alloc (by simp) _
theorem putNumber_any (s : Nat → UInt8) (a n : Int) (v : Int) (w : World) (h0 : -9223372036854775808 ≤ a) (h1 : a ≤ 9223372036854775807) (h2 : 0 ≤ n) (h3 : n ≤ 4) (hv : 0 ≤ v) (hv' : v < 4294967296) :
    Calls Tryz.prog 90 #[.agg (secA s), .int .i64 a, .int .i64 n, .int .u32 v] w fun e w' => e = .returned (.agg (secA (putI s a v.toNat n.toNat))) ∧ Below w.heap.size w w' := by
  obtain ⟨v', rfl⟩ := Int.eq_ofNat_of_zero_le hv
  obtain ⟨n', rfl⟩ := Int.eq_ofNat_of_zero_le h2
  rw [Int.toNat_natCast, Int.toNat_natCast]
  unfold putI
  cases hw : inB a n'
  · exact putNumber_no s a n' v' w h0 h1 h2 h3 hw
  · rw [inB_iff] at hw
    obtain ⟨a', rfl⟩ := Int.eq_ofNat_of_zero_le hw.1
    exact putNumber_yes s a' n' v' w (by omega) (by omega) (by omega)
set_option maxHeartbeats 400000 in
theorem putU32_any (s : Nat → UInt8) (a v : Int) (w : World) (h0 : -9223372036854775808 ≤ a) (h1 : a ≤ 9223372036854775807) (hv : 0 ≤ v) (hv' : v < 4294967296) :
    Calls Tryz.prog 61 #[.agg (secA s), .int .i64 a, .int .u32 v] w fun e w' => e = .returned (.agg (secA (putI s a v.toNat 4))) ∧ Below w.heap.size w w' := by
  go_enter Tryz.func61, Tryz.ntmps61
  go_wp2_with (go_at_call 90; refine (putNumber_any _ _ _ _ _ (by omega) (by omega) (by omega) (by omega) (by omega) (by omega)).mono ?_; rintro e w1 ⟨rfl, hb⟩; obtain ⟨hr1, hr2⟩ := rows_below hb)
  refine bodyPost_sec 6 (w.heap.size + 1) rfl rfl rfl (by go_simp) ⟨by go_simp, ?_⟩
  exact below_row ((((Below.refl _ _).alloc (Nat.le_refl _) _).alloc (by simp) _).trans (hb.mono (by simp; omega))) (by omega) _
set_option maxHeartbeats 400000 in
theorem putU16_any (s : Nat → UInt8) (a v : Int) (w : World) (h0 : -9223372036854775808 ≤ a) (h1 : a ≤ 9223372036854775807) (hv : 0 ≤ v) (hv' : v < 65536) :
    Calls Tryz.prog 60 #[.agg (secA s), .int .i64 a, .int .u16 v] w fun e w' => e = .returned (.agg (secA (putI s a v.toNat 2))) ∧ Below w.heap.size w w' := by
  go_enter Tryz.func60, Tryz.ntmps60
  go_wp2_with (go_at_call 90; refine (putNumber_any _ _ _ _ _ (by omega) (by omega) (by omega) (by omega) (by omega) (by omega)).mono ?_; rintro e w1 ⟨rfl, hb⟩; obtain ⟨hr1, hr2⟩ := rows_below hb)
  refine bodyPost_sec 6 (w.heap.size + 1) rfl rfl rfl (by go_simp) ⟨by go_simp, ?_⟩
  exact below_row ((((Below.refl _ _).alloc (Nat.le_refl _) _).alloc (by simp) _).trans (hb.mono (by simp; omega))) (by omega) _
/-! The calls whose answers the document fixes -/
end Go.Proofs.YtklbdhpnbjhgkaaGreatDoor
namespace Go.Proofs.YtklbdhpnbjhgkaaGreatDoor
open Go.RowKit

/-! Slices of bytes -/
def bytesA (l : List UInt8) : Array Value := (l.map fun b => Value.int .u8 (b.toNat : Int)).toArray
@[simp, go_sem] theorem bytesA_size (l : List UInt8) : (bytesA l).size = l.length := by simp [bytesA]
theorem bytesA_get (l : List UInt8) (i : Nat) (h : i < l.length) : (bytesA l)[i]? = some (Value.int .u8 (l[i].toNat : Int)) := by simp [bytesA, h]
/-- The value v is a slice whose elements are the bytes l. -/
def IsB (w : World) (v : Value) (l : List UInt8) : Prop :=
  (v = .slice none 0 0 ∧ l = []) ∨ ∃ x c, v = .slice (some x) l.length c ∧ ∀ i (h : i < l.length), w.cell? (x.add i) = some (Value.int .u8 (l[i].toNat : Int))
theorem IsB.len {w : World} {v : Value} {l : List UInt8} (h : IsB w v l) : ∃ x c, v = .slice x l.length c := by
  rcases h with ⟨rfl, rfl⟩ | ⟨x, c, rfl, _⟩
  · exact ⟨none, 0, rfl⟩
  · exact ⟨some x, c, rfl⟩
theorem IsB.lt {w : World} {x : Addr} {n c : Nat} {l : List UInt8} (h : IsB w (.slice (some x) n c) l) (h0 : l ≠ []) : x.block < w.heap.size := by
  rcases h with ⟨h, _⟩ | ⟨y, d, he, hc⟩
  · cases h
  · simp only [Value.slice.injEq, Option.some.injEq] at he
    obtain ⟨rfl, _, _⟩ := he
    have h1 : 0 < l.length := List.length_pos_iff.2 h0
    have := World.block_lt_of_cell? w _ (hc 0 h1)
    have e : (x.add 0).block = x.block := by unfold Addr.add; split <;> rfl
    rwa [e] at this
theorem Addr.add_block (x : Addr) (i : Nat) : (x.add i).block = x.block := by unfold Addr.add; split <;> rfl
theorem IsB.below {B : Nat} {w w1 : World} {v : Value} {l : List UInt8} (h : IsB w v l) (hb : Below B w w1) (hB : ∀ x n c, v = .slice (some x) n c → l ≠ [] → x.block < B) : IsB w1 v l := by
  rcases h with h | ⟨x, c, rfl, hc⟩
  · exact .inl h
  · refine .inr ⟨x, c, rfl, fun i hi => ?_⟩
    have h0 : l ≠ [] := by rintro rfl; simp at hi
    rw [hb.cell (by rw [Addr.add_block]; exact hB x _ _ rfl h0)]
    exact hc i hi
theorem IsB.kept {w w1 : World} {v : Value} {l : List UInt8} (h : IsB w v l) (hb : Below w.heap.size w w1) : IsB w1 v l :=
  h.below hb fun x n c e h0 => by subst e; exact h.lt h0
theorem IsB.drew {w : World} {v : Value} {l : List UInt8} (h : IsB w v l) : IsB w.drew v l := h
/-- 'string(b)' -/
theorem IsB.str {w : World} {v : Value} {l : List UInt8} (h : IsB w v l) : (convert 33 9 v).run Tryz.prog w = .ok (.string ⟨l.toArray⟩) w := by
  rcases h with ⟨rfl, rfl⟩ | ⟨x, c, rfl, hc⟩
  · rw [run_convert_bytes_string w _ _ 5 none 0 0 Tryz.underlying33 Tryz.underlying5 Tryz.underlying9]; rfl
  · exact run_convert_bytes_back w _ _ 5 x c l Tryz.underlying33 Tryz.underlying5 Tryz.underlying9 hc
/-- The sector with the bytes l from a on. -/
def layL (s : Nat → UInt8) (a : Nat) (l : List UInt8) : Nat → UInt8 := fun j => if h : a ≤ j ∧ j < a + l.length then l[j - a]'(by omega) else s j
def layI (s : Nat → UInt8) (a : Int) (l : List UInt8) : Nat → UInt8 := if inB a l.length then layL s a.toNat l else s
theorem layL_nil (s : Nat → UInt8) (a : Nat) : layL s a [] = s := by funext j; unfold layL; rw [dif_neg (by simp)]
theorem secA_lay (s : Nat → UInt8) (o : Nat) (l : List UInt8) (h : o + l.length ≤ 64) :
    ((secA s).toList.take o ++ (bytesA l).toList ++ (secA s).toList.drop (o + l.length)).toArray = secA (layL s o l) := by
  apply Array.ext_getElem?
  intro i
  by_cases hi : i < 64
  · rw [secA_get _ i hi]
    simp only [List.getElem?_toArray, List.append_assoc]
    by_cases h1 : i < o
    · rw [List.getElem?_append_left (by simp; omega), List.getElem?_take, if_pos h1, Array.getElem?_toList, secA_get s i hi]
      unfold layL; rw [dif_neg (by omega)]
    · rw [List.getElem?_append_right (by simp; omega)]
      have e1 : (List.take o (secA s).toList).length = o := by simp; omega
      rw [e1]
      by_cases h2 : i < o + l.length
      · rw [List.getElem?_append_left (by simp; omega), Array.getElem?_toList, bytesA_get l _ (by omega)]
        unfold layL; rw [dif_pos (by omega)]
      · have e2 : (bytesA l).toList.length = l.length := by simp
        rw [List.getElem?_append_right (by omega), e2, List.getElem?_drop, Array.getElem?_toList, show o + l.length + (i - o - l.length) = i by omega, secA_get s i hi]
        unfold layL; rw [dif_neg (by omega)]
  · rw [Array.getElem?_eq_none (by simp; omega), Array.getElem?_eq_none (by simp; omega)]
theorem run_copy_into (w : World) (g o dl dc sc : Nat) (x : Addr) (ty : TypeId) (s : Nat → UInt8) (l : List UInt8) (hg : rowOk w g = true) (es : rowAt w g = secA s)
    (hx : ∀ i (h : i < l.length), w.cell? (x.add i) = some (Value.int .u8 (l[i].toNat : Int))) (hm : l.length ≤ dl) (h : o + l.length ≤ 64) :
    (Builtin.copy_ #[33, 33] ty #[.slice (some ⟨g, o, none⟩) dl dc, .slice (some x) l.length sc]).run Tryz.prog w = .ok (goInt l.length) (w.setRow g (secA (layL s o l))) := by
  obtain ⟨tg, hg', _⟩ := row_of_ok hg
  rw [es] at hg'
  have hl : (bytesA l).toList.length = l.length := by simp
  have := run_copy_row (P := Tryz.prog) w 33 33 ty 5 g o dl dc x l.length sc (secA s) tg (bytesA l).toList Tryz.underlying33 (by kernel_rfl) hg' (by rw [hl]; exact (Nat.min_eq_left hm).symm)
    (fun j v hv => by
      have hj : j < l.length := by have := (List.getElem?_eq_some_iff.1 hv).1; simpa using this
      rw [Array.getElem?_toList, bytesA_get l j hj] at hv
      rw [hx j hj]; exact hv) (by rw [hl]; simpa using h) (fun v hv => by
      simp only [bytesA, List.mem_map] at hv
      obtain ⟨b, _, rfl⟩ := hv
      rfl)
  rw [this, hl, secA_lay s o l h]
set_option maxHeartbeats 400000 in
theorem putBytes_no (s : Nat → UInt8) (a : Int) (v : Value) (l : List UInt8) (w : World) (h0 : -9223372036854775808 ≤ a) (h1 : a ≤ 9223372036854775807) (h2 : l.length ≤ maxLen) (hv : IsB w v l) (hw : inB a l.length = false) :
    Calls Tryz.prog 106 #[.agg (secA s), .int .i64 a, v] w fun e w' => e = .returned (.agg (secA s)) ∧ Below w.heap.size w w' := by
  obtain ⟨x, c, rfl⟩ := hv.len
  unfold maxLen at h2
  go_enter Tryz.func106, Tryz.ntmps106
  go_wp2_with (go_at_call 89; refine (within_any _ _ _ (by omega) (by omega) (by omega) (by omega)).mono ?_; rintro e w' ⟨rfl, rfl⟩)
  refine bodyPost_sec 6 (w.heap.size + 1) rfl rfl rfl (by go_simp) ⟨by go_simp, ?_⟩
  exact ((Below.refl _ _).alloc (Nat.le_refl _) _).alloc (by simp) _
set_option maxHeartbeats 400000 in
theorem putBytes_none (s : Nat → UInt8) (a : Nat) (v : Value) (w : World) (h1 : a ≤ 64) (hv : IsB w v []) :
    Calls Tryz.prog 106 #[.agg (secA s), .int .i64 a, v] w fun e w' => e = .returned (.agg (secA s)) ∧ Below w.heap.size w w' := by
  have hw : inB (a : Int) 0 = true := by simp [inB]; omega
  obtain ⟨x, c, rfl⟩ := hv.len
  have hsl := fun W => run_sliceAt_lo W w.heap.size a h1
  have hcp : ∀ ty (y : Option Addr) (n m : Nat) (W : World), (Builtin.copy_ #[33, 33] ty #[.slice y n m, .slice x 0 c]).run Tryz.prog W = .ok (goInt 0) W :=
    fun ty y n m W => run_copy_none _ _ _ ty 5 _ _ _ _ _ _ Tryz.underlying33 (by kernel_rfl) (by simp)
  go_enter Tryz.func106, Tryz.ntmps106
  go_wp2_with (go_at_call 89; refine (within_any _ _ _ (by omega) (by omega) (by omega) (by omega)).mono ?_; rintro e w' ⟨rfl, rfl⟩)
  all_goals
    refine bodyPost_sec 6 (w.heap.size + 1) rfl rfl rfl (by go_simp) ⟨by go_simp, ?_⟩
    exact ((Below.refl _ _).alloc (Nat.le_refl _) _).alloc (by simp) _
set_option maxHeartbeats 400000 in
theorem putBytes_yes (s : Nat → UInt8) (a c : Nat) (x : Addr) (l : List UInt8) (w : World) (h2 : 0 < l.length) (h : a + l.length ≤ 64)
    (hx : ∀ i (h : i < l.length), w.cell? (x.add i) = some (Value.int .u8 (l[i].toNat : Int))) :
    Calls Tryz.prog 106 #[.agg (secA s), .int .i64 a, .slice (some x) l.length c] w fun e w' => e = .returned (.agg (secA (layL s a l))) ∧ Below w.heap.size w w' := by
  have hw : inB (a : Int) l.length = true := by simp [inB]; omega
  have hcp : ∀ ty, (Builtin.copy_ #[33, 33] ty #[.slice (some ⟨w.heap.size, a, none⟩) (64 - a) (64 - a), .slice (some x) l.length c]).run Tryz.prog
      ((w.alloc (.cells (secA s) 102)).alloc (.cells (secA secZ) 102)) = .ok (goInt l.length) ((w.alloc (.cells (secA (layL s a l)) 102)).alloc (.cells (secA secZ) 102)) := by
    intro ty
    rw [run_copy_into _ _ _ _ _ _ x ty s l (by go_simp) (by go_simp) (fun i hi => ?_) (by omega) (by omega)]
    · go_simp
    · have h9 := World.block_lt_of_cell? w _ (hx i hi)
      rw [Below.cell (((Below.refl w.heap.size w).alloc (Nat.le_refl _) _).alloc (by simp) _) h9]
      exact hx i hi
  clear hx
  have hsl := fun W => run_sliceAt_lo W w.heap.size a (by omega)
  have h64 : ¬ 64 = a := by omega
  go_enter Tryz.func106, Tryz.ntmps106
  go_wp2_with (go_at_call 89; refine (within_any _ _ _ (by omega) (by omega) (by omega) (by omega)).mono ?_; rintro e w' ⟨rfl, rfl⟩)
  refine bodyPost_sec 6 (w.heap.size + 1) rfl rfl rfl (by go_simp) ⟨by go_simp, ?_⟩
  exact ((Below.refl _ _).alloc (Nat.le_refl _) _).alloc (by simp) _
theorem putBytes_any (s : Nat → UInt8) (a : Int) (v : Value) (l : List UInt8) (w : World) (h0 : -9223372036854775808 ≤ a) (h1 : a ≤ 9223372036854775807) (h2 : l.length ≤ maxLen) (hv : IsB w v l) :
    Calls Tryz.prog 106 #[.agg (secA s), .int .i64 a, v] w fun e w' => e = .returned (.agg (secA (layI s a l))) ∧ Below w.heap.size w w' := by
  unfold layI
  cases hw : inB a l.length
  · exact putBytes_no s a v l w h0 h1 h2 hv hw
  · rw [inB_iff] at hw
    obtain ⟨a', rfl⟩ := Int.eq_ofNat_of_zero_le hw.1
    rw [if_pos rfl, Int.toNat_natCast]
    by_cases hl : l = []
    · subst hl; rw [layL_nil]; exact putBytes_none s a' v w (by simp at hw; omega) hv
    · rcases hv with ⟨_, h⟩ | ⟨x, c, rfl, hc⟩
      · exact absurd h hl
      · exact putBytes_yes s a' c x l w (List.length_pos_iff.2 hl) (by omega) hc
/-! Bytes read -/
def subL (s : Nat → UInt8) (a n : Nat) : List UInt8 := (List.range n).map fun i => s (a + i)
@[simp] theorem subL_length (s : Nat → UInt8) (a n : Nat) : (subL s a n).length = n := by simp [subL]
theorem subL_get (s : Nat → UInt8) (a n i : Nat) (h : i < (subL s a n).length) : (subL s a n)[i] = s (a + i) := by simp [subL]
theorem info5 : (Tryz.prog.info? 5).map (fun i => (i.zero, i.size, i.bytes)) = some (some (.int .u8 0), 1, 1) := by kernel_rfl
theorem made_bytes (n : Nat) : madeCells #[Value.int .u8 0] n = bytesA (List.replicate n 0) := by
  apply Array.ext_getElem?
  intro i
  by_cases hi : i < n
  · rw [bytesA_get _ i (by simpa using hi)]; simp [madeCells, hi, Nat.mod_one]
  · rw [Array.getElem?_eq_none (by rw [size_madeCells]; omega), Array.getElem?_eq_none (by simp; omega)]
theorem run_mk (w : World) (n : Nat) (h : n ≤ 281474976710656) : (Instr.makeSlice 33 (.int .i64 (n : Int)) (.int .i64 (n : Int))).run Tryz.prog w =
    .ok (.slice (some ⟨w.heap.size, 0, none⟩) n n) (w.alloc (.cells (bytesA (List.replicate n 0)) 5)) := by
  obtain ⟨i, hi, hzz⟩ := Option.map_eq_some_iff.1 info5
  simp only [Prod.mk.injEq] at hzz
  obtain ⟨hz, hs, hb⟩ := hzz
  have hr := run_make (P := Tryz.prog) w 33 5 i _ Tryz.underlying33 hi hz .i64 .i64 n n (by omega) (by omega) (by rw [hb]; omega) (by omega)
  simp only [Int.toNat_natCast, hs, Nat.mul_one] at hr
  rw [hr, ← made_bytes]; rfl
/-- A block that holds the bytes l. -/
def rowB (w : World) (g : Nat) (l : List UInt8) : Prop := w.heap[g]? = some (.cells (bytesA l) 5 (0, 0))
theorem rowB.cell {w : World} {g : Nat} {l : List UInt8} (h : rowB w g l) (i : Nat) (hi : i < l.length) : w.cell? ⟨g, i, none⟩ = some (Value.int .u8 (l[i].toNat : Int)) := by
  rw [cell_of_row w g i _ _ _ h, bytesA_get l i hi]
theorem rowB.isB {w : World} {g : Nat} {l : List UInt8} (h : rowB w g l) (c : Nat) : IsB w (.slice (some ⟨g, 0, none⟩) l.length c) l :=
  .inr ⟨_, c, rfl, fun i hi => by
    have hadd : (⟨g, 0, none⟩ : Addr).add i = ⟨g, i, none⟩ := by unfold Addr.add; split <;> simp_all
    rw [hadd]; exact h.cell i hi⟩
theorem rowB.lt {w : World} {g : Nat} {l : List UInt8} (h : rowB w g l) : g < w.heap.size := (Array.getElem?_eq_some_iff.1 h).1
theorem rowB.kept {w w1 : World} {g : Nat} {l : List UInt8} (h : rowB w g l) (hb : Below w.heap.size w w1) : rowB w1 g l := by unfold rowB; rw [hb.block g h.lt]; exact h
theorem run_copy_out (w : World) (g b p n dc sc : Nat) (ty : TypeId) (s : Nat → UInt8) (hg : rowB w g (List.replicate n 0)) (hb : rowOk w b = true) (es : rowAt w b = secA s) (h : p + n ≤ 64) :
    (Builtin.copy_ #[33, 33] ty #[.slice (some ⟨g, 0, none⟩) n dc, .slice (some ⟨b, p, none⟩) n sc]).run Tryz.prog w = .ok (goInt n) (w.setRow g (bytesA (subL s p n))) := by
  obtain ⟨tb, hb', _⟩ := row_of_ok hb
  rw [es] at hb'
  have hl : (bytesA (subL s p n)).toList.length = n := by simp
  have hadd : ∀ j, (⟨b, p, none⟩ : Addr).add j = ⟨b, p + j, none⟩ := fun j => by unfold Addr.add; split <;> simp_all
  have := run_copy_row (P := Tryz.prog) w 33 33 ty 5 g 0 n dc ⟨b, p, none⟩ n sc (bytesA (List.replicate n 0)) 5 (bytesA (subL s p n)).toList Tryz.underlying33 (by kernel_rfl) hg (by simp)
    (fun j v hv => by
      have hj : j < (subL s p n).length := by have := (List.getElem?_eq_some_iff.1 hv).1; simpa using this
      rw [Array.getElem?_toList, bytesA_get _ j hj, subL_get] at hv
      rw [hadd, cell_of_row w b (p + j) _ tb _ hb', secA_get s _ (by simp at hj; omega)]; exact hv) (by simp) (fun v hv => by
      simp only [bytesA, List.mem_map] at hv
      obtain ⟨b, _, rfl⟩ := hv
      rfl)
  rw [this, hl, List.drop_of_length_le (by simp)]
  simp
set_option maxRecDepth 100000 in
set_option maxHeartbeats 400000 in
theorem bytes_yes (s : Nat → UInt8) (a n : Nat) (w : World) (h : a + n ≤ 64) :
    Calls Tryz.prog 59 #[.agg (secA s), .int .i64 a, .int .i64 n] w fun e w' => ∃ g, e = .returned (.slice (some ⟨g, 0, none⟩) n n) ∧ w.heap.size ≤ g ∧ rowB w' g (subL s a n) ∧ Below w.heap.size w w' := by
  have hw : inB (a : Int) n = true := by simp [inB]; omega
  have hmk := fun W => run_mk W n (by omega)
  have hsl := fun W => run_sliceAt_lh W w.heap.size a n h
  have hcp : ∀ ty sc y, (¬ 64 = a → y = a) → (Builtin.copy_ #[33, 33] ty #[.slice (some ⟨w.heap.size + 1, 0, none⟩) n n, .slice (some ⟨w.heap.size, y, none⟩) n sc]).run Tryz.prog
      ((w.alloc (.cells (secA s) 102)).alloc (.cells (bytesA (List.replicate n 0)) 5)) = .ok (goInt n) ((w.alloc (.cells (secA s) 102)).alloc (.cells (bytesA (subL s a n)) 5)) := by
    intro ty sc y hy
    by_cases h0 : n = 0
    · subst h0
      exact run_copy_none _ _ _ ty 5 _ _ _ _ _ _ Tryz.underlying33 (by kernel_rfl) (by simp)
    · obtain rfl := hy (by omega)
      rw [run_copy_out _ _ _ _ _ _ _ ty s (by unfold rowB; exact heap_alloc2_new _ _ _) (by go_simp) (by go_simp) h]
      go_simp
  go_enter Tryz.func59, Tryz.ntmps59
  go_wp2_with (go_at_call 89; refine (within_any _ _ _ (by omega) (by omega) (by omega) (by omega)).mono ?_; rintro e w' ⟨rfl, rfl⟩)
  all_goals
    go_ret
    refine ⟨w.heap.size + 1, rfl, by omega, heap_alloc2_new _ _ _, ?_⟩
    exact ((Below.refl _ _).alloc (Nat.le_refl _) _).alloc (by simp) _
theorem bytes_in (s : Nat → UInt8) (a n : Int) (w : World) (h : inB a n = true) :
    Calls Tryz.prog 59 #[.agg (secA s), .int .i64 a, .int .i64 n] w fun e w' => ∃ g, e = .returned (.slice (some ⟨g, 0, none⟩) n.toNat n.toNat) ∧ w.heap.size ≤ g ∧ rowB w' g (subL s a.toNat n.toNat) ∧ Below w.heap.size w w' := by
  rw [inB_iff] at h
  obtain ⟨a', rfl⟩ := Int.eq_ofNat_of_zero_le h.1
  obtain ⟨n', rfl⟩ := Int.eq_ofNat_of_zero_le h.2.1
  exact bytes_yes s a' n' w (by omega)
theorem IsB.spot {w : World} {x : Option Addr} {c : Nat} {l : List UInt8} (hv : IsB w (.slice x l.length c) l) (k : Nat) (hk : k < l.length) :
    ∃ b o, x = some ⟨b, o, none⟩ ∧ b < w.heap.size ∧ w.cell? ⟨b, o + k, none⟩ = some (Value.int .u8 ((l[k]?.getD 0).toNat : Int)) := by
  rcases hv with ⟨_, rfl⟩ | ⟨y, d, he, hc⟩
  · simp at hk
  · simp only [Value.slice.injEq, true_and] at he
    obtain ⟨rfl, rfl⟩ := he
    have h9 := hc k hk
    obtain ⟨b, o, sp⟩ := y
    have hsp : sp = none := by simpa [Addr.add] using World.cell?_spot (hc 0 (by omega))
    subst hsp
    have hlt := World.block_lt_of_cell? w _ h9
    have hadd : (⟨b, o, none⟩ : Addr).add k = ⟨b, o + k, none⟩ := by unfold Addr.add; split <;> simp_all
    rw [hadd] at h9 hlt
    exact ⟨b, o, rfl, hlt, by rw [h9]; simp [hk]⟩

theorem addr_add (b o i : Nat) : (⟨b, o, none⟩ : Addr).add i = ⟨b, o + i, none⟩ := by unfold Addr.add; split <;> simp_all
end Go.Proofs.YtklbdhpnbjhgkaaGreatDoor
namespace Go.Proofs.YtklbdhpnbjhgkaaGreatDoor
open Go.RowKit

/-! A region that draws its order, whose operations read rows that nobody writes, and whose calls leave those rows alone: one walk in the order of the text. -/

/-- A world of which p is known. -/
structure Kw (p : World → Prop) where
  w : World
  ok : p w
/-- A callee's contract inside such a region. -/
theorem Calls.kept {p : World → Prop} {f : FuncId} {args : Array Value} {w : World} {v : Value} {R : World → Prop} (h : Calls Tryz.prog f args w fun e w' => e = .returned v ∧ R w') (hR : ∀ w', R w' → p w') :
    Calls Tryz.prog f args w fun e w' => e = .returned v ∧ ∃ m : Kw p, w' = m.w :=
  h.mono fun _ w' ⟨he, hr⟩ => ⟨he, ⟨w', hR w' hr⟩, rfl⟩

end Go.Proofs.YtklbdhpnbjhgkaaGreatDoor
namespace Go.Proofs.YtklbdhpnbjhgkaaGreatDoor
open Go.RowKit

/-! A region that draws its order, in whatever order its operations come: each operation owes what it leaves in its slot (a fact that stays true while memory grows), out of what those owe that it waits for. Nothing that was there turns. -/

def slot (a : Act) (o : Oper) : Value := match o.dst with | some d => a.eval (.tmp d) | none => undef
/-- The slot holds this value. -/
def Fx (c : Value) : Value → World → Prop := fun v _ => v = c
def outB (l : List Oper) (t : Nat) : Bool := l.all fun o => !(o.dst == some t)
def dep1 (l : List Oper) (φ : List (Value → World → Prop)) (a : Act) (w : World) (j : Nat) : Prop :=
  match l[j]?, φ[j]? with
  | some o, some f => f (slot a o) w
  | _, _ => True
def depsOf (l : List Oper) (φ : List (Value → World → Prop)) (a : Act) (w : World) : List Edge → Prop
  | [] => True
  | e :: r => (Region.binds .any e = true → dep1 l φ a w e.on) ∧ depsOf l φ a w r
/-- One operation's duty. -/
def Duty (l : List Oper) (φ : List (Value → World → Prop)) (W : World) (a0 : Act) (Q : Exit → Act → World → Prop) (o : Oper) (f : Value → World → Prop) : Prop :=
  ∀ a w, Below W.heap.size W w → (∀ t, outB l t = true → a.eval (.tmp t) = a0.eval (.tmp t)) → depsOf l φ a w o.after.toList →
    (Region.wanted o (yielded l.toArray a.tmps) = true → o.wp Tryz.prog a w (fun a' w' => ∃ v, a' = a.put o.dst v ∧ f v w' ∧ Below w.heap.size w w') Q) ∧
    (Region.wanted o (yielded l.toArray a.tmps) = false → f undef w)
def Duties (l : List Oper) (φ : List (Value → World → Prop)) (W : World) (a0 : Act) (Q : Exit → Act → World → Prop) : List Oper → List (Value → World → Prop) → Prop
  | o :: r, f :: g => Duty l φ W a0 Q o f ∧ Duties l φ W a0 Q r g
  | _, _ => True
def puts (vs : Nat → Value) : List Oper → Nat → Act → Act
  | [], _, a => a
  | o :: r, k, a => puts vs r (k + 1) (a.put o.dst (vs k))
def owed (vs : Nat → Value) (w : World) : List (Value → World → Prop) → Nat → Prop
  | [], _ => True
  | f :: g, k => f (vs k) w ∧ owed vs w g (k + 1)
/-- The closed facts: the slots differ; each waits for earlier ones alone; at most one operation more than duties, and it waits for all. -/
def relyB (l : List Oper) (m : Nat) : Bool :=
  (List.range l.length).all (fun i => (List.range l.length).all fun j => i == j || (match l[i]?, l[j]? with | some a, some b => a.dst.isNone || !(a.dst == b.dst) | _, _ => true)) &&
  (List.range l.length).all (fun i => match l[i]? with | some o => o.after.all fun e => decide (e.on < i) | none => true) &&
  decide (m ≤ l.length) && decide (l.length ≤ m + 1) &&
  (match l[m]? with | some o => (List.range m).all (fun j => o.after.toList.any fun e => e.on == j && Region.binds .any e) | none => true)

def dstB (l : List Oper) (n : Nat) : Bool := l.all fun o => match o.dst with | some d => decide (d < n) | none => false
theorem duties_get {l : List Oper} {φ : List (Value → World → Prop)} {W : World} {a0 : Act} {Q : Exit → Act → World → Prop} : ∀ {r : List Oper} {g : List (Value → World → Prop)}, Duties l φ W a0 Q r g →
    ∀ (i : Nat) o f, r[i]? = some o → g[i]? = some f → Duty l φ W a0 Q o f
  | [], _, _, _, _, _, h, _ => by simp at h
  | _ :: _, [], _, _, _, _, _, h => by simp at h
  | o :: r, f :: g, h, 0, o', f', h1, h2 => by simp at h1 h2; subst h1; subst h2; exact h.1
  | o :: r, f :: g, h, i + 1, o', f', h1, h2 => duties_get h.2 i o' f' (by simpa using h1) (by simpa using h2)
theorem depsOf_of {l : List Oper} {φ : List (Value → World → Prop)} {a : Act} {w : World} : ∀ (es : List Edge), (∀ e ∈ es, Region.binds .any e = true → dep1 l φ a w e.on) → depsOf l φ a w es
  | [], _ => trivial
  | e :: r, h => ⟨h e (by simp), depsOf_of r fun e' he => h e' (by simp [he])⟩
theorem owed_of {vs : Nat → Value} {w : World} : ∀ (φ : List (Value → World → Prop)) (k : Nat), (∀ (i : Nat) f, φ[i]? = some f → f (vs (k + i)) w) → owed vs w φ k
  | [], _, _ => trivial
  | f :: g, k, h => ⟨h 0 f rfl, owed_of g (k + 1) fun i f' hf => by rw [Nat.add_assoc, Nat.add_comm 1 i]; exact h (i + 1) f' (by simpa using hf)⟩
theorem eval_tmp (a : Act) (t : Nat) : a.eval (.tmp t) = a.tmps.getD t undef := rfl
theorem size_put (a : Act) (d : Option Tmp) (v : Value) : (a.put d v).tmps.size = a.tmps.size := by cases d <;> simp [Act.put]
theorem defers_put (a : Act) (d : Option Tmp) (v : Value) : (a.put d v).defers = a.defers := by cases d <;> simp [Act.put]
/-- A frame is the first one with the slots laid over. -/
theorem puts_eq (vs : Nat → Value) (a : Act) : ∀ (l : List Oper) (k : Nat) (a0 : Act), a.defers = a0.defers → a.tmps.size = a0.tmps.size →
    (∀ t, outB l t = true → a.eval (.tmp t) = a0.eval (.tmp t)) → (∀ (i : Nat) o d, l[i]? = some o → o.dst = some d → vs (k + i) = a.eval (.tmp d)) → a = puts vs l k a0
  | [], _, a0, hd, hs, ho, _ => by
    obtain ⟨t, d⟩ := a
    obtain ⟨t0, d0⟩ := a0
    simp only at hd hs
    subst hd
    have : t = t0 := by
      apply Array.ext hs
      intro i h1 h2
      have := ho i (by simp [outB])
      simpa [eval_tmp, h1, h2] using this
    rw [this]; rfl
  | o :: r, k, a0, hd, hs, ho, hv => by
    refine puts_eq vs a r (k + 1) (a0.put o.dst (vs k)) (by rw [defers_put]; exact hd) (by rw [size_put]; exact hs) (fun t ht => ?_) (fun i o' d h1 h2 => by
      rw [Nat.add_assoc, Nat.add_comm 1 i]; exact hv (i + 1) o' d (by simpa using h1) h2)
    by_cases h : o.dst = some t
    · have h1 := hv 0 o t rfl h
      rw [h, Nat.add_zero] at *
      rw [h1]
      by_cases hlt : t < a0.tmps.size
      · simp [eval_tmp, Act.put, hlt]
      · simp [eval_tmp, Act.put, hlt, hs]
    · rw [Act.eval_put (x := .tmp t) (fun d hd' he => h (by rw [hd']; cases he; rfl))]
      exact ho t (by simp only [outB, List.all_cons, Bool.and_eq_true] at ht ⊢; exact ⟨by simp [h], ht⟩)
theorem filter_lt (f g : Nat → Bool) (i : Nat) (hfi : f i = true) (hgi : g i = false) (hle : ∀ j, g j = true → f j = true) : ∀ l : List Nat, i ∈ l → (l.filter g).length < (l.filter f).length
  | [], h => by cases h
  | x :: l, h => by
    have hmono : (l.filter g).length ≤ (l.filter f).length := by
      clear h
      induction l with
      | nil => simp
      | cons y l ih =>
        by_cases hy : g y = true
        · simp [hy, hle y hy]; omega
        · simp only [List.filter_cons, hy]
          by_cases hy' : f y = true <;> simp [hy'] <;> omega
    by_cases hx : x = i
    · subst hx; simp [hfi, hgi]; omega
    · have ih := filter_lt f g i hfi hgi hle l (by simpa [Ne.symm hx] using h)
      by_cases hy : g x = true
      · simp [hy, hle x hy]; omega
      · simp only [List.filter_cons, hy]
        by_cases hy' : f x = true <;> simp [hy'] <;> omega

/-- What holds while the region goes: of those that have come up what they owe. -/
def RI (l : List Oper) (φ : List (Value → World → Prop)) (W : World) (a0 : Act) (listed : Array Bool) (a : Act) (w : World) : Prop :=
  Below W.heap.size W w ∧ a.defers = a0.defers ∧ a.tmps.size = a0.tmps.size ∧ (∀ t, outB (l.take φ.length) t = true → a.eval (.tmp t) = a0.eval (.tmp t)) ∧
  ∀ (i : Nat) o f, l[i]? = some o → φ[i]? = some f → listed.getD i false = true → f (slot a o) w
theorem slot_put_ne {a : Act} {o o' : Oper} (v : Value) (h : o'.dst.isNone = true ∨ o'.dst ≠ o.dst) : slot (a.put o.dst v) o' = slot a o' := by
  unfold slot
  cases hd : o'.dst with
  | none => rfl
  | some d => exact Act.eval_put (x := .tmp d) (fun e he hc => by cases hc; rcases h with h | h <;> simp [hd, he] at h)
theorem allListed {l : List Oper} (hB : ∀ (i : Nat) o, l[i]? = some o → ∀ e ∈ o.after, e.on < i) {listed : Array Bool} (hsz : listed.size = l.length) (hr : Region.ready .any l.toArray listed = []) :
    ∀ i, i < l.length → listed.getD i false = true := by
  intro i
  induction i using Nat.strongRecOn with
  | _ i ih =>
    intro hi
    cases hl : listed.getD i false with
    | true => rfl
    | false =>
      have hj : i ∈ Region.ready .any l.toArray listed := by
        rw [mem_ready]
        refine ⟨?_, l[i], by simp [hi], fun e he _ => ih e.on (hB i _ (List.getElem?_eq_getElem hi) e he) ?_⟩
        · have : i < listed.size := by omega
          simpa [this] using hl
        · have := hB i _ (List.getElem?_eq_getElem hi) e he; omega
      rw [hr] at hj; cases hj
theorem ready_nil {l : List Oper} {listed : Array Bool} (h : ∀ i, i < l.length → listed.getD i false = true) : Region.ready .any l.toArray listed = [] := by
  apply List.eq_nil_iff_forall_not_mem.2
  intro i hi
  rw [mem_ready] at hi
  obtain ⟨h0, o, ho, _⟩ := hi
  have hlt : i < l.length := by have := (Array.getElem?_eq_some_iff.1 ho).1; simpa using this
  have h1 := h i hlt
  by_cases hs : i < listed.size
  · simp [hs] at h0 h1; rw [h0] at h1; cases h1
  · simp [hs] at h1
theorem wpAny_end {l : List Oper} {Q : Exit → Act → World → Prop} {listed : Array Bool} {a : Act} {w : World} (h : ∀ i, i < l.length → listed.getD i false = true) (hq : Q .normal a w) : ∀ fuel, wpAny Tryz.prog .any l.toArray Q fuel listed a w
  | 0 => ⟨ready_nil h, hq⟩
  | fuel + 1 => ⟨fun _ => hq, by rw [ready_nil h]; simp⟩
theorem relyB_spec {l : List Oper} {m : Nat} (h : relyB l m = true) :
    (∀ (i j : Nat) a b, l[i]? = some a → l[j]? = some b → i ≠ j → a.dst.isNone = true ∨ a.dst ≠ b.dst) ∧ (∀ (i : Nat) o, l[i]? = some o → ∀ e ∈ o.after, e.on < i) ∧ m ≤ l.length ∧ l.length ≤ m + 1 ∧
    (∀ o, l[m]? = some o → ∀ j, j < m → ∃ e ∈ o.after, e.on = j ∧ Region.binds .any e = true) := by
  simp only [relyB, Bool.and_eq_true, List.all_eq_true, List.mem_range, decide_eq_true_eq] at h
  obtain ⟨⟨⟨⟨h1, h2⟩, h3⟩, h4⟩, h5⟩ := h
  refine ⟨fun i j a b hi hj hne => ?_, fun i o hi e he => ?_, h3, h4, fun o ho j hj => ?_⟩
  · have := h1 i (List.getElem?_eq_some_iff.1 hi).1 j (List.getElem?_eq_some_iff.1 hj).1
    simp only [hi, hj, Bool.or_eq_true, beq_iff_eq, Bool.not_eq_true', beq_eq_false_iff_ne] at this
    rcases this with h | h | h
    · exact absurd h hne
    · exact .inl h
    · exact .inr h
  · have := h2 i (List.getElem?_eq_some_iff.1 hi).1
    simp only [hi, Array.all_eq_true_iff_forall_mem, decide_eq_true_eq] at this
    exact this e he
  · simp only [ho, List.all_eq_true, List.mem_range, List.any_eq_true, Bool.and_eq_true, beq_iff_eq] at h5
    obtain ⟨e, he, h6, h7⟩ := h5 j hj
    exact ⟨e, by simpa using he, h6, h7⟩
theorem rely_any {l : List Oper} {φ : List (Value → World → Prop)} {W : World} {a0 : Act} {Q : Exit → Act → World → Prop} (hB : relyB l φ.length = true) (hD : dstB (l.take φ.length) a0.tmps.size = true)
    (hmono : ∀ f ∈ φ, ∀ v w w', f v w → Below w.heap.size w w' → f v w') (hstep : Duties l φ W a0 Q l φ)
    (hend : ∀ vs w, Below W.heap.size W w → owed vs w φ 0 → wpList Tryz.prog l.toArray Q (l.drop φ.length) (puts vs (l.take φ.length) 0 a0) w) :
    ∀ (fuel : Nat) (listed : Array Bool) (a : Act) (w : World), ((List.range l.length).filter fun j => !listed.getD j false).length ≤ fuel → listed.size = l.length →
      (φ.length < l.length → listed.getD φ.length false = false) → RI l φ W a0 listed a w → wpAny Tryz.prog .any l.toArray Q fuel listed a w := by
  obtain ⟨hne, hlt, hm1, hm2, htail⟩ := relyB_spec hB
  have fin : ∀ (listed : Array Bool) (a : Act) (w : World), (∀ i, i < φ.length → listed.getD i false = true) → RI l φ W a0 listed a w → wpList Tryz.prog l.toArray Q (l.drop φ.length) a w := by
    intro listed a w hall hI
    obtain ⟨hb, hd, hs, hout, hf⟩ := hI
    have hv : ∀ (i : Nat) o f, l[i]? = some o → φ[i]? = some f → f (slot a o) w := fun i o f h1 h2 => hf i o f h1 h2 (hall i (List.getElem?_eq_some_iff.1 h2).1)
    have e := puts_eq (fun i => match l[i]? with | some o => slot a o | none => undef) a (l.take φ.length) 0 a0 hd hs hout (fun i o d h1 h2 => by
      have h1' : l[i]? = some o := by rw [List.getElem?_take] at h1; split at h1; exact h1; cases h1
      simp [h1', slot, h2])
    rw [e]
    refine hend _ w hb (owed_of φ 0 fun i f hi => ?_)
    have hi' : i < l.length := by have := (List.getElem?_eq_some_iff.1 hi).1; omega
    simp only [Nat.zero_add, List.getElem?_eq_getElem hi']
    exact hv i _ f (List.getElem?_eq_getElem hi') hi
  have none_left : ∀ (listed : Array Bool) (a : Act) (w : World), (∀ i, i < l.length → listed.getD i false = true) → (φ.length < l.length → listed.getD φ.length false = false) → RI l φ W a0 listed a w → Q .normal a w := by
    intro listed a w hall ht hI
    have e : φ.length = l.length := by
      rcases Nat.lt_or_ge φ.length l.length with h | h
      · have := ht h; rw [hall _ h] at this; cases this
      · omega
    have := fin listed a w (fun i hi => hall i (by omega)) hI
    rw [e, List.drop_length] at this
    exact this
  intro fuel
  induction fuel with
  | zero =>
    intro listed a w hc hsz ht hI
    have hall : ∀ i, i < l.length → listed.getD i false = true := fun i hi => by
      cases hl : listed.getD i false with
      | true => rfl
      | false =>
        have : i ∈ (List.range l.length).filter fun j => !listed.getD j false := by
          rw [List.mem_filter, hl]; simp [hi]
        have := List.length_pos_of_mem this; omega
    exact ⟨ready_nil hall, none_left listed a w hall ht hI⟩
  | succ fuel ih =>
    intro listed a w hc hsz ht hI
    refine ⟨fun hr => none_left listed a w (allListed hlt hsz hr) ht hI, fun i hi => ?_⟩
    rw [mem_ready] at hi
    obtain ⟨hun, o, ho, hdep⟩ := hi
    have ho' : l[i]? = some o := by simpa using ho
    have hil : i < l.length := (List.getElem?_eq_some_iff.1 ho').1
    have hif : listed.getD i false = false := by
      have : i < listed.size := by omega
      simpa [this] using hun
    have hset : ∀ j, j ≠ i → (listed.setIfInBounds i true).getD j false = listed.getD j false := fun j hj => getD_set_ne false (Ne.symm hj)
    have hseti : (listed.setIfInBounds i true).getD i false = true := by
      have : i < listed.size := by omega
      simp [this]
    rcases Nat.lt_or_ge i φ.length with him | him
    · -- a duty
      have hfi : φ[i]? = some φ[i] := List.getElem?_eq_getElem him
      have hcnt : ((List.range l.length).filter fun j => !(listed.setIfInBounds i true).getD j false).length ≤ fuel := by
        have := filter_lt (fun j => !listed.getD j false) (fun j => !(listed.setIfInBounds i true).getD j false) i (by simp only [hif]; rfl) (by simp only [hseti]; rfl) (fun j hj => by
          by_cases hji : j = i
          · subst hji; simp only [hif]; rfl
          · simp only [hset j hji] at hj; exact hj) (List.range l.length) (by simpa using hil)
        omega
      have htl : φ.length < l.length → (listed.setIfInBounds i true).getD φ.length false = false := fun h => by rw [hset _ (by omega)]; exact ht h
      obtain ⟨hb, hd, hs, hout, hf⟩ := hI
      have hdeps : depsOf l φ a w o.after.toList := depsOf_of _ fun e he hbd => by
        unfold dep1
        split
        · rename_i oj f h1 h2
          exact hf e.on oj f h1 h2 (hdep e (by simpa using he) hbd)
        · trivial
      have hsub : ∀ t, outB l t = true → outB (l.take φ.length) t = true := fun t h => by
        simp only [outB, List.all_eq_true] at h ⊢
        exact fun x hx => h x (List.mem_of_mem_take hx)
      obtain ⟨hw1, hw2⟩ := duties_get hstep i o φ[i] ho' hfi a w hb (fun t h => hout t (hsub t h)) hdeps
      have hnew : ∀ v w', φ[i] v w' → Below w.heap.size w w' → RI l φ W a0 (listed.setIfInBounds i true) (a.put o.dst v) w' := fun v w' hφ hg => by
        refine ⟨hb.trans (hg.mono hb.size), by rw [defers_put]; exact hd, by rw [size_put]; exact hs, fun t h => ?_, fun j oj f h1 h2 h3 => ?_⟩
        · rw [Act.eval_put (x := .tmp t) (fun d hd' he => by
            cases he
            simp only [outB, List.all_eq_true] at h
            have hmem : o ∈ l.take φ.length := by
              rw [List.mem_iff_getElem?]; exact ⟨i, by rw [List.getElem?_take, if_pos him]; exact ho'⟩
            have := h o hmem
            simp [hd'] at this)]
          exact hout t h
        · by_cases hji : j = i
          · subst hji
            rw [ho'] at h1; cases h1
            rw [hfi] at h2; cases h2
            have hmem : o ∈ l.take φ.length := by
              rw [List.mem_iff_getElem?]; exact ⟨j, by rw [List.getElem?_take, if_pos him]; exact ho'⟩
            simp only [dstB, List.all_eq_true] at hD
            have hd1 := hD o hmem
            unfold slot
            cases hdo : o.dst with
            | none => simp [hdo] at hd1
            | some d =>
              have hd2 : d < a0.tmps.size := by simpa [hdo] using hd1
              have e : (a.put (some d) v).eval (.tmp d) = v := by
                have : d < a.tmps.size := by rw [hs]; exact hd2
                simp [eval_tmp, Act.put, this]
              simp only [e]
              exact hφ
          · rw [slot_put_ne v (hne j i oj o h1 ho' hji)]
            exact hmono f (List.mem_of_getElem? h2) _ _ _ (hf j oj f h1 h2 (by rw [← hset j hji]; exact h3)) hg
      unfold wpOp
      simp only [List.getElem?_toArray, ho']
      split
      · rename_i hw
        refine .inl (Oper.wp_mono (fun a' w' h => ?_) (hw1 hw))
        obtain ⟨v, rfl, hφ, hg⟩ := h
        exact ih _ _ _ hcnt (by simpa using hsz) htl (hnew v w' hφ hg)
      · rename_i hw
        exact ih _ _ _ hcnt (by simpa using hsz) htl (hnew undef w (hw2 (by simpa using hw)) (Below.refl _ _))
    · -- the last one
      have hil' : i = φ.length := by omega
      have hall : ∀ j, j < φ.length → listed.getD j false = true := fun j hj => by
        obtain ⟨e, he, h1, h2⟩ := htail o (by rw [← hil']; exact ho') j hj
        rw [← h1]; exact hdep e he h2
      have hx := fin listed a w hall hI
      have hdrop : l.drop φ.length = [o] := by
        rw [← hil', List.drop_eq_getElem_cons hil, List.drop_of_length_le (by omega)]
        have := ho'; rw [List.getElem?_eq_getElem hil] at this; cases this; rfl
      rw [hdrop] at hx
      have hl2 : ∀ j, j < l.length → (listed.setIfInBounds i true).getD j false = true := fun j hj => by
        by_cases hji : j = i
        · subst hji; exact hseti
        · rw [hset j hji]; exact hall j (by omega)
      unfold wpOp
      simp only [List.getElem?_toArray, ho']
      unfold wpList at hx
      split
      · rename_i hw
        simp only [hw, if_true] at hx
        exact hx.imp (Oper.wp_mono fun a' w' h => wpAny_end hl2 h fuel) id
      · rename_i hw
        simp only [hw] at hx
        exact wpAny_end hl2 hx fuel

/-- THE RULE. -/
theorem wp_region_rely {l : List Oper} {id : Nat} {W : World} {a0 : Act} {Q : Exit → Act → World → Prop} (φ : List (Value → World → Prop)) (hB : relyB l φ.length = true) (hD : dstB (l.take φ.length) a0.tmps.size = true)
    (hmono : ∀ f ∈ φ, ∀ v w w', f v w → Below w.heap.size w w' → f v w') (hstep : Duties l φ W a0 Q l φ)
    (hend : ∀ vs w, Below W.heap.size W w → owed vs w φ 0 → wpList Tryz.prog l.toArray Q (l.drop φ.length) (puts vs (l.take φ.length) 0 a0) w) : (Code.region id l.toArray true).wp Tryz.prog Q a0 W := by
  refine wp_region_any (by kernel_rfl) (rely_any hB hD hmono hstep hend _ _ _ _ ?_ (by simp) (fun h => by simp [h]) ⟨(Below.refl _ _).drew, rfl, rfl, fun _ _ => rfl, fun i o f _ _ h => by
    exfalso
    rw [Array.getD_eq_getD_getElem?, Array.getElem?_replicate] at h
    split at h <;> simp at h⟩)
  have := List.length_filter_le (fun j => !(Array.replicate l.toArray.size false).getD j false) (List.range l.length)
  simpa using this
theorem Fx_mono (c v : Value) (w w' : World) (h : Fx c v w) (_ : Below w.heap.size w w') : Fx c v w' := h
/-! The duties said of what the operands hold, the frame out of sight. -/
def slotR (ρ : Operand → Value) (o : Oper) : Value := match o.dst with | some d => ρ (.tmp d) | none => undef
def depR (l : List Oper) (φ : List (Value → World → Prop)) (ρ : Operand → Value) (x : World) (j : Nat) : Prop :=
  match l[j]?, φ[j]? with
  | some o, some f => f (slotR ρ o) x
  | _, _ => True
def depsR (l : List Oper) (φ : List (Value → World → Prop)) (ρ : Operand → Value) (x : World) : List Edge → Prop
  | [] => True
  | e :: r => (Region.binds .any e = true → depR l φ ρ x e.on) ∧ depsR l φ ρ x r
def yieldR (l : List Oper) (ρ : Operand → Value) (j : Nat) : Option Bool :=
  match l[j]? with
  | some o => match slotR ρ o with | .bool b => some b | _ => none
  | none => none
def guardR (l : List Oper) (ρ : Operand → Value) (o : Oper) (A B : Prop) : Prop :=
  match o.guard with
  | none => A
  | some (j, b) => (yieldR l ρ j = some b → A) ∧ (yieldR l ρ j ≠ some b → B)
def okUpon (f : Value → World → Prop) (x : World) : Result Next → Prop
  | .ok (.value v) x' => f v x' ∧ Below x.heap.size x x'
  | .ok (.enter fn args) x' => x' = x ∧ Calls Tryz.prog fn args x (fun e w' => ∃ v, e = .returned v ∧ f v w' ∧ Below x.heap.size x w')
  | _ => False
@[go_sem] theorem okUpon_value (f : Value → World → Prop) (x x' : World) (v : Value) : okUpon f x (.ok (.value v) x') = (f v x' ∧ Below x.heap.size x x') := rfl
@[go_sem] theorem okUpon_enter (f : Value → World → Prop) (x x' : World) (fn : FuncId) (args : Array Value) :
    okUpon f x (.ok (.enter fn args) x') = (x' = x ∧ Calls Tryz.prog fn args x (fun e w' => ∃ v, e = .returned v ∧ f v w' ∧ Below x.heap.size x w')) := rfl
@[go_sem] theorem Fx_self (c : Value) (x : World) : Fx c c x = True := eq_true rfl
@[go_sem] theorem below_self (x : World) : Below x.heap.size x x = True := eq_true (Below.refl _ _)
/-- An operation's duty. -/
def DutyR (l : List Oper) (φ : List (Value → World → Prop)) (W : World) (a0 : Act) (o : Oper) (f : Value → World → Prop) : Prop :=
  ∀ (ρ : Operand → Value) (x : World), Below W.heap.size W x → (∀ v, ρ (.const v) = v) → (∀ g, ρ (.global g) = .pointer (some ⟨g, 0, none⟩)) → (∀ k, ρ (.func k) = .func (.func k) #[] #[]) →
    (∀ t, outB l t = true → ρ (.tmp t) = a0.eval (.tmp t)) → depsR l φ ρ x o.after.toList → guardR l ρ o (okUpon f x ((execOp ρ o).run Tryz.prog x)) (f undef x)
def DutiesR (l : List Oper) (φ : List (Value → World → Prop)) (W : World) (a0 : Act) : List Oper → List (Value → World → Prop) → Prop
  | o :: r, f :: g => DutyR l φ W a0 o f ∧ DutiesR l φ W a0 r g
  | _, _ => True
theorem yieldR_eq (l : List Oper) (a : Act) (j : Nat) : yielded l.toArray a.tmps j = yieldR l a.eval j := by
  unfold yielded yieldR slotR
  simp only [List.getElem?_toArray]
  cases h : l[j]? with
  | none => rfl
  | some o =>
    simp only [Option.bind_some]
    cases hd : o.dst with
    | none => rfl
    | some d =>
      simp only [Option.bind_some, eval_tmp, Array.getD_eq_getD_getElem?]
      cases hq : a.tmps[d]? with
      | none => rfl
      | some x => cases x <;> rfl
theorem depsR_of {l : List Oper} {φ : List (Value → World → Prop)} {a : Act} {w : World} : ∀ es : List Edge, depsOf l φ a w es → depsR l φ a.eval w es
  | [], _ => trivial
  | _ :: r, h => ⟨fun hb => h.1 hb, depsR_of r h.2⟩
theorem duty_of {l : List Oper} {φ : List (Value → World → Prop)} {W : World} {a0 : Act} {o : Oper} {f : Value → World → Prop} {Q : Exit → Act → World → Prop} (h : DutyR l φ W a0 o f) : Duty l φ W a0 Q o f := by
  intro a w hb ho hd
  have hx := h a.eval w hb (fun _ => rfl) (fun _ => rfl) (fun _ => rfl) ho (depsR_of _ hd)
  have run : okUpon f w ((execOp a.eval o).run Tryz.prog w) → o.wp Tryz.prog a w (fun a' w' => ∃ v, a' = a.put o.dst v ∧ f v w' ∧ Below w.heap.size w w') Q := by
    intro hk
    unfold Oper.wp
    generalize (execOp a.eval o).run Tryz.prog w = r at hk
    cases r with
    | ok n x' =>
      cases n <;> simp only [okUpon] at hk
      case value v => exact ⟨v, rfl, hk.1, hk.2⟩
      case enter fn args =>
        obtain ⟨rfl, hc⟩ := hk
        exact hc.mono fun e w' ⟨v, he, hf, hb⟩ => by subst he; exact ⟨v, rfl, hf, hb⟩
    | halt e x' => simp only [okUpon] at hk
  unfold guardR at hx
  unfold Region.wanted
  cases hg : o.guard with
  | none => simp only [hg] at hx ⊢; exact ⟨fun _ => run hx, fun h => by cases h⟩
  | some q =>
    obtain ⟨j, b⟩ := q
    simp only [hg] at hx ⊢
    rw [yieldR_eq]
    exact ⟨fun h => run (hx.1 (by simpa using h)), fun h => hx.2 (by simpa using h)⟩
theorem duties_of {l : List Oper} {φ : List (Value → World → Prop)} {W : World} {a0 : Act} {Q : Exit → Act → World → Prop} : ∀ (r : List Oper) (g : List (Value → World → Prop)), DutiesR l φ W a0 r g → Duties l φ W a0 Q r g
  | [], _, _ => by unfold Duties; trivial
  | _ :: _, [], _ => by unfold Duties; trivial
  | _ :: r, _ :: g, h => ⟨duty_of h.1, duties_of r g h.2⟩
/-- THE RULE, as it is used. -/
theorem wp_rely {l : List Oper} {id : Nat} {W : World} {a0 : Act} {Q : Exit → Act → World → Prop} (φ : List (Value → World → Prop)) (hB : relyB l φ.length = true) (hD : dstB (l.take φ.length) a0.tmps.size = true)
    (hmono : ∀ f ∈ φ, ∀ v w w', f v w → Below w.heap.size w w' → f v w') (hstep : DutiesR l φ W a0 l φ)
    (hend : ∀ vs w, Below W.heap.size W w → owed vs w φ 0 → wpList Tryz.prog l.toArray Q (l.drop φ.length) (puts vs (l.take φ.length) 0 a0) w) : (Code.region id l.toArray true).wp Tryz.prog Q a0 W :=
  wp_region_rely φ hB hD hmono (duties_of l φ hstep) hend
theorem all_cons {p : (Value → World → Prop) → Prop} {f : Value → World → Prop} {r : List (Value → World → Prop)} (h : p f) (hr : ∀ g ∈ r, p g) : ∀ g ∈ f :: r, p g := fun g hg => by
  rcases List.mem_cons.1 hg with rfl | hg
  · exact h
  · exact hr g hg
theorem all_nil {p : (Value → World → Prop) → Prop} : ∀ g ∈ ([] : List (Value → World → Prop)), p g := fun g hg => by cases hg

/-- The slots' values, laid one by one: so the walk writes the frame out by itself. -/
def asg (vs : Nat → Value) : List Oper → Nat → List Oper
  | [], _ => []
  | o :: r, k => { dst := o.dst, op := .assign (.const (vs k)), type := 0, pos := "", after := #[], guard := none } :: asg vs r (k + 1)
theorem wpList_asg {ops : Array Oper} {Q : Exit → Act → World → Prop} {w : World} {t : List Oper} (vs : Nat → Value) : ∀ (l : List Oper) (k : Nat) (a : Act), wpList Tryz.prog ops Q (asg vs l k ++ t) a w → wpList Tryz.prog ops Q t (puts vs l k a) w
  | [], _, _, h => h
  | o :: r, k, a, h => by
    refine wpList_asg vs r (k + 1) (a.put o.dst (vs k)) ?_
    simp only [asg, List.cons_append] at h
    unfold wpList at h
    rw [if_pos (show Region.wanted _ _ = true from rfl)] at h
    rcases h with h | ⟨h, _⟩
    · exact h
    · exfalso
      have h1 : noRoomEvent ∈ (#[] : Array _) := h.1
      simp at h1
theorem wp_relies {l : List Oper} {id : Nat} {W : World} {a0 : Act} {Q : Exit → Act → World → Prop} (φ : List (Value → World → Prop)) (hB : relyB l φ.length = true) (hD : dstB (l.take φ.length) a0.tmps.size = true)
    (hmono : ∀ f ∈ φ, ∀ v w w', f v w → Below w.heap.size w w' → f v w') (hstep : DutiesR l φ W a0 l φ)
    (hend : ∀ vs w, Below W.heap.size W w → owed vs w φ 0 → wpList Tryz.prog l.toArray Q (asg vs (l.take φ.length) 0 ++ l.drop φ.length) a0 w) : (Code.region id l.toArray true).wp Tryz.prog Q a0 W :=
  wp_rely φ hB hD hmono hstep fun vs w h1 h2 => wpList_asg vs _ _ _ (hend vs w h1 h2)

/-! The same for a region in the order of its text: so that a guard that is not decided does not part the walk. -/
def plainB (l : List Oper) (m : Nat) : Bool :=
  (List.range m).all (fun i => (List.range m).all fun j => i == j || (match l[i]?, l[j]? with | some a, some b => a.dst.isNone || !(a.dst == b.dst) | _, _ => true)) &&
  (List.range m).all (fun i => match l[i]? with | some o => o.after.all fun e => decide (e.on < i) | none => true) && decide (m ≤ l.length)
theorem plainB_spec {l : List Oper} {m : Nat} (h : plainB l m = true) :
    (∀ (i j : Nat) a b, i < m → j < m → l[i]? = some a → l[j]? = some b → i ≠ j → a.dst.isNone = true ∨ a.dst ≠ b.dst) ∧ (∀ (i : Nat) o, i < m → l[i]? = some o → ∀ e ∈ o.after, e.on < i) ∧ m ≤ l.length := by
  simp only [plainB, Bool.and_eq_true, List.all_eq_true, List.mem_range, decide_eq_true_eq] at h
  obtain ⟨⟨h1, h2⟩, h3⟩ := h
  refine ⟨fun i j a b hi' hj' hi hj hne => ?_, fun i o hi' hi e he => ?_, h3⟩
  · have := h1 i hi' j hj'
    simp only [hi, hj, Bool.or_eq_true, beq_iff_eq, Bool.not_eq_true', beq_eq_false_iff_ne] at this
    rcases this with h | h | h
    · exact absurd h hne
    · exact .inl h
    · exact .inr h
  · have := h2 i hi'
    simp only [hi, Array.all_eq_true_iff_forall_mem, decide_eq_true_eq] at this
    exact this e he
end Go.Proofs.YtklbdhpnbjhgkaaGreatDoor
namespace Go.Proofs.YtklbdhpnbjhgkaaGreatDoor
open Go.RowKit

/-! The rule for a region that draws its order, with a tail that is walked in the order of the text: each of the tail waits for all ahead of it. -/
/-- One operation's duty. -/
def DutyT (l : List Oper) (φ : List (Value → World → Prop)) (W : World) (a0 : Act) (Q : Exit → Act → World → Prop) (o : Oper) (f : Value → World → Prop) : Prop :=
  ∀ a w, Below W.heap.size W w → (∀ t, outB (l.take φ.length) t = true → a.eval (.tmp t) = a0.eval (.tmp t)) → depsOf l φ a w o.after.toList →
    (Region.wanted o (yielded l.toArray a.tmps) = true → o.wp Tryz.prog a w (fun a' w' => ∃ v, a' = a.put o.dst v ∧ f v w' ∧ Below w.heap.size w w') Q) ∧
    (Region.wanted o (yielded l.toArray a.tmps) = false → f undef w)
def DutiesT (l : List Oper) (φ : List (Value → World → Prop)) (W : World) (a0 : Act) (Q : Exit → Act → World → Prop) : List Oper → List (Value → World → Prop) → Prop
  | o :: r, f :: g => DutyT l φ W a0 Q o f ∧ DutiesT l φ W a0 Q r g
  | _, _ => True
theorem duties_getT {l : List Oper} {φ : List (Value → World → Prop)} {W : World} {a0 : Act} {Q : Exit → Act → World → Prop} : ∀ {r : List Oper} {g : List (Value → World → Prop)}, DutiesT l φ W a0 Q r g →
    ∀ (i : Nat) o f, r[i]? = some o → g[i]? = some f → DutyT l φ W a0 Q o f
  | [], _, _, _, _, _, h, _ => by simp at h
  | _ :: _, [], _, _, _, _, _, h => by simp at h
  | o :: r, f :: g, h, 0, o', f', h1, h2 => by simp at h1 h2; subst h1; subst h2; exact h.1
  | o :: r, f :: g, h, i + 1, o', f', h1, h2 => duties_getT h.2 i o' f' (by simpa using h1) (by simpa using h2)
/-- An operation's duty. -/
def DutyRT (l : List Oper) (φ : List (Value → World → Prop)) (W : World) (a0 : Act) (o : Oper) (f : Value → World → Prop) : Prop :=
  ∀ (ρ : Operand → Value) (x : World), Below W.heap.size W x → (∀ v, ρ (.const v) = v) → (∀ g, ρ (.global g) = .pointer (some ⟨g, 0, none⟩)) → (∀ k, ρ (.func k) = .func (.func k) #[] #[]) →
    (∀ t, outB (l.take φ.length) t = true → ρ (.tmp t) = a0.eval (.tmp t)) → depsR l φ ρ x o.after.toList → guardR l ρ o (okUpon f x ((execOp ρ o).run Tryz.prog x)) (f undef x)
def DutiesRT (l : List Oper) (φ : List (Value → World → Prop)) (W : World) (a0 : Act) : List Oper → List (Value → World → Prop) → Prop
  | o :: r, f :: g => DutyRT l φ W a0 o f ∧ DutiesRT l φ W a0 r g
  | _, _ => True
theorem duty_ofT {l : List Oper} {φ : List (Value → World → Prop)} {W : World} {a0 : Act} {o : Oper} {f : Value → World → Prop} {Q : Exit → Act → World → Prop} (h : DutyRT l φ W a0 o f) : DutyT l φ W a0 Q o f := by
  intro a w hb ho hd
  have hx := h a.eval w hb (fun _ => rfl) (fun _ => rfl) (fun _ => rfl) ho (depsR_of _ hd)
  have run : okUpon f w ((execOp a.eval o).run Tryz.prog w) → o.wp Tryz.prog a w (fun a' w' => ∃ v, a' = a.put o.dst v ∧ f v w' ∧ Below w.heap.size w w') Q := by
    intro hk
    unfold Oper.wp
    generalize (execOp a.eval o).run Tryz.prog w = r at hk
    cases r with
    | ok n x' =>
      cases n <;> simp only [okUpon] at hk
      case value v => exact ⟨v, rfl, hk.1, hk.2⟩
      case enter fn args =>
        obtain ⟨rfl, hc⟩ := hk
        exact hc.mono fun e w' ⟨v, he, hf, hb⟩ => by subst he; exact ⟨v, rfl, hf, hb⟩
    | halt e x' => simp only [okUpon] at hk
  unfold guardR at hx
  unfold Region.wanted
  cases hg : o.guard with
  | none => simp only [hg] at hx ⊢; exact ⟨fun _ => run hx, fun h => by cases h⟩
  | some q =>
    obtain ⟨j, b⟩ := q
    simp only [hg] at hx ⊢
    rw [yieldR_eq]
    exact ⟨fun h => run (hx.1 (by simpa using h)), fun h => hx.2 (by simpa using h)⟩
theorem duties_ofT {l : List Oper} {φ : List (Value → World → Prop)} {W : World} {a0 : Act} {Q : Exit → Act → World → Prop} : ∀ (r : List Oper) (g : List (Value → World → Prop)), DutiesRT l φ W a0 r g → DutiesT l φ W a0 Q r g
  | [], _, _ => by unfold DutiesT; trivial
  | _ :: _, [], _ => by unfold DutiesT; trivial
  | _ :: r, _ :: g, h => ⟨duty_ofT h.1, duties_ofT r g h.2⟩
def edgeB (l : List Oper) (k j : Nat) : Bool := match l[k]? with | some o => o.after.toList.any fun e => e.on == j && Region.binds .any e | none => false
def tailB (l : List Oper) (m : Nat) : Bool :=
  (List.range l.length).all (fun i => (List.range l.length).all fun j => i == j || (match l[i]?, l[j]? with | some a, some b => a.dst.isNone || !(a.dst == b.dst) | _, _ => true)) &&
  (List.range l.length).all (fun i => match l[i]? with | some o => o.after.all fun e => decide (e.on < i) | none => true) &&
  decide (m < l.length) &&
  (List.range m).all (fun j => (List.range (m + 1)).any fun k => decide (j < k) && edgeB l k j) &&
  (List.range l.length).all (fun i => decide (i ≤ m) || edgeB l i (i - 1))
theorem edgeB_spec {l : List Oper} {k j : Nat} (h : edgeB l k j = true) : ∃ o, l[k]? = some o ∧ ∃ e ∈ o.after, e.on = j ∧ Region.binds .any e = true := by
  unfold edgeB at h
  split at h
  · rename_i o ho
    simp only [List.any_eq_true, Bool.and_eq_true, beq_iff_eq] at h
    obtain ⟨e, he, h6, h7⟩ := h
    exact ⟨o, ho, e, by simpa using he, h6, h7⟩
  · cases h
theorem tailB_spec {l : List Oper} {m : Nat} (h : tailB l m = true) :
    (∀ (i j : Nat) a b, l[i]? = some a → l[j]? = some b → i ≠ j → a.dst.isNone = true ∨ a.dst ≠ b.dst) ∧ (∀ (i : Nat) o, l[i]? = some o → ∀ e ∈ o.after, e.on < i) ∧ m < l.length ∧
    (∀ j, j < m → ∃ k, j < k ∧ k ≤ m ∧ edgeB l k j = true) ∧ (∀ i, m < i → i < l.length → edgeB l i (i - 1) = true) := by
  simp only [tailB, Bool.and_eq_true, List.all_eq_true, List.mem_range, decide_eq_true_eq] at h
  obtain ⟨⟨⟨⟨h1, h2⟩, h3⟩, h4⟩, h5⟩ := h
  refine ⟨fun i j a b hi hj hne => ?_, fun i o hi e he => ?_, h3, fun j hj => ?_, fun i h h' => ?_⟩
  · have := h1 i (List.getElem?_eq_some_iff.1 hi).1 j (List.getElem?_eq_some_iff.1 hj).1
    simp only [hi, hj, Bool.or_eq_true, beq_iff_eq, Bool.not_eq_true', beq_eq_false_iff_ne] at this
    rcases this with h | h | h
    · exact absurd h hne
    · exact .inl h
    · exact .inr h
  · have := h2 i (List.getElem?_eq_some_iff.1 hi).1
    simp only [hi, Array.all_eq_true_iff_forall_mem, decide_eq_true_eq] at this
    exact this e he
  · have := h4 j hj
    simp only [List.any_eq_true, List.mem_range, Bool.and_eq_true, decide_eq_true_eq] at this
    obtain ⟨k, h6, h7, h8⟩ := this
    exact ⟨k, h7, by omega, h8⟩
  · have := h5 i h'
    simp only [Bool.or_eq_true, decide_eq_true_eq] at this
    rcases this with h9 | h9
    · omega
    · exact h9
/-- Once the first k are done and no other one: the rest in the order of the text. -/
theorem tail_any {l : List Oper} {m : Nat} {Q : Exit → Act → World → Prop} (hlt : ∀ (i : Nat) o, l[i]? = some o → ∀ e ∈ o.after, e.on < i) (hchain : ∀ i, m < i → i < l.length → edgeB l i (i - 1) = true) :
    ∀ (fuel k : Nat) (listed : Array Bool) (a : Act) (w : World), m ≤ k → l.length - k ≤ fuel → listed.size = l.length → (∀ j, j < k → j < l.length → listed.getD j false = true) → (∀ j, k ≤ j → listed.getD j false = false) →
      wpList Tryz.prog l.toArray Q (l.drop k) a w → wpAny Tryz.prog .any l.toArray Q fuel listed a w := by
  intro fuel
  induction fuel with
  | zero =>
    intro k listed a w hm hf hsz h1 h2 hx
    have hall : ∀ i, i < l.length → listed.getD i false = true := fun i hi => h1 i (by omega) hi
    rw [List.drop_of_length_le (by omega)] at hx
    exact ⟨ready_nil hall, hx⟩
  | succ fuel ih =>
    intro k listed a w hm hf hsz h1 h2 hx
    rcases Nat.lt_or_ge k l.length with hk | hk
    · refine ⟨fun hr => ?_, fun i hi => ?_⟩
      · exfalso
        have hj : k ∈ Region.ready .any l.toArray listed := by
          rw [mem_ready]
          have hkf := h2 k (Nat.le_refl _)
          have hks : k < listed.size := by omega
          refine ⟨by simpa [hks] using hkf, l[k], by simp [hk], fun e he _ => ?_⟩
          have := hlt k _ (List.getElem?_eq_getElem hk) e he
          exact h1 _ this (by omega)
        rw [hr] at hj; cases hj
      · rw [mem_ready] at hi
        obtain ⟨hun, o, ho, hdep⟩ := hi
        have ho' : l[i]? = some o := by simpa using ho
        have hil : i < l.length := (List.getElem?_eq_some_iff.1 ho').1
        have hif : listed.getD i false = false := by
          have : i < listed.size := by omega
          simpa [this] using hun
        have hik : i = k := by
          rcases Nat.lt_or_ge i k with h | h
          · rw [h1 i h hil] at hif; cases hif
          · rcases Nat.eq_or_lt_of_le h with h | h
            · exact h.symm
            · exfalso
              obtain ⟨o2, ho2, e, he, h6, h7⟩ := edgeB_spec (hchain i (by omega) hil)
              rw [ho'] at ho2; cases ho2
              have := hdep e he h7
              rw [h6, h2 (i - 1) (by omega)] at this
              cases this
        subst hik
        have hset : ∀ j, j ≠ i → (listed.setIfInBounds i true).getD j false = listed.getD j false := fun j hj => getD_set_ne false (Ne.symm hj)
        have hseti : (listed.setIfInBounds i true).getD i false = true := by
          have : i < listed.size := by omega
          simp [this]
        rw [List.drop_eq_getElem_cons hil] at hx
        have hoi : l[i] = o := by have := ho'; rw [List.getElem?_eq_getElem hil] at this; cases this; rfl
        rw [hoi] at hx
        have hnext : ∀ a' w', wpList Tryz.prog l.toArray Q (l.drop (i + 1)) a' w' → wpAny Tryz.prog .any l.toArray Q fuel (listed.setIfInBounds i true) a' w' := fun a' w' h =>
          ih (i + 1) _ a' w' (by omega) (by omega) (by simpa using hsz) (fun j hj hjl => by
            by_cases hji : j = i
            · subst hji; exact hseti
            · rw [hset j hji]; exact h1 j (by omega) hjl) (fun j hj => by rw [hset j (by omega)]; exact h2 j (by omega)) h
        unfold wpOp
        simp only [List.getElem?_toArray, ho']
        unfold wpList at hx
        split
        · rename_i hw
          simp only [hw, if_true] at hx
          exact hx.imp (Oper.wp_mono fun a' w' h => hnext a' w' h) id
        · rename_i hw
          simp only [hw] at hx
          exact hnext _ _ hx
    · have hall : ∀ i, i < l.length → listed.getD i false = true := fun i hi => h1 i (by omega) hi
      rw [List.drop_of_length_le (by omega)] at hx
      exact wpAny_end hall hx _
theorem countGe (m n : Nat) : ((List.range n).filter fun j => decide (m ≤ j)).length = n - m := by
  induction n with
  | zero => simp
  | succ n ih =>
    rw [List.range_succ, List.filter_append, List.length_append, ih]
    by_cases h : m ≤ n
    · simp [h]; omega
    · simp [h]; omega
theorem rely_tail {l : List Oper} {φ : List (Value → World → Prop)} {W : World} {a0 : Act} {Q : Exit → Act → World → Prop} (hB : tailB l φ.length = true) (hD : dstB (l.take φ.length) a0.tmps.size = true)
    (hmono : ∀ f ∈ φ, ∀ v w w', f v w → Below w.heap.size w w' → f v w') (hstep : DutiesT l φ W a0 Q l φ)
    (hend : ∀ vs w, Below W.heap.size W w → owed vs w φ 0 → wpList Tryz.prog l.toArray Q (l.drop φ.length) (puts vs (l.take φ.length) 0 a0) w) :
    ∀ (fuel : Nat) (listed : Array Bool) (a : Act) (w : World), ((List.range l.length).filter fun j => !listed.getD j false).length ≤ fuel → listed.size = l.length →
      (∀ j, φ.length ≤ j → listed.getD j false = false) → (∀ (i : Nat) o, l[i]? = some o → listed.getD i false = true → ∀ e ∈ o.after, Region.binds .any e = true → listed.getD e.on false = true) → RI l φ W a0 listed a w → wpAny Tryz.prog .any l.toArray Q fuel listed a w := by
  obtain ⟨hne, hlt, hm1, htail, hchain⟩ := tailB_spec hB
  have fin : ∀ (listed : Array Bool) (a : Act) (w : World), (∀ i, i < φ.length → listed.getD i false = true) → RI l φ W a0 listed a w → wpList Tryz.prog l.toArray Q (l.drop φ.length) a w := by
    intro listed a w hall hI
    obtain ⟨hb, hd, hs, hout, hf⟩ := hI
    have hv : ∀ (i : Nat) o f, l[i]? = some o → φ[i]? = some f → f (slot a o) w := fun i o f h1 h2 => hf i o f h1 h2 (hall i (List.getElem?_eq_some_iff.1 h2).1)
    have e := puts_eq (fun i => match l[i]? with | some o => slot a o | none => undef) a (l.take φ.length) 0 a0 hd hs hout (fun i o d h1 h2 => by
      have h1' : l[i]? = some o := by rw [List.getElem?_take] at h1; split at h1; exact h1; cases h1
      simp [h1', slot, h2])
    rw [e]
    refine hend _ w hb (owed_of φ 0 fun i f hi => ?_)
    have hi' : i < l.length := by have := (List.getElem?_eq_some_iff.1 hi).1; omega
    simp only [Nat.zero_add, List.getElem?_eq_getElem hi']
    exact hv i _ f (List.getElem?_eq_getElem hi') hi
  intro fuel
  induction fuel with
  | zero =>
    intro listed a w hc hsz ht hdn hI
    exfalso
    have : φ.length ∈ (List.range l.length).filter fun j => !listed.getD j false := by
      rw [List.mem_filter, ht _ (Nat.le_refl _)]; simp [hm1]
    have := List.length_pos_of_mem this
    omega
  | succ fuel ih =>
    intro listed a w hc hsz ht hdn hI
    refine ⟨fun hr => absurd ((ht _ (Nat.le_refl _)).symm.trans (allListed hlt hsz hr _ hm1)) (by decide), fun i hi => ?_⟩
    rw [mem_ready] at hi
    obtain ⟨hun, o, ho, hdep⟩ := hi
    have ho' : l[i]? = some o := by simpa using ho
    have hil : i < l.length := (List.getElem?_eq_some_iff.1 ho').1
    have hif : listed.getD i false = false := by
      have : i < listed.size := by omega
      simpa [this] using hun
    have hset : ∀ j, j ≠ i → (listed.setIfInBounds i true).getD j false = listed.getD j false := fun j hj => getD_set_ne false (Ne.symm hj)
    have hseti : (listed.setIfInBounds i true).getD i false = true := by
      have : i < listed.size := by omega
      simp [this]
    rcases Nat.lt_or_ge i φ.length with him | him
    · -- a duty
      have hfi : φ[i]? = some φ[i] := List.getElem?_eq_getElem him
      have hcnt : ((List.range l.length).filter fun j => !(listed.setIfInBounds i true).getD j false).length ≤ fuel := by
        have := filter_lt (fun j => !listed.getD j false) (fun j => !(listed.setIfInBounds i true).getD j false) i (by simp only [hif]; rfl) (by simp only [hseti]; rfl) (fun j hj => by
          by_cases hji : j = i
          · subst hji; simp only [hif]; rfl
          · simp only [hset j hji] at hj; exact hj) (List.range l.length) (by simpa using hil)
        omega
      have htl : ∀ j, φ.length ≤ j → (listed.setIfInBounds i true).getD j false = false := fun j h => by rw [hset _ (by omega)]; exact ht j h
      have hdn' : ∀ (j : Nat) oj, l[j]? = some oj → (listed.setIfInBounds i true).getD j false = true → ∀ e ∈ oj.after, Region.binds .any e = true → (listed.setIfInBounds i true).getD e.on false = true := fun j oj hj hl e he hbd => by
        by_cases hei : e.on = i
        · rw [hei]; exact hseti
        · rw [hset _ hei]
          by_cases hji : j = i
          · subst hji; rw [ho'] at hj; cases hj; exact hdep e he hbd
          · rw [hset j hji] at hl; exact hdn j oj hj hl e he hbd
      obtain ⟨hb, hd, hs, hout, hf⟩ := hI
      have hdeps : depsOf l φ a w o.after.toList := depsOf_of _ fun e he hbd => by
        unfold dep1
        split
        · rename_i oj f h1 h2
          exact hf e.on oj f h1 h2 (hdep e (by simpa using he) hbd)
        · trivial
      obtain ⟨hw1, hw2⟩ := duties_getT hstep i o φ[i] ho' hfi a w hb (fun t h => hout t h) hdeps
      have hnew : ∀ v w', φ[i] v w' → Below w.heap.size w w' → RI l φ W a0 (listed.setIfInBounds i true) (a.put o.dst v) w' := fun v w' hφ hg => by
        refine ⟨hb.trans (hg.mono hb.size), by rw [defers_put]; exact hd, by rw [size_put]; exact hs, fun t h => ?_, fun j oj f h1 h2 h3 => ?_⟩
        · rw [Act.eval_put (x := .tmp t) (fun d hd' he => by
            cases he
            simp only [outB, List.all_eq_true] at h
            have hmem : o ∈ l.take φ.length := by
              rw [List.mem_iff_getElem?]; exact ⟨i, by rw [List.getElem?_take, if_pos him]; exact ho'⟩
            have := h o hmem
            simp [hd'] at this)]
          exact hout t h
        · by_cases hji : j = i
          · subst hji
            rw [ho'] at h1; cases h1
            rw [hfi] at h2; cases h2
            have hmem : o ∈ l.take φ.length := by
              rw [List.mem_iff_getElem?]; exact ⟨j, by rw [List.getElem?_take, if_pos him]; exact ho'⟩
            simp only [dstB, List.all_eq_true] at hD
            have hd1 := hD o hmem
            unfold slot
            cases hdo : o.dst with
            | none => simp [hdo] at hd1
            | some d =>
              have hd2 : d < a0.tmps.size := by simpa [hdo] using hd1
              have e : (a.put (some d) v).eval (.tmp d) = v := by
                have : d < a.tmps.size := by rw [hs]; exact hd2
                simp [eval_tmp, Act.put, this]
              simp only [e]
              exact hφ
          · rw [slot_put_ne v (hne j i oj o h1 ho' hji)]
            exact hmono f (List.mem_of_getElem? h2) _ _ _ (hf j oj f h1 h2 (by rw [← hset j hji]; exact h3)) hg
      unfold wpOp
      simp only [List.getElem?_toArray, ho']
      split
      · rename_i hw
        refine .inl (Oper.wp_mono (fun a' w' h => ?_) (hw1 hw))
        obtain ⟨v, rfl, hφ, hg⟩ := h
        exact ih _ _ _ hcnt (by simpa using hsz) htl hdn' (hnew v w' hφ hg)
      · rename_i hw
        exact ih _ _ _ hcnt (by simpa using hsz) htl hdn' (hnew undef w (hw2 (by simpa using hw)) (Below.refl _ _))
    · -- the tail
      have hil' : i = φ.length := by
        rcases Nat.eq_or_lt_of_le him with h | h
        · exact h.symm
        · exfalso
          obtain ⟨o2, ho2, e, he, h6, h7⟩ := edgeB_spec (hchain i (by omega) hil)
          rw [ho'] at ho2; cases ho2
          have := hdep e he h7
          rw [h6, ht (i - 1) (by omega)] at this
          cases this
      have hallN : ∀ n j, φ.length - j = n → j < φ.length → listed.getD j false = true := by
        intro n
        induction n using Nat.strongRecOn with
        | _ n ih2 =>
          intro j hn hj
          obtain ⟨k, hk1, hk2, hke⟩ := htail j hj
          obtain ⟨o2, ho2, e, he, h6, h7⟩ := edgeB_spec hke
          rcases Nat.eq_or_lt_of_le hk2 with h | h
          · rw [h, ← hil', ho'] at ho2; cases ho2
            rw [← h6]; exact hdep e he h7
          · rw [← h6]; exact hdn k o2 ho2 (ih2 (φ.length - k) (by omega) k rfl h) e he h7
      have hall : ∀ j, j < φ.length → listed.getD j false = true := fun j hj => hallN _ j rfl hj
      have hx := fin listed a w hall hI
      have hcl : l.length - φ.length ≤ fuel + 1 := by
        have h9 : ((List.range l.length).filter fun j => decide (φ.length ≤ j)).length ≤ ((List.range l.length).filter fun j => !listed.getD j false).length := by
          rw [← List.countP_eq_length_filter, ← List.countP_eq_length_filter]
          refine List.countP_mono_left fun j _ h => ?_
          rw [decide_eq_true_eq] at h
          rw [ht j h]; rfl
        have h10 : ((List.range l.length).filter fun j => decide (φ.length ≤ j)).length = l.length - φ.length := countGe _ _
        omega
      have hz := tail_any (Q := Q) hlt hchain (fuel + 1) φ.length listed a w (Nat.le_refl _) hcl hsz (fun j hj _ => hall j hj) ht hx
      exact hz.2 i (by rw [mem_ready]; exact ⟨hun, o, ho, hdep⟩)
theorem wp_reliesT {l : List Oper} {id : Nat} {W : World} {a0 : Act} {Q : Exit → Act → World → Prop} (φ : List (Value → World → Prop)) (hB : tailB l φ.length = true) (hD : dstB (l.take φ.length) a0.tmps.size = true)
    (hmono : ∀ f ∈ φ, ∀ v w w', f v w → Below w.heap.size w w' → f v w') (hstep : DutiesRT l φ W a0 l φ)
    (hend : ∀ vs w, Below W.heap.size W w → owed vs w φ 0 → wpList Tryz.prog l.toArray Q (asg vs (l.take φ.length) 0 ++ l.drop φ.length) a0 w) : (Code.region id l.toArray true).wp Tryz.prog Q a0 W := by
  refine wp_region_any (by kernel_rfl) (rely_tail hB hD hmono (duties_ofT l φ hstep) (fun vs w h1 h2 => wpList_asg vs _ _ _ (hend vs w h1 h2)) _ _ _ _ ?_ (by simp) (fun j _ => by rw [Array.getD_eq_getD_getElem?, Array.getElem?_replicate]; split <;> rfl) (fun i o _ h => by
    exfalso
    rw [Array.getD_eq_getD_getElem?, Array.getElem?_replicate] at h
    split at h <;> simp at h) ⟨(Below.refl _ _).drew, rfl, rfl, fun _ _ => rfl, fun i o f _ _ h => by
    exfalso
    rw [Array.getD_eq_getD_getElem?, Array.getElem?_replicate] at h
    split at h <;> simp at h⟩)
  have := List.length_filter_le (fun j => !(Array.replicate l.toArray.size false).getD j false) (List.range l.length)
  simpa using this
theorem plain_listT {l : List Oper} {φ : List (Value → World → Prop)} {W : World} {a0 : Act} {Q : Exit → Act → World → Prop} (hB : plainB l φ.length = true) (hD : dstB (l.take φ.length) a0.tmps.size = true)
    (hmono : ∀ f ∈ φ, ∀ v w w', f v w → Below w.heap.size w w' → f v w') (hstep : DutiesT l φ W a0 Q l φ)
    (hend : ∀ vs w, Below W.heap.size W w → owed vs w φ 0 → wpList Tryz.prog l.toArray Q (l.drop φ.length) (puts vs (l.take φ.length) 0 a0) w) :
    ∀ (n k : Nat) (a : Act) (w : World), k + n = φ.length → Below W.heap.size W w → a.defers = a0.defers → a.tmps.size = a0.tmps.size → (∀ t, outB (l.take φ.length) t = true → a.eval (.tmp t) = a0.eval (.tmp t)) →
      (∀ (i : Nat) o f, i < k → l[i]? = some o → φ[i]? = some f → f (slot a o) w) → wpList Tryz.prog l.toArray Q (l.drop k) a w := by
  obtain ⟨hne, hlt, hm⟩ := plainB_spec hB
  intro n
  induction n with
  | zero =>
    intro k a w hk hb hd hs hout hf
    obtain rfl : k = φ.length := by omega
    have e := puts_eq (fun i => match l[i]? with | some o => slot a o | none => undef) a (l.take φ.length) 0 a0 hd hs hout (fun i o d h1 h2 => by
      have h1' : l[i]? = some o := by rw [List.getElem?_take] at h1; split at h1; exact h1; cases h1
      simp [h1', slot, h2])
    rw [e]
    refine hend _ w hb (owed_of φ 0 fun i f hi => ?_)
    have hi1 := (List.getElem?_eq_some_iff.1 hi).1
    have hi' : i < l.length := by omega
    simp only [Nat.zero_add, List.getElem?_eq_getElem hi']
    exact hf i _ f hi1 (List.getElem?_eq_getElem hi') hi
  | succ n ih =>
    intro k a w hk hb hd hs hout hf
    have hkl : k < l.length := by omega
    have hkm : k < φ.length := by omega
    have ho' : l[k]? = some l[k] := List.getElem?_eq_getElem hkl
    have hfi : φ[k]? = some φ[k] := List.getElem?_eq_getElem hkm
    have hmem : l[k] ∈ l.take φ.length := by
      rw [List.mem_iff_getElem?]; exact ⟨k, by rw [List.getElem?_take, if_pos hkm]; exact ho'⟩
    have hdeps : depsOf l φ a w l[k].after.toList := depsOf_of _ fun e he hbd => by
      unfold dep1
      split
      · rename_i oj f h1 h2
        exact hf e.on oj f (hlt k _ hkm ho' e (by simpa using he)) h1 h2
      · trivial
    obtain ⟨hw1, hw2⟩ := duties_getT hstep k l[k] φ[k] ho' hfi a w hb (fun t h => hout t h) hdeps
    have hnew : ∀ v w', φ[k] v w' → Below w.heap.size w w' → wpList Tryz.prog l.toArray Q (l.drop (k + 1)) (a.put l[k].dst v) w' := fun v w' hφ hg => by
      refine ih (k + 1) _ w' (by omega) (hb.trans (hg.mono hb.size)) (by rw [defers_put]; exact hd) (by rw [size_put]; exact hs) (fun t h => ?_) (fun j oj f hj h1 h2 => ?_)
      · rw [Act.eval_put (x := .tmp t) (fun d hd' he => by
          cases he
          simp only [outB, List.all_eq_true] at h
          have := h _ hmem
          simp [hd'] at this)]
        exact hout t h
      · by_cases hji : j = k
        · subst hji
          rw [ho'] at h1; cases h1
          rw [hfi] at h2; cases h2
          simp only [dstB, List.all_eq_true] at hD
          have hd1 := hD _ hmem
          unfold slot
          cases hdo : l[j].dst with
          | none => simp [hdo] at hd1
          | some d =>
            have hd2 : d < a0.tmps.size := by simpa [hdo] using hd1
            have e : (a.put (some d) v).eval (.tmp d) = v := by
              have : d < a.tmps.size := by rw [hs]; exact hd2
              simp [eval_tmp, Act.put, this]
            simp only [e]
            exact hφ
        · rw [slot_put_ne v (hne j k oj l[k] (by omega) hkm h1 ho' hji)]
          exact hmono f (List.mem_of_getElem? h2) _ _ _ (hf j oj f (by omega) h1 h2) hg
    rw [List.drop_eq_getElem_cons hkl]
    unfold wpList
    split
    · rename_i hw
      refine .inl (Oper.wp_mono (fun a' w' h => ?_) (hw1 hw))
      obtain ⟨v, rfl, hφ, hg⟩ := h
      exact hnew v w' hφ hg
    · rename_i hw
      exact hnew undef w (hw2 (by simpa using hw)) (Below.refl _ _)
theorem wp_plainsT {l : List Oper} {id : Nat} {W : World} {a0 : Act} {Q : Exit → Act → World → Prop} (φ : List (Value → World → Prop)) (hB : plainB l φ.length = true) (hD : dstB (l.take φ.length) a0.tmps.size = true)
    (hmono : ∀ f ∈ φ, ∀ v w w', f v w → Below w.heap.size w w' → f v w') (hstep : DutiesRT l φ W a0 l φ)
    (hend : ∀ vs w, Below W.heap.size W w → owed vs w φ 0 → wpList Tryz.prog l.toArray Q (asg vs (l.take φ.length) 0 ++ l.drop φ.length) a0 w) : (Code.region id l.toArray false).wp Tryz.prog Q a0 W :=
  wp_region_lit (plain_listT hB hD hmono (duties_ofT l φ hstep) (fun vs w h1 h2 => wpList_asg vs _ _ _ (hend vs w h1 h2)) φ.length 0 a0 W (by omega) (Below.refl _ _) rfl rfl (fun _ _ => rfl) (fun i o f h _ _ => by omega))

end Go.Proofs.YtklbdhpnbjhgkaaGreatDoor
namespace Go.Proofs.YtklbdhpnbjhgkaaGreatDoor
open Go.RowKit

/-- A row that holds a sector. -/
def Row (w : World) (g : Nat) (s : Nat → UInt8) : Prop := rowOk w g = true ∧ rowAt w g = secA s
theorem Row.kept {w w1 : World} {g : Nat} {s : Nat → UInt8} (h : Row w g s) (hb : Below w.heap.size w w1) : Row w1 g s := keepRow hb (lt_of_rowOk h.1) h.1 h.2
theorem Row.new (w : World) (s : Nat → UInt8) (t : TypeId) : Row (w.alloc (.cells (secA s) t)) w.heap.size s := ⟨rowOk_new _ _ _ _ rfl (secA_size _), rowAt_new _ _ _ _ rfl⟩
theorem Row.lt {w : World} {g : Nat} {s : Nat → UInt8} (h : Row w g s) : g < w.heap.size := lt_of_rowOk h.1
theorem Row.cell {w : World} {g : Nat} {s : Nat → UInt8} (h : Row w g s) (i : Nat) (hi : i < 64) : w.cell? ⟨g, i, none⟩ = some (Value.int .u8 ((s i).toNat : Int)) := by
  rw [cell_rowAt h.1, h.2, secA_get s i hi]
/-! 'append([]byte{}, b...)' -/
theorem bytesA_one (l : List UInt8) : ∀ u ∈ (bytesA l).toList, u.oneCell' = true := fun v hv => by
  simp only [bytesA, List.mem_map] at hv
  obtain ⟨b, _, rfl⟩ := hv
  rfl
theorem src_isB {w : World} {x : Option Addr} {c : Nat} {l : List UInt8} (h : IsB w (.slice x l.length c) l) : Src Tryz.prog 1 33 (.slice x l.length c) l.length (bytesA l).toList w := by
  rcases h with ⟨h, rfl⟩ | ⟨y, d, he, hc⟩
  · simp only [Value.slice.injEq] at h
    obtain ⟨rfl, _, rfl⟩ := h
    exact Src.ofNil w Tryz.underlying33 0
  · simp only [Value.slice.injEq, true_and] at he
    obtain ⟨rfl, rfl⟩ := he
    exact Src.ofSlice w Tryz.underlying33 y l.length c _ (by simp) (fun j u hu => by
      have hj : j < l.length := by have := (List.getElem?_eq_some_iff.1 hu).1; simpa using this
      rw [Array.getElem?_toList, bytesA_get l j hj] at hu
      rw [hc j hj]; exact hu) (bytesA_one l)
/-! A slice of bytes of the call's own, and append of one byte -/
def OwnB (w : World) (base : Nat) (v : Value) (l : List UInt8) : Prop := w.ownsRow base 5 1 v l.length (bytesA l).toList
theorem OwnB.isB {w : World} {base : Nat} {v : Value} {l : List UInt8} (h : OwnB w base v l) : IsB w v l := by
  have h' := h
  obtain ⟨_, ⟨rfl, hn⟩ | ⟨g, cap, cur, rfl, hb, hg, hle, hm, hs, ht⟩⟩ := h
  · exact .inl ⟨rfl, List.eq_nil_of_length_eq_zero hn⟩
  · refine .inr ⟨_, cap, rfl, fun i hi => ?_⟩
    have := h'.cells (g := g) rfl i (Value.int .u8 (l[i].toNat : Int)) (by rw [Array.getElem?_toList, bytesA_get l i hi])
    exact this
theorem OwnB.nil (w : World) (base : Nat) : OwnB w base (.slice none 0 0) [] := World.ownsRow_nil w base 5 1
theorem below_grown {w w' : World} {base : Nat} {v : Value} {l : List UInt8} (h : OwnB w base v l) (hg : w.grownBy w' v.ownBlock) (hb : base ≤ w.heap.size) : Below base w w' :=
  ⟨hg.os, hg.tape, hg.output, hg.size, fun k hk => hg.block k (by omega) (fun e => by have := h.lt k e.symm; omega)⟩
theorem OwnB.keep {w w' : World} {base : Nat} {v : Value} {l : List UInt8} (h : OwnB w base v l) (hb : Below w.heap.size w w') : OwnB w' base v l :=
  World.ownsRow.kept h (row := none) ⟨hb.os, hb.tape, hb.output, hb.size, fun k hk _ => hb.block k hk⟩ (by
    rcases h.2 with ⟨rfl, _⟩ | ⟨g, cap, cur, rfl, _⟩
    · exact .inl rfl
    · exact .inr (by simp [Value.ownBlock]))
theorem IsB.set {w : World} {g o n c : Nat} {f : Nat → UInt8} (h : IsB w (.slice (some ⟨g, o, none⟩) n c) (subL f 0 n)) (j : Nat) (b : UInt8) (x : Int) (hj : j < n) (hx : x = (b.toNat : Int)) :
    IsB (w.setCell ⟨g, o + j, none⟩ (.int .u8 x)) (.slice (some ⟨g, o, none⟩) n c) (subL (upd f j b) 0 n) := by
  rcases h with ⟨h, _⟩ | ⟨y, d, he, hc⟩
  · cases h
  · simp only [Value.slice.injEq, Option.some.injEq] at he
    obtain ⟨rfl, _, rfl⟩ := he
    refine .inr ⟨⟨g, o, none⟩, c, by simp, fun i hi => ?_⟩
    have hin : i < n := by simpa using hi
    have h1 := hc i (by simpa using hin)
    rw [addr_add] at h1 ⊢
    rw [subL_get, Nat.zero_add] at h1 ⊢
    by_cases hij : i = j
    · subst hij
      rw [World.cell?_setCell_same (h := h1)]
      simp [upd, hx]
    · have hne : (⟨g, o + j, none⟩ : Addr) ≠ ⟨g, o + i, none⟩ := fun e => hij (by injection e; omega)
      rw [World.cell?_setCell_other (h := hne), h1]
      simp [upd, hij]
/-! append(nil, b...) -/
theorem run_app_nil0 (w : World) (x : Option Addr) (c : Nat) (ty : TypeId) (h : IsB w (.slice x 0 c) []) :
    (Builtin.append_ #[33, 33] ty #[.slice none 0 0, .slice x 0 c]).run Tryz.prog w = .ok (.slice none 0 0) w := by
  obtain ⟨i, hi, hzz⟩ := Option.map_eq_some_iff.1 info5
  simp only [Prod.mk.injEq] at hzz
  obtain ⟨hz, hs, hb⟩ := hzz
  have hsr := src_isB (l := []) h
  have e1 := hsr.len
  have e2 := hsr.cells
  simp only [List.length_nil] at e1 e2
  simp [Builtin.append_, run_underlying Tryz.underlying33, sizeOf, typeInfo, hi, e1, hs, e2]
theorem OwnB.form {w : World} {base : Nat} {v : Value} {l : List UInt8} (h : OwnB w base v l) (h0 : l ≠ []) : ∃ g c, v = .slice (some ⟨g, 0, none⟩) l.length c ∧ base ≤ g ∧ l.length ≤ c ∧ c ≤ maxLen := by
  obtain ⟨_, ⟨rfl, hn⟩ | ⟨g, cap, cur, rfl, hb, hg, hle, hm, hs, ht⟩⟩ := h
  · exact absurd (List.eq_nil_of_length_eq_zero hn) h0
  · exact ⟨g, cap, rfl, hb, hle, hm⟩
/-- A part of a slice of bytes. -/
theorem IsB.part {w : World} {x : Option Addr} {c : Nat} {l : List UInt8} (h : IsB w (.slice x l.length c) l) (f n : Nat) (hn : f + n ≤ l.length) (hc : l.length ≤ c) :
    ∃ y d, sliced x f (f + n) c 1 = .slice y n d ∧ n ≤ d ∧ d ≤ c ∧ IsB w (.slice y n d) ((l.drop f).take n) := by
  have e0 : f + n - f = n := by omega
  unfold sliced
  rw [e0]
  refine ⟨_, _, rfl, by omega, by omega, ?_⟩
  have hln : ((l.drop f).take n).length = n := by simp; omega
  rcases h with ⟨h, rfl⟩ | ⟨y, d, he, hcell⟩
  · simp only [Value.slice.injEq] at h
    obtain ⟨rfl, _, rfl⟩ := h
    simp at hn
    obtain ⟨rfl, rfl⟩ := hn
    exact .inl ⟨rfl, rfl⟩
  · simp only [Value.slice.injEq, true_and] at he
    obtain ⟨rfl, rfl⟩ := he
    have hcell' : ∀ i, i < n → w.cell? (y.add (f + i)) = some (Value.int .u8 ((l[f + i]?.getD 0).toNat : Int)) := fun i hi => by
      have h9 : f + i < l.length := by omega
      rw [hcell _ h9]; simp [h9]
    have hget : ∀ i (h : i < ((l.drop f).take n).length), ((l.drop f).take n)[i] = l[f + i]?.getD 0 := fun i hi => by
      have h9 : f + i < l.length := by omega
      simp [h9]
    by_cases hcf : c = f
    · have hn0 : n = 0 := by omega
      rw [if_pos hcf]
      exact .inr ⟨y, c - f, by rw [hln], fun i hi => by omega⟩
    · rw [if_neg hcf, Option.map_some, Nat.mul_one]
      refine .inr ⟨y.add f, c - f, by rw [hln], fun i hi => ?_⟩
      rw [hget i hi, ← hcell' i (by omega)]
      by_cases hf0 : n = 0
      · omega
      · have hsp : (y.add f).spot = none := World.cell?_spot (by have := hcell' 0 (by omega); rw [Nat.add_zero] at this; exact this)
        have hsp0 : y.spot = none := by
          by_cases hf : f = 0
          · subst hf; simpa [Addr.add] using hsp
          · exact World.cell?_spot (a := y) (by have := hcell 0 (by omega); simpa [Addr.add] using this)
        obtain ⟨b, o, s⟩ := y
        simp only at hsp0; subst hsp0
        rw [addr_add, addr_add, addr_add, Nat.add_assoc]
theorem IsB.cut {w : World} {x : Option Addr} {c : Nat} {l : List UInt8} (h : IsB w (.slice x l.length c) l) (f n : Nat) (hn : f + n ≤ l.length) (hc : l.length ≤ c) :
    IsB w (.slice (if c = f then x else x.map (fun a => a.add f)) n (c - f)) ((l.drop f).take n) := by
  obtain ⟨y, d, e, -, -, h2⟩ := h.part f n hn hc
  unfold sliced at e
  rw [Nat.mul_one, show f + n - f = n by omega] at e
  rw [e]; exact h2
/-- A slice of ints. -/
def IsI (w : World) (v : Value) (zs : List Int) : Prop := ∃ x c, v = .slice x zs.length c ∧ ∀ i (_ : i < zs.length), ∃ b o, x = some ⟨b, o, none⟩ ∧ b < w.heap.size ∧ w.cell? ⟨b, o + i, none⟩ = some (.int .i64 (zs[i]?.getD 0))
theorem IsI.kept {w w1 : World} {v : Value} {zs : List Int} (h : IsI w v zs) (hb : Below w.heap.size w w1) : IsI w1 v zs := by
  obtain ⟨x, c, rfl, hc⟩ := h
  refine ⟨x, c, rfl, fun i hi => ?_⟩
  obtain ⟨b, o, rfl, h1, h2⟩ := hc i hi
  exact ⟨b, o, rfl, Nat.lt_of_lt_of_le h1 hb.size, by rw [hb.cell h1]; exact h2⟩
/-! append(v, b...) to a slice of the call's own -/
theorem run_app_more (w : World) (base : Nat) (v : Value) (l : List UInt8) (x : Option Addr) (c : Nat) (m : List UInt8) (ty : TypeId) (hv : OwnB w base v l) (h : IsB w (.slice x m.length c) m) (hl : l.length + m.length ≤ 140737488355328) (hb : base ≤ w.heap.size) :
    ∃ v' w', (Builtin.append_ #[33, 33] ty #[v, .slice x m.length c]).run Tryz.prog w = .ok v' w' ∧ OwnB w' base v' (l ++ m) ∧ w.grownBy w' v.ownBlock ∧ (∀ g, v'.ownBlock = some g → v.ownBlock = some g ∨ g = w.heap.size) := by
  obtain ⟨i, hi, hzz⟩ := Option.map_eq_some_iff.1 info5
  simp only [Prod.mk.injEq] at hzz
  obtain ⟨hz, hs, hby⟩ := hzz
  by_cases hm : m = []
  · subst hm
    have hv' := hv
    obtain ⟨_, ⟨rfl, hn⟩ | ⟨g, cap, cur, rfl, hbg, hg, hle, hmx, hsz, ht⟩⟩ := hv
    · refine ⟨_, _, run_app_nil0 w x c ty h, by rw [List.append_nil]; exact hv', World.grownBy.refl w _, fun g hg => .inl hg⟩
    · have hr := run_append_room_src (P := Tryz.prog) w 33 33 ty 5 i Tryz.underlying33 hi g 0 l.length cap _ 0 (bytesA []).toList (by rw [hs]; exact src_isB (l := []) h) (by omega) (by simp [bytesA]) (by simp [bytesA])
      simp [bytesA, World.setCells] at hr
      exact ⟨_, _, hr, by rw [List.append_nil]; exact hv', World.grownBy.refl w _, fun g hg => .inl hg⟩
  · have hp : 0 < m.length := List.length_pos_iff.2 hm
    rcases h with ⟨_, h⟩ | ⟨y, d, he, hc⟩
    · exact absurd h hm
    · simp only [Value.slice.injEq, true_and] at he
      obtain ⟨rfl, rfl⟩ := he
      obtain ⟨g, cap, w', hr, h2, h3, h4, h5⟩ := run_append_lies (P := Tryz.prog) w 33 ty base 5 i _ 1 1 Tryz.underlying33 hi hz hs hby rfl (by omega) v l.length (bytesA l).toList hv y m.length c (bytesA m).toList (by simp)
        (fun j u hu => by
          have hj : j < m.length := by have := (List.getElem?_eq_some_iff.1 hu).1; simpa using this
          rw [Array.getElem?_toList, bytesA_get m j hj] at hu
          rw [hc j hj]; exact hu) (bytesA_one m) hp (by unfold maxLen; omega) (by omega) hb _ rfl
      refine ⟨_, w', hr, ?_, h3, fun g' hg' => ?_⟩
      · unfold OwnB
        rw [List.length_append]
        have e : (bytesA (l ++ m)).toList = (bytesA l).toList ++ (bytesA m).toList := by simp [bytesA]
        rw [e]; exact h2
      · simp only [Value.ownBlock, Option.some.injEq] at hg'
        subst hg'; exact h4
theorem below_by {w w' : World} {base : Nat} {v : Value} {l : List UInt8} (h : OwnB w base v l) (hg : w.grownBy w' v.ownBlock) (hb : base ≤ w.heap.size) : Below base w w' := below_grown h hg hb
theorem ownB_empty (w : World) : OwnB (w.alloc (.cells #[] 5)) w.heap.size (.slice (some ⟨w.heap.size, 0, none⟩) 0 0) [] :=
  ⟨by simp [bytesA], .inr ⟨w.heap.size, 0, #[], rfl, Nat.le_refl _, heap_alloc_last w _, Nat.le_refl _, by simp [maxLen], rfl, by simp [bytesA]⟩⟩
end Go.Proofs.YtklbdhpnbjhgkaaGreatDoor
namespace Go.Proofs.YtklbdhpnbjhgkaaGreatDoor
open Go.RowKit

/-! Names by definition, over lists of bytes -/
def lB (l : List UInt8) (k : Nat) : UInt8 := l[k]?.getD 0
/-! The bytes of a name, and zeros -/
theorem lB_app (l m : List UInt8) (k : Nat) (h : k < l.length) : lB (l ++ m) k = lB l k := by
  unfold lB; rw [List.getElem?_append_left h]
/-! Seen part by part -/
/-! The order of texts -/
end Go.Proofs.YtklbdhpnbjhgkaaGreatDoor
