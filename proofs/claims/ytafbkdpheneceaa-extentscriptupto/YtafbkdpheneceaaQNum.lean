import Derived.WalkKit
import Derived.Laws.BitsAllLaws
import Derived.Test.YtafbkdpheneceaaRows
import Derived.WalkSpells
import Derived.WalkLawsBesides
import Derived.Deep.WholeRow
import Derived.Laws.CopyRow
import Derived.Stop.BytesEq
import Derived.Deep.MidRow
import Derived.Laws.IdiomStrings
import Derived.BigQuiet
namespace Go.Proofs.Ytafbkdpheneceaa
open Go.RowKit

/-! Plain facts on numbers and bytes; nothing of the program. -/

def inB (a n : Int) : Bool := decide (0 ≤ a ∧ 0 ≤ n ∧ n ≤ 64 - a)
theorem inB_iff (a n : Int) : inB a n = true ↔ 0 ≤ a ∧ 0 ≤ n ∧ n ≤ 64 - a := by simp [inB]
theorem inB_no (a n : Int) : inB a n = false ↔ ¬ (0 ≤ a ∧ 0 ≤ n ∧ n ≤ 64 - a) := by simp [inB]

def upd (s : Nat → UInt8) (i : Nat) (b : UInt8) : Nat → UInt8 := fun j => if j = i then b else s j

/-- The number of the first k bytes from a on, the lowest first. -/
def numN (s : Nat → UInt8) (a : Nat) : Nat → Nat
  | 0 => 0
  | k + 1 => numN s a k + (s (a + k)).toNat * 256 ^ k
theorem numN_lt (s : Nat → UInt8) (a : Nat) : ∀ k, numN s a k < 256 ^ k
  | 0 => by simp [numN]
  | k + 1 => by
    have h := numN_lt s a k
    have hb := (s (a + k)).toNat_lt
    have : (s (a + k)).toNat * 256 ^ k ≤ 255 * 256 ^ k := Nat.mul_le_mul_right _ (by omega)
    rw [numN, Nat.pow_succ]
    omega
theorem numN_congr (s t : Nat → UInt8) (a : Nat) : ∀ k, (∀ i, i < k → s (a + i) = t (a + i)) → numN s a k = numN t a k
  | 0, _ => rfl
  | k + 1, h => by rw [numN, numN, numN_congr s t a k (fun i hi => h i (by omega)), h k (by omega)]
theorem or_step (v b k : Nat) (hk : k < 4) (hv : v < 256 ^ k) (hb : b < 256) :
    bits .or .u32 (v : Int) ((b : Int) % 4294967296 * 2 ^ (8 * k) % 4294967296) = ((v + b * 256 ^ k : Nat) : Int) := by
  have e : ((b : Int) % 4294967296 * 2 ^ (8 * k) % 4294967296) = ((b * 256 ^ k : Nat) : Int) := by
    have h1 : (256 : Nat) ^ k = 2 ^ (8 * k) := by rw [Nat.pow_mul]
    have h2 : b * 256 ^ k < 4294967296 := by
      have : b * 256 ^ k ≤ 255 * 256 ^ k := Nat.mul_le_mul_right _ (by omega)
      have : (256 : Nat) ^ k ≤ 256 ^ 3 := Nat.pow_le_pow_right (by omega) (by omega)
      omega
    have e0 : (b : Int) % 4294967296 = (b : Int) := Int.emod_eq_of_lt (by omega) (by omega)
    have e1 : ((2 : Int) ^ (8 * k)) = ((256 ^ k : Nat) : Int) := by rw [h1]; simp
    rw [e0, e1, ← Int.natCast_mul, Int.emod_eq_of_lt (by omega) (by omega)]
  have h2 : b * 256 ^ k < 4294967296 := by
    have : b * 256 ^ k ≤ 255 * 256 ^ k := Nat.mul_le_mul_right _ (by omega)
    have : (256 : Nat) ^ k ≤ 256 ^ 3 := Nat.pow_le_pow_right (by omega) (by omega)
    omega
  have h3 : (256 : Nat) ^ k ≤ 256 ^ 3 := Nat.pow_le_pow_right (by omega) (by omega)
  rw [e, u32_or_nat v (b * 256 ^ k) (by omega) h2]
  have h1 : (256 : Nat) ^ k = 2 ^ (8 * k) := by rw [Nat.pow_mul]
  rw [h1] at hv ⊢
  have := Nat.two_pow_add_eq_or_of_lt hv b
  rw [Nat.or_comm, Nat.mul_comm b, ← this, Nat.add_comm]

/-- The sector with the n lowest bytes of v from a on. -/
def putN (s : Nat → UInt8) (a v n : Nat) : Nat → UInt8 := fun j => if a ≤ j ∧ j < a + n then UInt8.ofNat (v / 256 ^ (j - a)) else s j
theorem putN_zero (s : Nat → UInt8) (a v : Nat) : putN s a v 0 = s := by
  funext j; unfold putN; rw [if_neg (by omega)]
theorem putN_succ (s : Nat → UInt8) (a v k : Nat) : putN s a v (k + 1) = upd (putN s a v k) (a + k) (UInt8.ofNat (v / 256 ^ k)) := by
  funext j
  unfold putN upd
  by_cases h : j = a + k
  · subst h; rw [if_pos (by omega), if_pos rfl, show a + k - a = k by omega]
  · rw [if_neg h]
    by_cases h2 : a ≤ j ∧ j < a + k
    · rw [if_pos (by omega)]; simp only; rw [if_pos h2]
    · rw [if_neg (by omega)]; simp only; rw [if_neg h2]
theorem numN_putN (s : Nat → UInt8) (a v n : Nat) : ∀ k, k ≤ n → numN (putN s a v n) a k = v % 256 ^ k
  | 0, _ => by simp [numN, Nat.mod_one]
  | k + 1, h => by
    rw [numN, numN_putN s a v n k (by omega)]
    have e : (putN s a v n (a + k)).toNat = v / 256 ^ k % 256 := by
      unfold putN; rw [if_pos (by omega), show a + k - a = k by omega]; simp
    rw [e, Nat.pow_succ, Nat.mod_mul]
    rw [Nat.mul_comm (256 ^ k)]
theorem shr_byte (v k : Nat) : (UInt8.ofNat (v / 256 ^ k)).toNat = v / 256 ^ k % 256 := by simp
theorem shr_form (v k : Nat) : ((v : Int) / 2 ^ (8 * k) % 256) = ((UInt8.ofNat (v / 256 ^ k)).toNat : Int) := by
  have h1 : (256 : Nat) ^ k = 2 ^ (8 * k) := by rw [Nat.pow_mul]
  have e1 : ((2 : Int) ^ (8 * k)) = ((256 ^ k : Nat) : Int) := by rw [h1]; simp
  rw [shr_byte, e1]
  omega
/-- What is put where there is room. -/
def putI (s : Nat → UInt8) (a : Int) (v n : Nat) : Nat → UInt8 := if inB a n then putN s a.toNat v n else s
/-- The number that is read where there is one. -/
def numI (s : Nat → UInt8) (a n : Int) : Nat := if inB a n then numN s a.toNat n.toNat else 0
theorem numI_lt (s : Nat → UInt8) (a n : Int) : numI s a n < 256 ^ n.toNat := by
  unfold numI; split
  · exact numN_lt s _ _
  · exact Nat.pow_pos (by omega)
/-- m bytes of t from p on, laid into s from o on. -/
def blit (s : Nat → UInt8) (o : Nat) (t : Nat → UInt8) (p m : Nat) : Nat → UInt8 := fun j => if o ≤ j ∧ j < o + m then t (p + (j - o)) else s j

/-- A stretch of zeros. -/
def zfB (s : Nat → UInt8) (a b : Int) : Bool := decide (0 ≤ a ∧ a ≤ b ∧ b ≤ 64) && (List.range 64).all fun i => decide (a ≤ (i : Int) ∧ (i : Int) < b → s i = 0)
theorem zfB_iff (s : Nat → UInt8) (a b : Int) : zfB s a b = true ↔ (0 ≤ a ∧ a ≤ b ∧ b ≤ 64) ∧ ∀ i : Nat, i < 64 → a ≤ (i : Int) → (i : Int) < b → s i = 0 := by
  simp only [zfB, Bool.and_eq_true, decide_eq_true_eq, List.all_eq_true, List.mem_range]
  constructor
  · rintro ⟨h, k⟩; exact ⟨h, fun i hi h1 h2 => k i hi ⟨h1, h2⟩⟩
  · rintro ⟨h, k⟩; exact ⟨h, fun i hi h1 => k i hi h1.1 h1.2⟩

theorem zfB_one (s : Nat → UInt8) (k : Nat) (h : k < 64) : zfB s k ((k : Int) + 1) = (((s k).toNat : Int) == 0) := by
  rw [Bool.eq_iff_iff, zfB_iff, beq_iff_eq]
  constructor
  · rintro ⟨_, h2⟩; have := h2 k h (by omega) (by omega); rw [this]; rfl
  · intro h2
    refine ⟨by omega, fun i hi h3 h4 => ?_⟩
    obtain rfl : i = k := by omega
    exact UInt8.toNat_inj.1 (by simpa using h2)
theorem zfB_cut (s : Nat → UInt8) (a k b : Int) (h : a ≤ k) (h' : k ≤ b) (ha : 0 ≤ a) (hb : b ≤ 64) : zfB s a b = (zfB s a k && zfB s k b) := by
  rw [Bool.eq_iff_iff, Bool.and_eq_true, zfB_iff, zfB_iff, zfB_iff]
  constructor
  · rintro ⟨_, h2⟩; exact ⟨⟨by omega, fun i hi h3 h4 => h2 i hi h3 (by omega)⟩, ⟨by omega, fun i hi h3 h4 => h2 i hi (by omega) h4⟩⟩
  · rintro ⟨⟨_, h2⟩, _, h3⟩
    refine ⟨by omega, fun i hi h4 h5 => ?_⟩
    by_cases h6 : (i : Int) < k
    · exact h2 i hi h4 h6
    · exact h3 i hi (by omega) h5
theorem zfB_none (s : Nat → UInt8) (a : Int) (h : 0 ≤ a) (h' : a ≤ 64) : zfB s a a = true := by
  rw [zfB_iff]; exact ⟨by omega, fun i hi h3 h4 => by omega⟩
theorem zfB_bad (s : Nat → UInt8) (a b : Int) (h : ¬ (0 ≤ a ∧ a ≤ b ∧ b ≤ 64)) : zfB s a b = false := by
  cases hz : zfB s a b
  · rfl
  · exact absurd ((zfB_iff s a b).1 hz).1 h

end Go.Proofs.Ytafbkdpheneceaa
namespace Go.Proofs.Ytafbkdpheneceaa
open Go.RowKit

/-! A sector as a function from places to bytes, its cells, and the model's operations on whole sectors. -/

def secA (s : Nat → UInt8) : Array Value := Array.ofFn (n := 64) fun i => Value.int .u8 ((s i).toNat : Int)
def secZ : Nat → UInt8 := fun _ => 0
def secEq (s t : Nat → UInt8) : Bool := (List.range 64).all fun i => s i == t i

@[simp, go_sem] theorem secA_size (s : Nat → UInt8) : (secA s).size = 64 := by simp [secA]
theorem secA_get (s : Nat → UInt8) (i : Nat) (h : i < 64) : (secA s)[i]? = some (Value.int .u8 ((s i).toNat : Int)) := by simp [secA, h]
@[simp, go_sem] theorem secA_getElem (s : Nat → UInt8) (i : Nat) (h : i < (secA s).size) : (secA s)[i] = Value.int .u8 ((s i).toNat : Int) := by simp [secA]
theorem secEq_iff (s t : Nat → UInt8) : secEq s t = true ↔ ∀ i, i < 64 → s i = t i := by simp [secEq]
theorem secA_inj (s t : Nat → UInt8) : secA s = secA t ↔ ∀ i, i < 64 → s i = t i := by
  constructor
  · intro h i hi
    have := congrArg (fun c => c[i]?) h
    simp only [secA_get s i hi, secA_get t i hi, Option.some.injEq, Value.int.injEq, true_and] at this
    exact UInt8.toNat_inj.1 (by omega)
  · intro h
    apply Array.ext_getElem?
    intro i
    by_cases hi : i < 64
    · rw [secA_get s i hi, secA_get t i hi, h i hi]
    · rw [Array.getElem?_eq_none (by simp; omega), Array.getElem?_eq_none (by simp; omega)]
theorem secA_one (s : Nat → UInt8) : (secA s).all (·.oneCell') = true := by
  rw [Array.all_eq_true_iff_forall_mem]
  intro v hv
  simp only [secA, Array.mem_ofFn] at hv
  obtain ⟨i, rfl⟩ := hv
  rfl
theorem secA_set (s : Nat → UInt8) (i : Nat) (b : UInt8) (h : i < 64) : (secA s).setIfInBounds i (Value.int .u8 (b.toNat : Int)) = secA (upd s i b) := by
  apply Array.ext_getElem?
  intro j
  by_cases hj : j < 64
  · rw [secA_get _ j hj]
    by_cases e : i = j
    · subst e; simp [upd, h]
    · rw [Array.getElem?_setIfInBounds_ne e, secA_get s j hj]; simp [upd, Ne.symm e]
  · rw [Array.getElem?_eq_none (by simp; omega), Array.getElem?_eq_none (by simp; omega)]
theorem secA_of (c : Array Value) (hs : c.size = 64) (h : ∀ i, i < 64 → ∃ x : Int, c[i]? = some (Value.int .u8 x) ∧ 0 ≤ x ∧ x ≤ 255) : ∃ s, c = secA s := by
  refine ⟨fun i => match c[i]? with | some (Value.int _ x) => UInt8.ofNat x.toNat | _ => 0, ?_⟩
  apply Array.ext_getElem?
  intro i
  by_cases hi : i < 64
  · obtain ⟨x, hx, h0, h1⟩ := h i hi
    rw [secA_get _ i hi, hx]
    simp only [UInt8.toNat_ofNat', Option.some.injEq, Value.int.injEq, true_and]
    omega
  · rw [Array.getElem?_eq_none (by omega), Array.getElem?_eq_none (by simp; omega)]

/-- The cells of a block; is it a row of 64 that may be written? -/
def rowAt (w : World) (n : Nat) : Array Value := match w.heap[n]? with | some (.cells c _ _) => c | _ => #[]
def rowOk (w : World) (n : Nat) : Bool := match w.heap[n]? with | some (.cells c _ fr) => c.size == 64 && fr == (0, 0) | _ => false
@[go_sem] theorem rowAt_drew (w : World) (n : Nat) : rowAt w.drew n = rowAt w n := rfl
@[go_sem] theorem rowOk_drew (w : World) (n : Nat) : rowOk w.drew n = rowOk w n := rfl
@[go_sem] theorem setRow_drew' (w : World) (n : Nat) (c : Array Value) : w.drew.setRow n c = (w.setRow n c).drew := rfl
@[go_sem] theorem rowAt_new (w : World) (n : Nat) (c : Array Value) (t : TypeId) (h : n = w.heap.size) : rowAt (w.alloc (.cells c t)) n = c := by
  subst h; unfold rowAt; rw [heap_alloc_last]
@[go_sem] theorem rowOk_new (w : World) (n : Nat) (c : Array Value) (t : TypeId) (h : n = w.heap.size) (hc : c.size = 64) : rowOk (w.alloc (.cells c t)) n = true := by
  subst h; unfold rowOk; rw [heap_alloc_last]; simp [hc]
@[go_sem] theorem rowAt_old (w : World) (n : Nat) (o : Obj) (h : n < w.heap.size) : rowAt (w.alloc o) n = rowAt w n := by
  unfold rowAt; rw [Below.heap_alloc w o n h]
@[go_sem] theorem rowOk_old (w : World) (n : Nat) (o : Obj) (h : n < w.heap.size) : rowOk (w.alloc o) n = rowOk w n := by
  unfold rowOk; rw [Below.heap_alloc w o n h]
@[go_sem] theorem setRow_new (w : World) (n : Nat) (c c' : Array Value) (t : TypeId) (h : n = w.heap.size) : (w.alloc (.cells c t)).setRow n c' = w.alloc (.cells c' t) := by
  subst h; exact World.setRow_alloc_new w c c' t
@[go_sem] theorem setRow_old (w : World) (n : Nat) (c' : Array Value) (o : Obj) (h : n < w.heap.size) : (w.alloc o).setRow n c' = (w.setRow n c').alloc o := by
  simp only [World.setRow, World.alloc]
  congr 1
  apply Array.ext_getElem?
  intro i
  rw [Array.getElem?_modify]
  simp only [Array.getElem?_push, Array.size_modify, Array.getElem?_modify]
  by_cases h1 : n = i
  · subst h1
    have : ¬ n = w.heap.size := by omega
    simp [this]
  · simp [h1]
theorem row_of_ok {w : World} {n : Nat} (h : rowOk w n = true) : ∃ t, w.heap[n]? = some (.cells (rowAt w n) t (0, 0)) ∧ (rowAt w n).size = 64 := by
  unfold rowOk at h
  unfold rowAt
  cases hq : w.heap[n]? with
  | none => simp [hq] at h
  | some o =>
    cases o with
    | cells c t fr =>
      simp [hq] at h
      obtain ⟨h1, h2⟩ := h
      subst h2
      exact ⟨t, rfl, h1⟩
    | _ => simp [hq] at h

@[go_sem] theorem rowAt_setRow_same (w : World) (n : Nat) (c : Array Value) (h : rowOk w n = true) : rowAt (w.setRow n c) n = c := by
  obtain ⟨t, hg, _⟩ := row_of_ok h
  unfold rowAt; rw [setRow_heap w n _ c t _ hg]
@[go_sem] theorem rowOk_setRow_same (w : World) (n : Nat) (c : Array Value) (h : rowOk w n = true) (hc : c.size = 64) : rowOk (w.setRow n c) n = true := by
  obtain ⟨t, hg, _⟩ := row_of_ok h
  unfold rowOk; rw [setRow_heap w n _ c t _ hg]; simp [hc]
theorem rowAt_setRow_other (w : World) (n m : Nat) (c : Array Value) (h : n ≠ m) : rowAt (w.setRow m c) n = rowAt w n := by
  unfold rowAt; rw [setRow_other w m n c h]
theorem rowOk_setRow_other (w : World) (n m : Nat) (c : Array Value) (h : n ≠ m) : rowOk (w.setRow m c) n = rowOk w n := by
  unfold rowOk; rw [setRow_other w m n c h]
/-- Behind a call that has turned nothing old: the old rows are as they were. -/
theorem rows_below {B : Nat} {W w1 : World} (hb : Below B W w1) : (∀ n, n < B → rowOk w1 n = rowOk W n) ∧ (∀ n, n < B → rowAt w1 n = rowAt W n) :=
  ⟨fun n h => by unfold rowOk; rw [hb.block n h], fun n h => by unfold rowAt; rw [hb.block n h]⟩
theorem after {W w1 : World} (hb : Below W.heap.size W w1) : (∀ n, n < W.heap.size → rowOk w1 n = rowOk W n) ∧ (∀ n, n < W.heap.size → rowAt w1 n = rowAt W n) ∧
    (∀ b o, b < W.heap.size → w1.cell? ⟨b, o, none⟩ = W.cell? ⟨b, o, none⟩) ∧ (∀ b o, b < W.heap.size → w1.frozen? ⟨b, o, none⟩ = W.frozen? ⟨b, o, none⟩) ∧ W.heap.size ≤ w1.heap.size :=
  ⟨(rows_below hb).1, (rows_below hb).2, fun b o h => hb.cell (p := ⟨b, o, none⟩) h, fun b o h => hb.frozen (p := ⟨b, o, none⟩) h, hb.size⟩
theorem keepRow {B n : Nat} {W w1 : World} {c : Array Value} (hb : Below B W w1) (h : n < B) (hk : rowOk W n = true) (hc : rowAt W n = c) : rowOk w1 n = true ∧ rowAt w1 n = c :=
  ⟨by rw [(rows_below hb).1 n h]; exact hk, by rw [(rows_below hb).2 n h]; exact hc⟩
theorem below_row {B n : Nat} {w0 w : World} (hb : Below B w0 w) (h : B ≤ n) (c : Array Value) : Below B w0 (w.setRow n c) :=
  ⟨hb.os, hb.tape, hb.output, by simpa using hb.size, fun k hk => by rw [setRow_other w n k c (by omega)]; exact hb.block k hk⟩

theorem cell_rowAt {w : World} {n : Nat} (h : rowOk w n = true) (i : Nat) : w.cell? ⟨n, i, none⟩ = (rowAt w n)[i]? := by
  obtain ⟨t, hg, _⟩ := row_of_ok h
  exact cell_of_row w n i _ t _ hg
theorem lt_of_rowOk {w : World} {n : Nat} (h : rowOk w n = true) : n < w.heap.size := by
  obtain ⟨t, hg, _⟩ := row_of_ok h
  exact (Array.getElem?_eq_some_iff.1 hg).1
/-- Nothing below B has turned, and the row k, not below B, holds s. -/
def Held (B k : Nat) (W : World) (s : Nat → UInt8) (w : World) : Prop := B ≤ k ∧ Below B W w ∧ rowOk w k = true ∧ rowAt w k = secA s
theorem Held.below {B k : Nat} {W w w1 : World} {s : Nat → UInt8} (h : Held B k W s w) (hb : Below w.heap.size w w1) : Held B k W s w1 := by
  obtain ⟨h0, h1, h2, h3⟩ := h
  have h9 := lt_of_rowOk h2
  obtain ⟨h4, h5⟩ := keepRow hb h9 h2 h3
  exact ⟨h0, h1.trans (hb.mono (by omega)), h4, h5⟩
theorem Held.drew {B k : Nat} {W w : World} {s : Nat → UInt8} (h : Held B k W s w) : Held B k W s w.drew := ⟨h.1, h.2.1.drew, h.2.2.1, h.2.2.2⟩
theorem Held.cell {B k : Nat} {W w : World} {s : Nat → UInt8} (h : Held B k W s w) (i : Nat) (hi : i < 64) : w.cell? ⟨k, i, none⟩ = some (Value.int .u8 ((s i).toNat : Int)) := by
  rw [cell_rowAt h.2.2.1, h.2.2.2, secA_get s i hi]
theorem Held.start (w : World) (s : Nat → UInt8) (t : TypeId) : Held w.heap.size w.heap.size w s (w.alloc (.cells (secA s) t)) :=
  ⟨Nat.le_refl _, (Below.refl _ _).alloc (Nat.le_refl _) _, rowOk_new _ _ _ _ rfl (secA_size _), rowAt_new _ _ _ _ rfl⟩

theorem sizeE (w : World) : (sizeOf 5).run Try.prog w = .ok 1 w := by kernel_rfl

section
variable (ρ : Operand → Value) (dst : Option Tmp) (ty ty' : TypeId) (pos : String) (after : Array Edge) (guard : Option (Nat × Bool))
end
theorem secA_cells (s : Nat → UInt8) : secA s = (((List.range 64).map s).map Extern.Stop.cell).toArray := by
  apply Array.ext_getElem?
  intro i
  by_cases hi : i < 64
  · rw [secA_get s i hi]; simp [hi, Extern.Stop.cell]
  · rw [Array.getElem?_eq_none (by simp; omega), Array.getElem?_eq_none (by simp; omega)]
theorem beq_secL (s t : Nat → UInt8) : (((List.range 64).map s) == ((List.range 64).map t)) = secEq s t := by
  rw [Bool.eq_iff_iff, secEq_iff, beq_iff_eq]
  constructor
  · intro h i hi
    have := congrArg (fun l => l[i]?) h
    simpa [hi] using this
  · intro h
    exact List.map_congr_left fun i hi => h i (by simpa using hi)
/-- One row's bytes laid into another's. -/
theorem secA_blit (s t : Nat → UInt8) (o p m : Nat) (h : o + m ≤ 64) (h' : p + m ≤ 64) :
    ((secA s).toList.take o ++ ((secA t).toList.drop p).take m ++ (secA s).toList.drop (o + m)).toArray = secA (blit s o t p m) := by
  apply Array.ext_getElem?
  intro i
  by_cases hi : i < 64
  · rw [secA_get _ i hi]
    have hs : (secA s).toList.length = 64 := by simp
    have ht : (secA t).toList.length = 64 := by simp
    simp only [List.getElem?_toArray, List.append_assoc]
    by_cases h1 : i < o
    · rw [List.getElem?_append_left (by simp; omega), List.getElem?_take, if_pos h1, Array.getElem?_toList, secA_get s i hi]
      unfold blit; rw [if_neg (by omega)]
    · rw [List.getElem?_append_right (by simp; omega)]
      have e1 : (List.take o (secA s).toList).length = o := by simp; omega
      rw [e1]
      by_cases h2 : i < o + m
      · rw [List.getElem?_append_left (by simp; omega), List.getElem?_take, if_pos (by omega), List.getElem?_drop, Array.getElem?_toList, secA_get t _ (by omega)]
        unfold blit; rw [if_pos (by omega)]
      · have e2 : (List.take m (List.drop p (secA t).toList)).length = m := by simp; omega
        rw [List.getElem?_append_right (by omega), e2, List.getElem?_drop, Array.getElem?_toList, show o + m + (i - o - m) = i by omega, secA_get s i hi]
        unfold blit; rw [if_neg (by omega)]
  · rw [Array.getElem?_eq_none (by simp; omega), Array.getElem?_eq_none (by simp; omega)]
theorem heap_setCell (w : World) (g i : Nat) (v : Value) (c : Array Value) (t : TypeId) (fr : Nat × Nat) (h : w.heap[g]? = some (.cells c t fr)) : (w.setCell ⟨g, i, none⟩ v).heap[g]? = some (.cells (c.setIfInBounds i v) t fr) := by
  unfold World.setCell
  rw [Array.getElem?_modify, if_pos rfl, h]
  rfl
theorem below_alloc (w : World) (o : Obj) : Below w.heap.size w (w.alloc o) := (Below.refl _ _).alloc (Nat.le_refl _) _
theorem heap_new (w : World) (o : Obj) : (w.alloc o).heap[w.heap.size]? = some o := by unfold World.alloc; exact Array.getElem?_push_size
theorem heap_old (w : World) (o : Obj) (n : Nat) (h : n < w.heap.size) : (w.alloc o).heap[n]? = w.heap[n]? := Below.heap_alloc w o n h
end Go.Proofs.Ytafbkdpheneceaa
namespace Go.Proofs.Ytafbkdpheneceaa
open Go.RowKit

/-! Rows of any length: live and not frozen; their cells are rowAt. -/
def rowL (w : World) (n : Nat) : Bool := match w.heap[n]? with | some (.cells _ _ fr) => fr == (0, 0) | _ => false
@[go_sem] theorem rowL_drew (w : World) (n : Nat) : rowL w.drew n = rowL w n := rfl
@[go_sem] theorem rowL_new (w : World) (n : Nat) (c : Array Value) (t : TypeId) (h : n = w.heap.size) : rowL (w.alloc (.cells c t)) n = true := by
  subst h; unfold rowL; rw [heap_alloc_last]; rfl
@[go_sem] theorem rowL_old (w : World) (n : Nat) (o : Obj) (h : n < w.heap.size) : rowL (w.alloc o) n = rowL w n := by
  unfold rowL; rw [Below.heap_alloc w o n h]
theorem row_of_L {w : World} {n : Nat} (h : rowL w n = true) : ∃ t, w.heap[n]? = some (.cells (rowAt w n) t (0, 0)) := by
  unfold rowL at h
  unfold rowAt
  cases hq : w.heap[n]? with
  | none => simp [hq] at h
  | some o =>
    cases o with
    | cells c t fr =>
      simp [hq] at h
      subst h
      exact ⟨t, rfl⟩
    | _ => simp [hq] at h
theorem rowL_lt {w : World} {n : Nat} (h : rowL w n = true) : n < w.heap.size := by
  obtain ⟨t, hg⟩ := row_of_L h
  exact (Array.getElem?_eq_some_iff.1 hg).1
@[go_sem] theorem rowAt_setRow_L (w : World) (n : Nat) (c : Array Value) (h : rowL w n = true) : rowAt (w.setRow n c) n = c := by
  obtain ⟨t, hg⟩ := row_of_L h
  unfold rowAt; rw [setRow_heap w n _ c t _ hg]
@[go_sem] theorem rowL_setRow_same (w : World) (n : Nat) (c : Array Value) (h : rowL w n = true) : rowL (w.setRow n c) n = true := by
  obtain ⟨t, hg⟩ := row_of_L h
  unfold rowL; rw [setRow_heap w n _ c t _ hg]; rfl
theorem rowL_setRow_other (w : World) (n m : Nat) (c : Array Value) (h : n ≠ m) : rowL (w.setRow m c) n = rowL w n := by
  unfold rowL; rw [setRow_other w m n c h]
theorem cell_rowL {w : World} {n : Nat} (h : rowL w n = true) (i : Nat) : w.cell? ⟨n, i, none⟩ = (rowAt w n)[i]? := by
  obtain ⟨t, hg⟩ := row_of_L h
  exact cell_of_row w n i _ t _ hg
theorem frozen_rowL {w : World} {n : Nat} (h : rowL w n = true) (i : Nat) : w.frozen? ⟨n, i, none⟩ = false := by
  obtain ⟨t, hg⟩ := row_of_L h
  simp [World.frozen?, hg]
/-- A row with these cells. -/
def RowC (w : World) (g : Nat) (c : Array Value) : Prop := rowL w g = true ∧ rowAt w g = c
theorem RowC.block {w w1 : World} {g : Nat} {c : Array Value} (h : RowC w g c) (hb : w1.heap[g]? = w.heap[g]?) : RowC w1 g c := by
  unfold RowC rowL rowAt at *
  rw [hb]; exact h
theorem RowC.kept {w w1 : World} {g : Nat} {c : Array Value} (h : RowC w g c) (hb : Below w.heap.size w w1) : RowC w1 g c := h.block (hb.block g (rowL_lt h.1))
theorem RowC.new (w : World) (c : Array Value) (t : TypeId) : RowC (w.alloc (.cells c t)) w.heap.size c := ⟨rowL_new _ _ _ _ rfl, rowAt_new _ _ _ _ rfl⟩
theorem RowC.lt {w : World} {g : Nat} {c : Array Value} (h : RowC w g c) : g < w.heap.size := rowL_lt h.1
theorem RowC.cell {w : World} {g : Nat} {c : Array Value} (h : RowC w g c) (i : Nat) : w.cell? ⟨g, i, none⟩ = c[i]? := by rw [cell_rowL h.1, h.2]
theorem RowC.frozen {w : World} {g : Nat} {c : Array Value} (h : RowC w g c) (i : Nat) : w.frozen? ⟨g, i, none⟩ = false := frozen_rowL h.1 i
theorem RowC.set {w : World} {g : Nat} {c : Array Value} (h : RowC w g c) (i : Nat) (v : Value) : RowC (w.setCell ⟨g, i, none⟩ v) g (c.setIfInBounds i v) := by
  obtain ⟨t, hg⟩ := row_of_L h.1
  have e := heap_setCell w g i v _ t _ hg
  constructor
  · unfold rowL; rw [e]; rfl
  · have e2 : rowAt (w.setCell ⟨g, i, none⟩ v) g = (rowAt w g).setIfInBounds i v := by
      show (match (w.setCell ⟨g, i, none⟩ v).heap[g]? with | some (.cells c _ _) => c | _ => #[]) = _
      rw [e]
    rw [e2, h.2]
theorem heap_setCell_ne (w : World) (g k i : Nat) (v : Value) (h : g ≠ k) : (w.setCell ⟨g, i, none⟩ v).heap[k]? = w.heap[k]? := by
  simp only [World.setCell, Array.getElem?_modify]; rw [if_neg h]
theorem RowC.set_ne {w : World} {g k : Nat} {c : Array Value} (h : RowC w k c) (i : Nat) (v : Value) (hn : g ≠ k) : RowC (w.setCell ⟨g, i, none⟩ v) k c := h.block (heap_setCell_ne w g k i v hn)
theorem RowC.setRow {w : World} {g : Nat} {c : Array Value} (h : RowC w g c) (d : Array Value) : RowC (w.setRow g d) g d := ⟨rowL_setRow_same _ _ _ h.1, rowAt_setRow_L _ _ _ h.1⟩
theorem RowC.setRow_ne {w : World} {g k : Nat} {c : Array Value} (h : RowC w k c) (d : Array Value) (hn : k ≠ g) : RowC (w.setRow g d) k c := h.block (setRow_other w g k d hn)
/-- Cells laid into a row. -/
def layC (c : Array Value) (o : Nat) (vs : Array Value) : Array Value := (c.toList.take o ++ vs.toList ++ c.toList.drop (o + vs.size)).toArray
theorem layC_all (c vs : Array Value) (h : vs.size = c.size) : layC c 0 vs = vs := by
  unfold layC
  rw [List.drop_of_length_le (by simp [h])]; simp
/-! The operations on them -/
def bigLoad (t : TypeId) (p : Value) : Sem Next := do pure (.value (← Instr.loadAt t p))
def bigStore (t : TypeId) (p x : Value) : Sem Next := do Instr.storeAt t p x; pure .skip
def bigAlloc (t : TypeId) : Sem Next := do pure (.value (← Instr.alloc t true (.tuple #[])))
def bigBox (t : TypeId) (x : Value) : Sem Next := do pure (.value (← Instr.box t x))
theorem run_bigLoad (t : TypeId) (d : TypeDesc) (n : Nat) (hu : Try.prog.underlying t = some d) (hd : d.isRow = true) (hi : (Try.prog.info? t).map (·.size) = some n) (w : World) (g o : Nat) (h : rowL w g = true) (hs : o + n ≤ (rowAt w g).size) :
    (bigLoad t (.pointer (some ⟨g, o, none⟩))).run Try.prog w = .ok (.value (.agg ((rowAt w g).extract o (o + n)))) w := by
  obtain ⟨ty, hg⟩ := row_of_L h
  have hr := World.rangeAt_of_block hg o n
  simp only [bigLoad, Sem.run_bind]
  rw [run_loadAt_mid w g o t _ d hr hu hd (by rw [hi]; simp; omega), Array.toArray_toList]
  rfl
theorem run_bigStore (t : TypeId) (n : Nat) (hi : (Try.prog.info? t).map (·.size) = some n) (w : World) (g o : Nat) (vs : Array Value) (h : rowL w g = true) (hn : vs.size = n) (hs : o + n ≤ (rowAt w g).size) (h1 : vs.all (·.oneCell') = true) :
    (bigStore t (.pointer (some ⟨g, o, none⟩)) (.agg vs)).run Try.prog w = .ok .skip (w.setRow g (layC (rowAt w g) o vs)) := by
  obtain ⟨ty, hg⟩ := row_of_L h
  have hst := run_storeCells_at Try.prog g o ty vs.toList 0 (rowAt w g) w hg (by simp; omega) (fun v hv => Array.all_eq_true_iff_forall_mem.1 h1 v (by simpa using hv))
  cases hq : Try.prog.info? t with
  | none => simp [hq] at hi
  | some i =>
    simp [hq] at hi
    simp only [Nat.add_zero, Array.length_toList] at hst
    simp [bigStore, Instr.storeAt, Instr.sureAddr, storeVar, sizeOf, typeInfo, hq, hi, Value.cells, hn, hst, layC]
theorem run_bigBox (t : TypeId) (c : Array Value) (w : World) : (bigBox t (.agg c)).run Try.prog w = .ok (.value (.pointer (some ⟨w.heap.size, 0, none⟩))) (w.alloc (.cells c t)) := by
  simp only [bigBox, Instr.box, newVar, Value.cells, Sem.run_bind]
  rfl
@[go_sem] theorem ltUp2 (n : Nat) : n < n + 1 + 1 := by omega
@[go_sem] theorem ltUp3 (n : Nat) : n < n + 1 + 1 + 1 := by omega
@[go_sem] theorem ltUp4 (n : Nat) : n < n + 1 + 1 + 1 + 1 := by omega
@[go_sem] theorem ltUp5 (n : Nat) : n < n + 1 + 1 + 1 + 1 + 1 := by omega
@[go_sem] theorem ltUp6 (n : Nat) : n < n + 1 + 1 + 1 + 1 + 1 + 1 := by omega
@[go_sem] theorem ltUp7 (n : Nat) : n < n + 1 + 1 + 1 + 1 + 1 + 1 + 1 := by omega
@[go_sem] theorem ltUp8 (n : Nat) : n < n + 1 + 1 + 1 + 1 + 1 + 1 + 1 + 1 := by omega
@[go_sem] theorem ltUp9 (n : Nat) : n < n + 1 + 1 + 1 + 1 + 1 + 1 + 1 + 1 + 1 := by omega
@[go_sem] theorem ltUpUp21 (n : Nat) : n + 1 < n + 1 + 1 := by omega
@[go_sem] theorem ltUpUp31 (n : Nat) : n + 1 < n + 1 + 1 + 1 := by omega
@[go_sem] theorem ltUpUp41 (n : Nat) : n + 1 < n + 1 + 1 + 1 + 1 := by omega
@[go_sem] theorem ltUpUp51 (n : Nat) : n + 1 < n + 1 + 1 + 1 + 1 + 1 := by omega
@[go_sem] theorem ltUpUp61 (n : Nat) : n + 1 < n + 1 + 1 + 1 + 1 + 1 + 1 := by omega
@[go_sem] theorem ltUpUp71 (n : Nat) : n + 1 < n + 1 + 1 + 1 + 1 + 1 + 1 + 1 := by omega
@[go_sem] theorem ltUpUp81 (n : Nat) : n + 1 < n + 1 + 1 + 1 + 1 + 1 + 1 + 1 + 1 := by omega
@[go_sem] theorem ltUpUp91 (n : Nat) : n + 1 < n + 1 + 1 + 1 + 1 + 1 + 1 + 1 + 1 + 1 := by omega
@[go_sem] theorem ltUpUp32 (n : Nat) : n + 1 + 1 < n + 1 + 1 + 1 := by omega
@[go_sem] theorem ltUpUp42 (n : Nat) : n + 1 + 1 < n + 1 + 1 + 1 + 1 := by omega
@[go_sem] theorem ltUpUp52 (n : Nat) : n + 1 + 1 < n + 1 + 1 + 1 + 1 + 1 := by omega
@[go_sem] theorem ltUpUp62 (n : Nat) : n + 1 + 1 < n + 1 + 1 + 1 + 1 + 1 + 1 := by omega
@[go_sem] theorem ltUpUp72 (n : Nat) : n + 1 + 1 < n + 1 + 1 + 1 + 1 + 1 + 1 + 1 := by omega
@[go_sem] theorem ltUpUp82 (n : Nat) : n + 1 + 1 < n + 1 + 1 + 1 + 1 + 1 + 1 + 1 + 1 := by omega
@[go_sem] theorem ltUpUp92 (n : Nat) : n + 1 + 1 < n + 1 + 1 + 1 + 1 + 1 + 1 + 1 + 1 + 1 := by omega
@[go_sem] theorem ltUpUp43 (n : Nat) : n + 1 + 1 + 1 < n + 1 + 1 + 1 + 1 := by omega
@[go_sem] theorem ltUpUp53 (n : Nat) : n + 1 + 1 + 1 < n + 1 + 1 + 1 + 1 + 1 := by omega
@[go_sem] theorem ltUpUp63 (n : Nat) : n + 1 + 1 + 1 < n + 1 + 1 + 1 + 1 + 1 + 1 := by omega
@[go_sem] theorem ltUpUp73 (n : Nat) : n + 1 + 1 + 1 < n + 1 + 1 + 1 + 1 + 1 + 1 + 1 := by omega
@[go_sem] theorem ltUpUp83 (n : Nat) : n + 1 + 1 + 1 < n + 1 + 1 + 1 + 1 + 1 + 1 + 1 + 1 := by omega
@[go_sem] theorem ltUpUp93 (n : Nat) : n + 1 + 1 + 1 < n + 1 + 1 + 1 + 1 + 1 + 1 + 1 + 1 + 1 := by omega
/-- Each value is one cell. -/
def OneC (c : Array Value) : Bool := c.all (·.oneCell')
end Go.Proofs.Ytafbkdpheneceaa
namespace Go.Proofs.Ytafbkdpheneceaa
open Go.RowKit

theorem ret_int {k : IntKind} {a b : Int} (h : a = b) : Ending.returned (.int k a) = .returned (.int k b) := by rw [h]
theorem ret_bool {a b : Bool} (h : a = b) : Ending.returned (.bool a) = .returned (.bool b) := by rw [h]
theorem ret_sec {s t : Nat → UInt8} (h : ∀ i, i < 64 → s i = t i) : Ending.returned (.agg (secA s)) = .returned (.agg (secA t)) := by rw [(secA_inj s t).2 h]

/-! Numbers read -/
/-! Numbers put -/
/-! The calls whose answers the document fixes -/
def secT : Nat → UInt8 := putI secZ 2 513 2
theorem secT_num2 : numI secT 2 2 = 513 := by decide
theorem secT_num4 : numI secT 0 4 = 33619968 := by decide
theorem secT_not : secEq secT secZ = false := by decide
theorem secZ_is : secEq secZ secZ = true := by decide
end Go.Proofs.Ytafbkdpheneceaa
namespace Go.Proofs.Ytafbkdpheneceaa
open Go.RowKit

/-! Slices of bytes -/
def bytesA (l : List UInt8) : Array Value := (l.map fun b => Value.int .u8 (b.toNat : Int)).toArray
@[simp, go_sem] theorem bytesA_size (l : List UInt8) : (bytesA l).size = l.length := by simp [bytesA]
theorem bytesA_get (l : List UInt8) (i : Nat) (h : i < l.length) : (bytesA l)[i]? = some (Value.int .u8 (l[i].toNat : Int)) := by simp [bytesA, h]
/-- The value v is a slice whose elements are the bytes l. -/
def IsB (w : World) (v : Value) (l : List UInt8) : Prop :=
  (v = .slice none 0 0 ∧ l = []) ∨ ∃ x c, v = .slice (some x) l.length c ∧ ∀ i (h : i < l.length), w.cell? (x.add i) = some (Value.int .u8 (l[i].toNat : Int))
theorem IsB.len {w : World} {v : Value} {l : List UInt8} (h : IsB w v l) : ∃ x c, v = .slice x l.length c := by
  rcases h with ⟨rfl, rfl⟩ | ⟨x, c, rfl, _⟩
  · exact ⟨none, 0, rfl⟩
  · exact ⟨some x, c, rfl⟩
theorem IsB.lt {w : World} {x : Addr} {n c : Nat} {l : List UInt8} (h : IsB w (.slice (some x) n c) l) (h0 : l ≠ []) : x.block < w.heap.size := by
  rcases h with ⟨h, _⟩ | ⟨y, d, he, hc⟩
  · cases h
  · simp only [Value.slice.injEq, Option.some.injEq] at he
    obtain ⟨rfl, _, _⟩ := he
    have h1 : 0 < l.length := List.length_pos_iff.2 h0
    have := World.block_lt_of_cell? w _ (hc 0 h1)
    have e : (x.add 0).block = x.block := by unfold Addr.add; split <;> rfl
    rwa [e] at this
theorem Addr.add_block (x : Addr) (i : Nat) : (x.add i).block = x.block := by unfold Addr.add; split <;> rfl
theorem IsB.below {B : Nat} {w w1 : World} {v : Value} {l : List UInt8} (h : IsB w v l) (hb : Below B w w1) (hB : ∀ x n c, v = .slice (some x) n c → l ≠ [] → x.block < B) : IsB w1 v l := by
  rcases h with h | ⟨x, c, rfl, hc⟩
  · exact .inl h
  · refine .inr ⟨x, c, rfl, fun i hi => ?_⟩
    have h0 : l ≠ [] := by rintro rfl; simp at hi
    rw [hb.cell (by rw [Addr.add_block]; exact hB x _ _ rfl h0)]
    exact hc i hi
theorem IsB.kept {w w1 : World} {v : Value} {l : List UInt8} (h : IsB w v l) (hb : Below w.heap.size w w1) : IsB w1 v l :=
  h.below hb fun x n c e h0 => by subst e; exact h.lt h0
theorem IsB.drew {w : World} {v : Value} {l : List UInt8} (h : IsB w v l) : IsB w.drew v l := h
/-- The sector with the bytes l from a on. -/
def layL (s : Nat → UInt8) (a : Nat) (l : List UInt8) : Nat → UInt8 := fun j => if h : a ≤ j ∧ j < a + l.length then l[j - a]'(by omega) else s j
def layI (s : Nat → UInt8) (a : Int) (l : List UInt8) : Nat → UInt8 := if inB a l.length then layL s a.toNat l else s
theorem layL_nil (s : Nat → UInt8) (a : Nat) : layL s a [] = s := by funext j; unfold layL; rw [dif_neg (by simp)]
theorem secA_lay (s : Nat → UInt8) (o : Nat) (l : List UInt8) (h : o + l.length ≤ 64) :
    ((secA s).toList.take o ++ (bytesA l).toList ++ (secA s).toList.drop (o + l.length)).toArray = secA (layL s o l) := by
  apply Array.ext_getElem?
  intro i
  by_cases hi : i < 64
  · rw [secA_get _ i hi]
    simp only [List.getElem?_toArray, List.append_assoc]
    by_cases h1 : i < o
    · rw [List.getElem?_append_left (by simp; omega), List.getElem?_take, if_pos h1, Array.getElem?_toList, secA_get s i hi]
      unfold layL; rw [dif_neg (by omega)]
    · rw [List.getElem?_append_right (by simp; omega)]
      have e1 : (List.take o (secA s).toList).length = o := by simp; omega
      rw [e1]
      by_cases h2 : i < o + l.length
      · rw [List.getElem?_append_left (by simp; omega), Array.getElem?_toList, bytesA_get l _ (by omega)]
        unfold layL; rw [dif_pos (by omega)]
      · have e2 : (bytesA l).toList.length = l.length := by simp
        rw [List.getElem?_append_right (by omega), e2, List.getElem?_drop, Array.getElem?_toList, show o + l.length + (i - o - l.length) = i by omega, secA_get s i hi]
        unfold layL; rw [dif_neg (by omega)]
  · rw [Array.getElem?_eq_none (by simp; omega), Array.getElem?_eq_none (by simp; omega)]
/-! Bytes read -/
def subL (s : Nat → UInt8) (a n : Nat) : List UInt8 := (List.range n).map fun i => s (a + i)
@[simp] theorem subL_length (s : Nat → UInt8) (a n : Nat) : (subL s a n).length = n := by simp [subL]
theorem subL_get (s : Nat → UInt8) (a n i : Nat) (h : i < (subL s a n).length) : (subL s a n)[i] = s (a + i) := by simp [subL]
theorem info5 : (Try.prog.info? 5).map (fun i => (i.zero, i.size, i.bytes)) = some (some (.int .u8 0), 1, 1) := by kernel_rfl
theorem made_bytes (n : Nat) : madeCells #[Value.int .u8 0] n = bytesA (List.replicate n 0) := by
  apply Array.ext_getElem?
  intro i
  by_cases hi : i < n
  · rw [bytesA_get _ i (by simpa using hi)]; simp [madeCells, hi, Nat.mod_one]
  · rw [Array.getElem?_eq_none (by rw [size_madeCells]; omega), Array.getElem?_eq_none (by simp; omega)]
/-- A block that holds the bytes l. -/
def rowB (w : World) (g : Nat) (l : List UInt8) : Prop := w.heap[g]? = some (.cells (bytesA l) 5 (0, 0))
theorem rowB.cell {w : World} {g : Nat} {l : List UInt8} (h : rowB w g l) (i : Nat) (hi : i < l.length) : w.cell? ⟨g, i, none⟩ = some (Value.int .u8 (l[i].toNat : Int)) := by
  rw [cell_of_row w g i _ _ _ h, bytesA_get l i hi]
theorem rowB.isB {w : World} {g : Nat} {l : List UInt8} (h : rowB w g l) (c : Nat) : IsB w (.slice (some ⟨g, 0, none⟩) l.length c) l :=
  .inr ⟨_, c, rfl, fun i hi => by
    have hadd : (⟨g, 0, none⟩ : Addr).add i = ⟨g, i, none⟩ := by unfold Addr.add; split <;> simp_all
    rw [hadd]; exact h.cell i hi⟩
theorem rowB.lt {w : World} {g : Nat} {l : List UInt8} (h : rowB w g l) : g < w.heap.size := (Array.getElem?_eq_some_iff.1 h).1
theorem rowB.kept {w w1 : World} {g : Nat} {l : List UInt8} (h : rowB w g l) (hb : Below w.heap.size w w1) : rowB w1 g l := by unfold rowB; rw [hb.block g h.lt]; exact h
theorem subL_lay (s : Nat → UInt8) (a : Nat) (l : List UInt8) : subL (layL s a l) a l.length = l := by
  apply List.ext_getElem
  · simp
  · intro i h1 h2
    rw [subL_get]; unfold layL; rw [dif_pos (by omega)]; simp

theorem IsB.spot {w : World} {x : Option Addr} {c : Nat} {l : List UInt8} (hv : IsB w (.slice x l.length c) l) (k : Nat) (hk : k < l.length) :
    ∃ b o, x = some ⟨b, o, none⟩ ∧ b < w.heap.size ∧ w.cell? ⟨b, o + k, none⟩ = some (Value.int .u8 ((l[k]?.getD 0).toNat : Int)) := by
  rcases hv with ⟨_, rfl⟩ | ⟨y, d, he, hc⟩
  · simp at hk
  · simp only [Value.slice.injEq, true_and] at he
    obtain ⟨rfl, rfl⟩ := he
    have h9 := hc k hk
    obtain ⟨b, o, sp⟩ := y
    have hsp : sp = none := by simpa [Addr.add] using World.cell?_spot (hc 0 (by omega))
    subst hsp
    have hlt := World.block_lt_of_cell? w _ h9
    have hadd : (⟨b, o, none⟩ : Addr).add k = ⟨b, o + k, none⟩ := by unfold Addr.add; split <;> simp_all
    rw [hadd] at h9 hlt
    exact ⟨b, o, rfl, hlt, by rw [h9]; simp [hk]⟩

theorem addr_add (b o i : Nat) : (⟨b, o, none⟩ : Addr).add i = ⟨b, o + i, none⟩ := by unfold Addr.add; split <;> simp_all
end Go.Proofs.Ytafbkdpheneceaa
namespace Go.Proofs.Ytafbkdpheneceaa
open Go.RowKit

/-! A region that draws its order, whose operations read rows that nobody writes, and whose calls leave those rows alone: one walk in the order of the text. -/

/-- A world of which p is known. -/
structure Kw (p : World → Prop) where
  w : World
  ok : p w
theorem wp_region_kept (p : World → Prop) {id : Nat} {Q : Exit → Act → World → Prop} {a : Act} {w : World} {l : List Oper} (hB : Region.lexB .any l.toArray = true) (hp : p w.drew)
    (h : wpQuiet Try.prog l.toArray (fun w' => ∃ n : Kw p, w' = n.w) (fun a' => ∀ n : Kw p, Q .normal a' n.w) l a) : (Code.region id l.toArray true).wp Try.prog Q a w := by
  refine wp_region_quiet (C := fun w' => ∃ n : Kw p, w' = n.w) (by kernel_rfl) hB ⟨⟨w.drew, hp⟩, rfl⟩ ?_
  have e : (fun a' => ∀ w', (∃ n : Kw p, w' = n.w) → Q .normal a' w') = (fun a' => ∀ n : Kw p, Q .normal a' n.w) := by
    funext a'
    exact propext ⟨fun k n => k _ ⟨n, rfl⟩, fun k w' ⟨n, hn⟩ => hn ▸ k n⟩
  rw [e]
  simpa using h
/-- A callee's contract inside such a region. -/
theorem Calls.kept {p : World → Prop} {f : FuncId} {args : Array Value} {w : World} {v : Value} {R : World → Prop} (h : Calls Try.prog f args w fun e w' => e = .returned v ∧ R w') (hR : ∀ w', R w' → p w') :
    Calls Try.prog f args w fun e w' => e = .returned v ∧ ∃ m : Kw p, w' = m.w :=
  h.mono fun _ w' ⟨he, hr⟩ => ⟨he, ⟨w', hR w' hr⟩, rfl⟩

end Go.Proofs.Ytafbkdpheneceaa
