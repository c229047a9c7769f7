import Derived.Test.YtklbdhpnbjhgkaaGreatDoorQNum
import Derived.Test.YtklbdhpnbjhgkaaGreatDoorQDigM
import Derived.BigQuiet
import Derived.Deep.QuietTactic
import Derived.WalkSpells
namespace Go.Proofs.YtklbdhpnbjhgkaaGreatDoor
open Go.RowKit

/-- A row that holds a digest. -/
def DgR (w : World) (g : Nat) (s : Nat → UInt8) : Prop := dg_rowOk w g = true ∧ dg_rowAt w g = dg_secA s
theorem DgR.kept {w w1 : World} {g : Nat} {s : Nat → UInt8} (h : DgR w g s) (hb : Below w.heap.size w w1) : DgR w1 g s := dg_keepRow hb (dg_lt_of_rowOk h.1) h.1 h.2
theorem DgR.new (w : World) (s : Nat → UInt8) (t : TypeId) : DgR (w.alloc (.cells (dg_secA s) t)) w.heap.size s := ⟨dg_rowOk_new _ _ _ _ rfl (dg_secA_size _), dg_rowAt_new _ _ _ _ rfl⟩
theorem DgR.lt {w : World} {g : Nat} {s : Nat → UInt8} (h : DgR w g s) : g < w.heap.size := dg_lt_of_rowOk h.1
theorem DgR.cell {w : World} {g : Nat} {s : Nat → UInt8} (h : DgR w g s) (i : Nat) (hi : i < 32) : w.cell? ⟨g, i, none⟩ = some (Value.int .u8 ((s i).toNat : Int)) := by
  rw [dg_cell_rowAt h.1, h.2, dg_secA_get s i hi]
theorem DgR.frozen {w : World} {g : Nat} {s : Nat → UInt8} (h : DgR w g s) (i : Nat) : w.frozen? ⟨g, i, none⟩ = false := by
  obtain ⟨t, hg, _⟩ := dg_row_of_ok h.1
  simp [World.frozen?, hg]
theorem heap_setCell4 (w : World) (g i : Nat) (v : Value) (c : Array Value) (t : TypeId) (fr : Nat × Nat) (h : w.heap[g]? = some (.cells c t fr)) : (w.setCell ⟨g, i, none⟩ v).heap[g]? = some (.cells (c.setIfInBounds i v) t fr) := by
  unfold World.setCell
  rw [Array.getElem?_modify, if_pos rfl, h]
  rfl
theorem DgR.set {w : World} {g : Nat} {s : Nat → UInt8} (h : DgR w g s) (i : Nat) (b : UInt8) (hi : i < 32) : DgR (w.setCell ⟨g, i, none⟩ (.int .u8 (b.toNat : Int))) g (upd s i b) := by
  obtain ⟨t, hg, hs⟩ := dg_row_of_ok h.1
  have e := heap_setCell4 w g i (.int .u8 (b.toNat : Int)) _ t _ hg
  constructor
  · unfold dg_rowOk; rw [e]; simp [hs]
  · have e2 : dg_rowAt (w.setCell ⟨g, i, none⟩ (.int .u8 (b.toNat : Int))) g = (dg_rowAt w g).setIfInBounds i (.int .u8 (b.toNat : Int)) := by
      show (match (w.setCell ⟨g, i, none⟩ (.int .u8 (b.toNat : Int))).heap[g]? with | some (.cells c _ _) => c | _ => #[]) = _
      rw [e]
    rw [e2, h.2]; exact dg_secA_set s i b hi
theorem DgR.set_ne {w : World} {g k : Nat} {s : Nat → UInt8} (h : DgR w k s) (i : Nat) (v : Value) (hn : g ≠ k) : DgR (w.setCell ⟨g, i, none⟩ v) k s := by
  unfold DgR dg_rowOk dg_rowAt at *
  have e : (w.setCell ⟨g, i, none⟩ v).heap[k]? = w.heap[k]? := by simp only [World.setCell, Array.getElem?_modify]; rw [if_neg hn]
  rw [e]; exact h
def dg_box (x : Value) : Sem Next := do pure (.value (← Instr.box 50 x))
@[go_sem ↓] theorem execOp_box_dg (ρ : Operand → Value) (dst : Option Tmp) (ty : TypeId) (pos : String) (after : Array Edge) (guard : Option (Nat × Bool)) (x : Operand) : execOp ρ { dst, op := .box 50 x, type := ty, pos, after, guard } = dg_box (ρ x) := rfl
@[go_sem] theorem run_box_dg (w : World) (c : Array Value) : (dg_box (.agg c)).run Tryz.prog w = .ok (.value (.pointer (some ⟨w.heap.size, 0, none⟩))) (w.alloc (.cells c 50)) := by
  simp only [dg_box, Instr.box, newVar, Value.cells, Sem.run_bind]
  rfl
def upT (d : Nat → UInt8) (k : Nat) : Nat → UInt8 := fun j => if j < k then d j else 0
theorem upT_zero (d : Nat → UInt8) : upT d 0 = dg_secZ := by funext j; simp [upT, dg_secZ]
theorem upT_succ (d : Nat → UInt8) (k : Nat) : upT d (k + 1) = upd (upT d k) k (d k) := by
  funext j
  unfold upT upd
  by_cases h : j = k
  · subst h; simp
  · have : (j < k + 1) = (j < k) := by simp; omega
    simp [h, this]
theorem upT_all (d : Nat → UInt8) : dg_secA (upT d 32) = dg_secA d := (dg_secA_inj _ _).2 fun i hi => by simp [upT, hi]
theorem below_drew4 {B : Nat} {W X : World} (h : Below B W X) (n : Nat) : Below B W (X.drewN n) := ⟨h.os, h.tape, h.output, h.size, h.block⟩
/-! Parts of strings -/
def strCut (x lo hi : Value) : Sem Next := do pure (.value (← Instr.sliceAt 9 x (some lo) (some hi) none))
def strCut0 (x hi : Value) : Sem Next := do pure (.value (← Instr.sliceAt 9 x none (some hi) none))
@[go_sem ↓] theorem execOp_strCut (ρ : Operand → Value) (dst : Option Tmp) (ty : TypeId) (pos : String) (after : Array Edge) (guard : Option (Nat × Bool)) (x lo hi : Operand) : execOp ρ { dst, op := .slice 9 x (some lo) (some hi) none, type := ty, pos, after, guard } = strCut (ρ x) (ρ lo) (ρ hi) := rfl
@[go_sem ↓] theorem execOp_strCut0 (ρ : Operand → Value) (dst : Option Tmp) (ty : TypeId) (pos : String) (after : Array Edge) (guard : Option (Nat × Bool)) (x hi : Operand) : execOp ρ { dst, op := .slice 9 x none (some hi) none, type := ty, pos, after, guard } = strCut0 (ρ x) (ρ hi) := rfl
@[go_sem] theorem run_strCut (w : World) (s : ByteArray) (lo hi : Nat) (a1 : (lo : Int) ≤ (hi : Int)) (a2 : (hi : Int) ≤ (s.size : Int)) : (strCut (.string s) (.int .i64 (lo : Int)) (.int .i64 (hi : Int))).run Tryz.prog w = .ok (.value (.string (s.extract lo hi))) w := by
  have b1 : ∀ W : World, (Instr.sliceBound (.int .i64 (hi : Int)) s.size BoundsCode.sliceAlen).run Tryz.prog W = .ok hi W := fun W => by
    have := run_sliceBound (P := Tryz.prog) W .i64 (hi : Int) s.size BoundsCode.sliceAlen (by omega) a2
    simpa using this
  have b2 : ∀ W : World, (Instr.sliceBound (.int .i64 (lo : Int)) hi BoundsCode.sliceB).run Tryz.prog W = .ok lo W := fun W => by
    have := run_sliceBound (P := Tryz.prog) W .i64 (lo : Int) hi BoundsCode.sliceB (by omega) a1
    simpa using this
  simp [strCut, Instr.sliceAt, Instr.slice, run_underlying Tryz.underlying9, Instr.sliceBounds, b1, b2]
/-! One sign of a string -/
def strB (s : ByteArray) (k : Nat) : UInt8 := s.data[k]?.getD 0
def strAt (x i : Value) : Sem Next := do pure (.value (← Instr.index 9 x i))
@[go_sem ↓] theorem execOp_strAt (ρ : Operand → Value) (dst : Option Tmp) (ty : TypeId) (pos : String) (after : Array Edge) (guard : Option (Nat × Bool)) (x i : Operand) : execOp ρ { dst, op := .index 9 x i, type := ty, pos, after, guard } = strAt (ρ x) (ρ i) := rfl
@[go_sem] theorem run_strAt (w : World) (s : ByteArray) (k : Nat) (h : (k : Int) < (s.size : Int)) : (strAt (.string s) (.int .i64 (k : Int))).run Tryz.prog w = .ok (.value (.int .u8 ((strB s k).toNat : Int))) w := by
  have hk : k < s.size := by omega
  have hg : s[k]? = some (strB s k) := by
    rw [getElem?_pos s k hk]
    unfold strB
    have h2 : k < s.data.size := hk
    rw [Array.getElem?_eq_getElem h2]; rfl
  simp [strAt, Instr.index, run_underlying Tryz.underlying9, asIntOf, hg]
end Go.Proofs.YtklbdhpnbjhgkaaGreatDoor
