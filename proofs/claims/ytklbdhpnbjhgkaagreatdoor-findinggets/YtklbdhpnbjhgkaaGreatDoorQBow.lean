import Derived.Test.YtklbdhpnbjhgkaaGreatDoorQNum
import Derived.Test.YtklbdhpnbjhgkaaGreatDoorQKel
namespace Go.Proofs.YtklbdhpnbjhgkaaGreatDoor
open Go.RowKit

/-! Slices of bytes of the call's own: cells, stores, parts (as in Nam3, Nam4) -/
theorem OwnB.cellB {w : World} {base g n c : Nat} {l : List UInt8} (h : OwnB w base (.slice (some ⟨g, 0, none⟩) n c) l) (i : Nat) (hi : i < l.length) : w.cell? ⟨g, i, none⟩ = some (Value.int .u8 ((lB l i).toNat : Int)) := by
  obtain ⟨b, o, he, hb, hc⟩ : ∃ b o, (⟨g, 0, none⟩ : Addr) = ⟨b, o, none⟩ ∧ b < w.heap.size ∧ ∀ j (_ : j < l.length), w.cell? ⟨b, o + j, none⟩ = some (Value.int .u8 (l[j].toNat : Int)) := by
    rcases h.isB with ⟨h, _⟩ | ⟨y, d, he, hc⟩
    · cases h
    · simp only [Value.slice.injEq, Option.some.injEq] at he
      obtain ⟨rfl, -, -⟩ := he
      exact ⟨g, 0, rfl, by have := World.block_lt_of_cell? w _ (hc i hi); rw [addr_add] at this; exact this, fun j hj => by have := hc j hj; rw [addr_add] at this; exact this⟩
  cases he
  have := hc i hi
  rw [Nat.zero_add] at this
  rw [this]
  unfold lB
  rw [List.getElem?_eq_getElem hi]; rfl
theorem OwnB.softB {w : World} {base : Nat} {l : List UInt8} {g n c : Nat} (h : OwnB w base (.slice (some ⟨g, 0, none⟩) n c) l) (j : Nat) : w.frozen? ⟨g, j, none⟩ = false := by
  obtain ⟨_, ⟨h, _⟩ | ⟨g', cap, cur, he, hb, hg, -⟩⟩ := h
  · cases h
  · simp only [Value.slice.injEq, Option.some.injEq, Addr.mk.injEq] at he
    obtain ⟨⟨rfl, -⟩, -⟩ := he
    simp [World.frozen?, hg]
theorem OwnB.setB {w : World} {base g c n : Nat} {l : List UInt8} (h : OwnB w base (.slice (some ⟨g, 0, none⟩) n c) l) (hn : l.length = n) (j : Nat) (b : UInt8) : OwnB (w.setCell ⟨g, j, none⟩ (.int .u8 (b.toNat : Int))) base (.slice (some ⟨g, 0, none⟩) n c) (l.set j b) := by
  subst hn
  have := (World.ownsRow.stored h j (.int .u8 (b.toNat : Int))).1
  unfold OwnB
  rw [List.length_set, show (bytesA (l.set j b)).toList = (bytesA l).toList.set j (.int .u8 (b.toNat : Int)) by simp [bytesA, List.map_set]]
  exact this
def bCut (x lo hi : Value) : Sem Next := do pure (.value (← Instr.sliceAt 33 x (some lo) (some hi) none))
section
variable (ρ : Operand → Value) (dst : Option Tmp) (ty : TypeId) (pos : String) (after : Array Edge) (guard : Option (Nat × Bool))
@[go_sem ↓] theorem execOp_bCut (x lo hi : Operand) : execOp ρ { dst, op := .slice 33 x (some lo) (some hi) none, type := ty, pos, after, guard } = bCut (ρ x) (ρ lo) (ρ hi) := rfl
end
theorem OwnK.otherB {α : Type} {E : EK α} {w w' : World} {B : Nat} {v : Value} {ds : List α} (h : OwnK E w B v ds) (hl : ∀ g, v.ownBlock = some g → w'.heap[g]? = w.heap[g]?) : OwnK E w' B v ds := by
  obtain ⟨h1, h2⟩ := h
  refine ⟨h1, ?_⟩
  rcases h2 with hn | ⟨g, cap, cur, hv, hb, hg, r⟩
  · exact .inl hn
  · refine .inr ⟨g, cap, cur, hv, hb, ?_, r⟩
    rw [hl g (by rw [hv]; rfl)]; exact hg
theorem OwnK.setB {α : Type} {E : EK α} {w : World} {B g i : Nat} {v x : Value} {ds : List α} (h : OwnK E w B v ds) (hg : g < B) : OwnK E (w.setCell ⟨g, i, none⟩ x) B v ds :=
  h.otherB (fun q hq => by
    have := (World.ownsRow.lt h q hq).1
    exact Below.heap_setCell w ⟨g, i, none⟩ x q (by show q ≠ g; omega))
end Go.Proofs.YtklbdhpnbjhgkaaGreatDoor
