import Derived.Test.YtfdigmlhjjdggaaQNam2
import Derived.Test.YtfdigmlhjjdggaaQNum
namespace Go.Proofs.Ytfdigmlhjjdggaa
open Go.RowKit

/-! assayref13: Put, Get -/
theorem OwnB.new13 (w : World) (l : List UInt8) (n : Nat) (hn : l.length = n) (hl : n ≤ maxLen) : OwnB (w.alloc (.cells (bytesA l) 5)) w.heap.size (.slice (some ⟨w.heap.size, 0, none⟩) n n) l := by
  subst hn
  refine ⟨by simp [bytesA], .inr ⟨w.heap.size, l.length, bytesA l, rfl, Nat.le_refl _, heap_alloc_last w _, Nat.le_refl _, hl, by simp, ?_⟩⟩
  rw [Nat.mul_one, List.take_of_length_le (by simp)]
theorem OwnB.cell13 {w : World} {base g n c : Nat} {l : List UInt8} (h : OwnB w base (.slice (some ⟨g, 0, none⟩) n c) l) (i : Nat) (hi : i < l.length) : w.cell? ⟨g, i, none⟩ = some (Value.int .u8 ((lB l i).toNat : Int)) := by
  obtain ⟨b, o, he, hb, hc⟩ : ∃ b o, (⟨g, 0, none⟩ : Addr) = ⟨b, o, none⟩ ∧ b < w.heap.size ∧ ∀ j (_ : j < l.length), w.cell? ⟨b, o + j, none⟩ = some (Value.int .u8 (l[j].toNat : Int)) := by
    rcases h.isB with ⟨h, _⟩ | ⟨y, d, he, hc⟩
    · cases h
    · simp only [Value.slice.injEq, Option.some.injEq] at he
      obtain ⟨rfl, -, -⟩ := he
      exact ⟨g, 0, rfl, by have := World.block_lt_of_cell? w _ (hc i hi); rw [addr_add] at this; exact this, fun j hj => by have := hc j hj; rw [addr_add] at this; exact this⟩
  cases he
  have := hc i hi
  rw [Nat.zero_add] at this
  rw [this]
  unfold lB
  rw [List.getElem?_eq_getElem hi]; rfl
theorem OwnB.soft13 {w : World} {base : Nat} {l : List UInt8} {g n c : Nat} (h : OwnB w base (.slice (some ⟨g, 0, none⟩) n c) l) (j : Nat) : w.frozen? ⟨g, j, none⟩ = false := by
  obtain ⟨_, ⟨h, _⟩ | ⟨g', cap, cur, he, hb, hg, -⟩⟩ := h
  · cases h
  · simp only [Value.slice.injEq, Option.some.injEq, Addr.mk.injEq] at he
    obtain ⟨⟨rfl, -⟩, -⟩ := he
    simp [World.frozen?, hg]
theorem OwnB.set13 {w : World} {base g c n : Nat} {l : List UInt8} (h : OwnB w base (.slice (some ⟨g, 0, none⟩) n c) l) (hn : l.length = n) (j : Nat) (b : UInt8) : OwnB (w.setCell ⟨g, j, none⟩ (.int .u8 (b.toNat : Int))) base (.slice (some ⟨g, 0, none⟩) n c) (l.set j b) := by
  subst hn
  have := (World.ownsRow.stored h j (.int .u8 (b.toNat : Int))).1
  unfold OwnB
  rw [List.length_set, show (bytesA (l.set j b)).toList = (bytesA l).toList.set j (.int .u8 (b.toNat : Int)) by simp [bytesA, List.map_set]]
  exact this
def putLn (l : List UInt8) (k : Nat) : List UInt8 := l.take k ++ List.replicate (24 - k) 0
theorem putLn_len (l : List UInt8) (k : Nat) (hk : k ≤ l.length) (hl : l.length ≤ 24) : (putLn l k).length = 24 := by
  unfold putLn; rw [List.length_append, List.length_take, List.length_replicate]; omega
theorem putLn_step (l : List UInt8) (k : Nat) (hk : k < l.length) (hl : l.length ≤ 24) : (putLn l k).set k (lB l k) = putLn l (k + 1) := by
  apply List.ext_getElem?
  intro j
  have h1 := putLn_len l k (by omega) hl
  have hd : ∀ t, t ≤ l.length → (l.take t).length = t := fun t ht => by rw [List.length_take]; omega
  by_cases hj : j = k
  · subst hj
    rw [List.getElem?_set_self (by omega)]
    unfold putLn lB
    rw [List.getElem?_append_left (by rw [hd _ (by omega)]; omega), List.getElem?_take_of_lt (by omega), List.getElem?_eq_getElem hk]
    rfl
  · rw [List.getElem?_set_ne (fun e => hj e.symm)]
    unfold putLn
    by_cases hlt : j < k
    · rw [List.getElem?_append_left (by rw [hd _ (by omega)]; omega), List.getElem?_append_left (by rw [hd _ (by omega)]; omega), List.getElem?_take_of_lt (by omega), List.getElem?_take_of_lt (by omega)]
    · rw [List.getElem?_append_right (by rw [hd _ (by omega)]; omega), List.getElem?_append_right (by rw [hd _ (by omega)]; omega), hd _ (by omega), hd _ (by omega)]
      by_cases h9 : j < 24
      · rw [List.getElem?_replicate_of_lt (by omega), List.getElem?_replicate_of_lt (by omega)]
      · rw [List.getElem?_eq_none (by simp; omega), List.getElem?_eq_none (by simp; omega)]
theorem putLn_end (l : List UInt8) : putLn l l.length = padN l := by unfold putLn padN; rw [List.take_length]
/-- What Put leaves: the bytes, in memory of its own; or none. -/
def PutPost (l : List UInt8) (w : World) (e : Ending) (w' : World) : Prop := ((isN l = true ∧ ∃ g c, e = .returned (.tuple #[.slice (some ⟨g, 0, none⟩) 24 c, .int .i64 0]) ∧ OwnB w' w.heap.size (.slice (some ⟨g, 0, none⟩) 24 c) (padN l)) ∨ (isN l = false ∧ ∃ x c, e = .returned (.tuple #[.slice x 0 c, .int .i64 36]) ∧ IsB w' (.slice x 0 c) [])) ∧ Below w.heap.size w w'
end Go.Proofs.Ytfdigmlhjjdggaa
