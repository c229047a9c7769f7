import Derived.Test.YtddmmmfpdmejbaaGreatDoorQNum
namespace Go.Proofs.YtddmmmfpdmejbaaGreatDoor
open Go.RowKit

/-! assayref14: digit, encoded -/
end Go.Proofs.YtddmmmfpdmejbaaGreatDoor
namespace Go.Proofs.YtddmmmfpdmejbaaGreatDoor
open Go.RowKit

/-! assayref14.Rune -/
end Go.Proofs.YtddmmmfpdmejbaaGreatDoor
namespace Go.Proofs.YtddmmmfpdmejbaaGreatDoor
open Go.RowKit

/-! assayref14.quoted -/
theorem lS_eq {s : ByteArray} {l : List UInt8} (h : lS s = l) : s = ⟨l.toArray⟩ := lS_inj (h.trans (lS_mk l).symm)
def quoR (v : Nat) : Option Nat → List UInt8
  | some i => [92, lB qSigns i]
  | none => if v < 32 then [92, 117, 48, 48, dgC (v / 16), dgC (v % 16)] else enc v
theorem quo_R (v : Nat) : quo v = quoR v (qAt v 7 0) := by
  unfold quo
  cases qAt v 7 0 <;> rfl
theorem dgC_at (n : Nat) (h : n < 16) : lB [48, 49, 50, 51, 52, 53, 54, 55, 56, 57, 97, 98, 99, 100, 101, 102] n = dgC n := by
  rcases (by omega : n = 0 ∨ n = 1 ∨ n = 2 ∨ n = 3 ∨ n = 4 ∨ n = 5 ∨ n = 6 ∨ n = 7 ∨ n = 8 ∨ n = 9 ∨ n = 10 ∨ n = 11 ∨ n = 12 ∨ n = 13 ∨ n = 14 ∨ n = 15) with rfl | rfl | rfl | rfl | rfl | rfl | rfl | rfl | rfl | rfl | rfl | rfl | rfl | rfl | rfl | rfl <;> decide
end Go.Proofs.YtddmmmfpdmejbaaGreatDoor
namespace Go.Proofs.YtddmmmfpdmejbaaGreatDoor
open Go.RowKit

/-! assayref14.Quote -/
theorem enc_len (v : Nat) : (enc v).length ≤ 4 := by
  unfold enc
  (repeat' split) <;> simp
theorem quo_len (v : Nat) : (quo v).length ≤ 6 := by
  unfold quo
  have := enc_len v
  (repeat' split) <;> first | (simp; done) | omega
theorem rnN_range (l : List UInt8) (n v0 : Nat) : (rnN l n v0).1 ≤ 1114111 ∧ ((rnN l n v0).2 ≠ 0 → (rnN l n v0).2 = n ∧ n ≤ l.length) := by
  unfold rnN
  split
  · simp
  · split
    · simp
    · split
      · rename_i h
        unfold okR at h
        simp only [decide_eq_true_eq] at h
        exact ⟨h.2.1, fun _ => ⟨rfl, by omega⟩⟩
      · simp
theorem rn_range (l : List UInt8) : (rn l).1 ≤ 1114111 ∧ (rn l).2 ≤ l.length ∧ (rn l).2 ≤ 4 := by
  unfold rn
  split
  · simp
  · split
    · simp only; omega
    · split
      · obtain ⟨h1, h2⟩ := rnN_range l 2 ((lB l 0).toNat - 192)
        by_cases h : (rnN l 2 ((lB l 0).toNat - 192)).2 = 0
        · omega
        · have := h2 h; omega
      · split
        · obtain ⟨h1, h2⟩ := rnN_range l 3 ((lB l 0).toNat - 224)
          by_cases h : (rnN l 3 ((lB l 0).toNat - 224)).2 = 0
          · omega
          · have := h2 h; omega
        · split
          · obtain ⟨h1, h2⟩ := rnN_range l 4 ((lB l 0).toNat - 240)
            by_cases h : (rnN l 4 ((lB l 0).toNat - 240)).2 = 0
            · omega
            · have := h2 h; omega
          · simp
def QuP (l : List UInt8) (w : World) (e : Ending) (w' : World) : Prop := e = .returned (.tuple #[.string ⟨(quS l).toArray⟩, .int .i64 (quE l)]) ∧ Below w.heap.size w w'
end Go.Proofs.YtddmmmfpdmejbaaGreatDoor
namespace Go.Proofs.YtddmmmfpdmejbaaGreatDoor
open Go.RowKit

/-! assayref14.escape -/
end Go.Proofs.YtddmmmfpdmejbaaGreatDoor
namespace Go.Proofs.YtddmmmfpdmejbaaGreatDoor
open Go.RowKit

/-! assayref14: inWord, number -/
end Go.Proofs.YtddmmmfpdmejbaaGreatDoor
namespace Go.Proofs.YtddmmmfpdmejbaaGreatDoor
open Go.RowKit

/-! assayref14.text -/
theorem lB_drop (l : List UInt8) (k : Nat) : lB (l.drop k) 0 = lB l k := by unfold lB; rw [List.getElem?_drop]; rfl
theorem escU_range (l : List UInt8) : (escU l).2 ≤ l.length ∧ (escU l).1.length ≤ (escU l).2 := by
  unfold escU
  split
  · simp
  · rename_i h
    split
    · simp
    · rename_i v _
      split
      · simp
      · have := enc_len v
        simp only
        omega
theorem esc_range (l : List UInt8) : (escS l).2 ≤ l.length ∧ (escS l).1.length ≤ (escS l).2 := by
  unfold escS
  split
  · split
    · simp; omega
    · exact escU_range l
  · exact escU_range l
end Go.Proofs.YtddmmmfpdmejbaaGreatDoor
