import Derived.Test.YtalnbddkhojjbaaGreatDoorQNum
import Derived.Test.YtalnbddkhojjbaaGreatDoorQStr
import Derived.Test.YtalnbddkhojjbaaGreatDoorQApp
namespace Go.Proofs.YtalnbddkhojjbaaGreatDoor
open Go.RowKit

/-! assayref14: digit, encoded -/
end Go.Proofs.YtalnbddkhojjbaaGreatDoor
namespace Go.Proofs.YtalnbddkhojjbaaGreatDoor
open Go.RowKit

/-! assayref14.Rune -/
end Go.Proofs.YtalnbddkhojjbaaGreatDoor
namespace Go.Proofs.YtalnbddkhojjbaaGreatDoor
open Go.RowKit

/-! assayref14.quoted -/
theorem lS_eq {s : ByteArray} {l : List UInt8} (h : lS s = l) : s = ⟨l.toArray⟩ := lS_inj (h.trans (lS_mk l).symm)
def quoR (v : Nat) : Option Nat → List UInt8
  | some i => [92, lB qSigns i]
  | none => if v < 32 then [92, 117, 48, 48, dgC (v / 16), dgC (v % 16)] else enc v
theorem quo_R (v : Nat) : quo v = quoR v (qAt v 7 0) := by
  unfold quo
  cases qAt v 7 0 <;> rfl
theorem dgC_at (n : Nat) (h : n < 16) : lB [48, 49, 50, 51, 52, 53, 54, 55, 56, 57, 97, 98, 99, 100, 101, 102] n = dgC n := by
  rcases (by omega : n = 0 ∨ n = 1 ∨ n = 2 ∨ n = 3 ∨ n = 4 ∨ n = 5 ∨ n = 6 ∨ n = 7 ∨ n = 8 ∨ n = 9 ∨ n = 10 ∨ n = 11 ∨ n = 12 ∨ n = 13 ∨ n = 14 ∨ n = 15) with rfl | rfl | rfl | rfl | rfl | rfl | rfl | rfl | rfl | rfl | rfl | rfl | rfl | rfl | rfl | rfl <;> decide
end Go.Proofs.YtalnbddkhojjbaaGreatDoor
namespace Go.Proofs.YtalnbddkhojjbaaGreatDoor
open Go.RowKit

/-! assayref14.Quote -/
theorem enc_len (v : Nat) : (enc v).length ≤ 4 := by
  unfold enc
  (repeat' split) <;> simp
theorem quo_len (v : Nat) : (quo v).length ≤ 6 := by
  unfold quo
  have := enc_len v
  (repeat' split) <;> first | (simp; done) | omega
theorem rnN_range (l : List UInt8) (n v0 : Nat) : (rnN l n v0).1 ≤ 1114111 ∧ ((rnN l n v0).2 ≠ 0 → (rnN l n v0).2 = n ∧ n ≤ l.length) := by
  unfold rnN
  split
  · simp
  · split
    · simp
    · split
      · rename_i h
        unfold okR at h
        simp only [decide_eq_true_eq] at h
        exact ⟨h.2.1, fun _ => ⟨rfl, by omega⟩⟩
      · simp
theorem rn_range (l : List UInt8) : (rn l).1 ≤ 1114111 ∧ (rn l).2 ≤ l.length ∧ (rn l).2 ≤ 4 := by
  unfold rn
  split
  · simp
  · split
    · simp only; omega
    · split
      · obtain ⟨h1, h2⟩ := rnN_range l 2 ((lB l 0).toNat - 192)
        by_cases h : (rnN l 2 ((lB l 0).toNat - 192)).2 = 0
        · omega
        · have := h2 h; omega
      · split
        · obtain ⟨h1, h2⟩ := rnN_range l 3 ((lB l 0).toNat - 224)
          by_cases h : (rnN l 3 ((lB l 0).toNat - 224)).2 = 0
          · omega
          · have := h2 h; omega
        · split
          · obtain ⟨h1, h2⟩ := rnN_range l 4 ((lB l 0).toNat - 240)
            by_cases h : (rnN l 4 ((lB l 0).toNat - 240)).2 = 0
            · omega
            · have := h2 h; omega
          · simp
def QuP (l : List UInt8) (w : World) (e : Ending) (w' : World) : Prop := e = .returned (.tuple #[.string ⟨(quS l).toArray⟩, .int .i64 (quE l)]) ∧ Below w.heap.size w w'
end Go.Proofs.YtalnbddkhojjbaaGreatDoor
namespace Go.Proofs.YtalnbddkhojjbaaGreatDoor
open Go.RowKit

/-! assayref14.escape -/
end Go.Proofs.YtalnbddkhojjbaaGreatDoor
namespace Go.Proofs.YtalnbddkhojjbaaGreatDoor
open Go.RowKit

/-! assayref14: inWord, number -/
end Go.Proofs.YtalnbddkhojjbaaGreatDoor
namespace Go.Proofs.YtalnbddkhojjbaaGreatDoor
open Go.RowKit

/-! assayref14.text -/
theorem lB_drop (l : List UInt8) (k : Nat) : lB (l.drop k) 0 = lB l k := by unfold lB; rw [List.getElem?_drop]; rfl
theorem escU_range (l : List UInt8) : (escU l).2 ≤ l.length ∧ (escU l).1.length ≤ (escU l).2 := by
  unfold escU
  split
  · simp
  · rename_i h
    split
    · simp
    · rename_i v _
      split
      · simp
      · have := enc_len v
        simp only
        omega
theorem esc_range (l : List UInt8) : (escS l).2 ≤ l.length ∧ (escS l).1.length ≤ (escS l).2 := by
  unfold escS
  split
  · split
    · simp; omega
    · exact escU_range l
  · exact escU_range l
end Go.Proofs.YtalnbddkhojjbaaGreatDoor
namespace Go.Proofs.YtalnbddkhojjbaaGreatDoor
open Go.RowKit

/-! assayref14.one -/
def tkA (k a n : Int) (S : ByteArray) : Array Value := #[.int .i64 k, .int .i64 a, .int .i64 n, .string S]
@[go_sem] theorem tkA_size (k a n : Int) (S : ByteArray) : (tkA k a n S).size = 4 := rfl
@[go_sem] theorem tk_one (k a n : Int) (S : ByteArray) : OneC #[.int .i64 k, .int .i64 a, .int .i64 n, .string S] = true := by simp [OneC, Value.oneCell']
section
variable (ρ : Operand → Value) (dst : Option Tmp) (ty : TypeId) (pos : String) (after : Array Edge) (guard : Option (Nat × Bool))
@[go_sem ↓] theorem execOp_store_tk (x y : Operand) : execOp ρ { dst, op := .store 140 x y, type := ty, pos, after, guard } = bigStore 140 (ρ x) (ρ y) := rfl
@[go_sem ↓] theorem execOp_alloc_tk : execOp ρ { dst, op := .alloc 140, type := ty, pos, after, guard } = bigAlloc 140 := rfl
end
theorem info_tk : (Tryz.prog.info? 140).map (fun i => (i.zero, i.size)) = some (some (.agg (tkA 0 0 0 ⟨#[]⟩)), 4) := by kernel_rfl
theorem sizeT_tk : (Tryz.prog.info? 140).map (·.size) = some 4 := (zero_of_info info_tk).2
@[go_sem] theorem run_store_tk (w : World) (g : Nat) (c : Array Value) (h : rowL w g = true) (hs : (rowAt w g).size = 4) (hc : c.size = 4) (h1 : OneC c = true) : (bigStore 140 (.pointer (some ⟨g, 0, none⟩)) (.agg c)).run Tryz.prog w = .ok .skip (w.setRow g c) := by
  rw [run_bigStore 140 4 sizeT_tk w g 0 c h hc (by omega) h1, layC_all _ _ (by omega)]
@[go_sem] theorem run_alloc_tk (w : World) : (bigAlloc 140).run Tryz.prog w = .ok (.value (.pointer (some ⟨w.heap.size, 0, none⟩))) (w.alloc (.cells (tkA 0 0 0 ⟨#[]⟩) 140)) := by
  simp only [bigAlloc, Instr.alloc, Sem.run_bind, (zero_of_info info_tk).1 w, Result.andThen_ok]
  rfl
theorem wl_le : ∀ l, wl l ≤ l.length
  | [] => Nat.le_refl _
  | b :: l => by
    rw [wl]
    split
    · have := wl_le l; simp; omega
    · simp
theorem wl_step (l : List UInt8) (k : Nat) (h : k < l.length) : wl (l.drop k) = if inW (lB l k) = true then wl (l.drop (k + 1)) + 1 else 0 := by
  have e1 : l.drop k = lB l k :: l.drop (k + 1) := by
    rw [List.drop_eq_getElem_cons h]; unfold lB; rw [List.getElem?_eq_getElem h]; rfl
  rw [e1, wl]
theorem sgn_R (l : List UInt8) (i : Nat) (h : sgnAt (lB l 0) 6 0 = some i) : oneTk l = (⟨(i : Int) + 1, 0, 0, []⟩, 1) := by unfold oneTk; rw [h]
theorem sgn_no (l : List UInt8) (h : sgnAt (lB l 0) 6 0 = none) : oneTk l = if lB l 0 = 34 then (⟨11, 0, 0, (txt l l.length 1 []).1⟩, (txt l l.length 1 []).2) else wordTk (l.take (wl l)) (wl l) := by unfold oneTk; rw [h]
theorem below_row14 {B n : Nat} {w0 w : World} (hb : Below B w0 w) (h : B ≤ n) (c : Array Value) : Below B w0 (w.setRow n c) :=
  ⟨hb.os, hb.tape, hb.output, by have := hb.size; simp only [World.setRow]; simpa using this, fun k hk => by rw [setRow_other w n k c (by omega)]; exact hb.block k hk⟩
theorem sEq14 {s t : ByteArray} (h : lS s = lS t) : (s.toList == t.toList) = true := by rw [lS_inj h]; simp
theorem sNe14 {s t : ByteArray} (h : lS s ≠ lS t) : (s.toList == t.toList) = false := beq_eq_false_iff_ne.2 fun e => h (by unfold lS; rw [← ByteArray.toList_eq, ← ByteArray.toList_eq]; exact e)
end Go.Proofs.YtalnbddkhojjbaaGreatDoor
