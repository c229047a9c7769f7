
import Derived.Test.YtmbkkdojjfdliaaKel
namespace Go.Proofs.Ytmbkkdojjfdliaa
open Go.RowKit

/-! A frame: nothing but some blocks has turned -/
/-- Nothing but the blocks F has turned. -/
structure Keep (F : List Nat) (w w' : World) : Prop where
  os : w'.os = w.os
  tape : w'.tape = w.tape
  output : w'.output = w.output
  size : w.heap.size ≤ w'.heap.size
  block : ∀ k, k < w.heap.size → k ∉ F → w'.heap[k]? = w.heap[k]?
theorem Keep.refl (F : List Nat) (w : World) : Keep F w w := ⟨rfl, rfl, rfl, Nat.le_refl _, fun _ _ _ => rfl⟩
theorem Keep.below {F : List Nat} {w w' : World} {B : Nat} (h : Keep F w w') (hF : ∀ q ∈ F, B ≤ q) (hB : B ≤ w.heap.size) : Below B w w' :=
  ⟨h.os, h.tape, h.output, h.size, fun k hk => h.block k (by omega) (fun hm => by have := hF k hm; omega)⟩
theorem Keep.of_below {F : List Nat} {w w' : World} (h : Below w.heap.size w w') : Keep F w w' := ⟨h.os, h.tape, h.output, h.size, fun k hk _ => h.block k hk⟩
theorem Keep.of_grown {F : List Nat} {w w' : World} {row : Option Nat} (h : w.grownBy w' row) (hr : ∀ q, row = some q → q ∈ F) : Keep F w w' :=
  ⟨h.os, h.tape, h.output, h.size, fun k hk hn => h.block k hk (fun e => hn (hr k e.symm))⟩
theorem Keep.trans {F : List Nat} {w w1 w2 : World} (h : Keep F w w1) (k : Keep F w1 w2) : Keep F w w2 :=
  ⟨k.os.trans h.os, k.tape.trans h.tape, k.output.trans h.output, Nat.le_trans h.size k.size, fun i hi hn => (k.block i (Nat.lt_of_lt_of_le hi h.size) hn).trans (h.block i hi hn)⟩
theorem Keep.mono {F G : List Nat} {w w' : World} (h : Keep F w w') (hFG : ∀ q ∈ F, q ∈ G ∨ w.heap.size ≤ q) : Keep G w w' :=
  ⟨h.os, h.tape, h.output, h.size, fun k hk hn => h.block k hk (fun hm => (hFG k hm).elim hn (fun h9 => by omega))⟩
theorem OwnK.keeps {α : Type} {E : EK α} {F : List Nat} {w w' : World} {B : Nat} {v : Value} {ds : List α} (h : OwnK E w B v ds) (hK : Keep F w w') (hq : ∀ q, v.ownBlock = some q → q ∉ F) : OwnK E w' B v ds := by
  refine ⟨h.1, ?_⟩
  rcases h.2 with hn | ⟨g, cap, cur, rfl, hb, hg, rest⟩
  · exact .inl hn
  · refine .inr ⟨g, cap, cur, rfl, hb, ?_, rest⟩
    rw [hK.block g (Array.getElem?_eq_some_iff.1 hg).1 (hq g rfl)]
    exact hg
end Go.Proofs.Ytmbkkdojjfdliaa
