import Derived.Test.YtfdigmlhjjdggaaQReli
import Derived.Test.YtfdigmlhjjdggaaQDev1
namespace Go.Proofs.Ytfdigmlhjjdggaa
open Go.RowKit

/-! A region whose operations turn only what the call has made -/
/-- What was there below B is as it was. -/
structure KN9 (B : Nat) (w w' : World) : Prop where
  os : w'.os = w.os
  tape : w'.tape = w.tape
  output : w'.output = w.output
  size : w.heap.size ≤ w'.heap.size
  block : ∀ k, k < B → k < w.heap.size → w'.heap[k]? = w.heap[k]?
theorem KN9.of_below {B : Nat} {w w' : World} (h : Below w.heap.size w w') : KN9 B w w' := ⟨h.os, h.tape, h.output, h.size, fun k _ hk => h.block k hk⟩
theorem KN9.trans {B : Nat} {w w1 w2 : World} (h : KN9 B w w1) (k : KN9 B w1 w2) : KN9 B w w2 :=
  ⟨k.os.trans h.os, k.tape.trans h.tape, k.output.trans h.output, Nat.le_trans h.size k.size, fun i hb hi => (k.block i hb (Nat.lt_of_lt_of_le hi h.size)).trans (h.block i hb hi)⟩
theorem KN9.below {w w' : World} (h : KN9 w.heap.size w w') : Below w.heap.size w w' := ⟨h.os, h.tape, h.output, h.size, fun k hk => h.block k hk hk⟩
theorem kokN9 {B : Nat} : KOk (KN9 B) := ⟨fun h => KN9.of_below h, fun h k => h.trans k⟩
theorem KN9.setRow {B : Nat} {w : World} {g : Nat} {c : Array Value} (hg : B ≤ g) : KN9 B w (w.setRow g c) := by
  have hs : (w.setRow g c).heap.size = w.heap.size := by unfold World.setRow; simp
  refine ⟨rfl, rfl, rfl, by omega, fun k hk _ => setRow_other w g k c (by omega)⟩
end Go.Proofs.Ytfdigmlhjjdggaa
