import Derived.Test.YtpckdkgbeemalaaQDzG
import Derived.Test.YtpckdkgbeemalaaQRef10
namespace Go.Proofs.Ytpckdkgbeemalaa
open Go.RowKit

/-! What an act of the journal leaves of a device: acts one behind the other -/
def DPost (w : World) (d : Value) (F R : List Nat) (st' : DSt) (w' : World) : Prop := ∃ F' R', DevIs w' d st' F' R' ∧ (∀ q ∈ F', q ∈ F ∨ w.heap.size ≤ q) ∧ (∀ q ∈ R', q ∈ R ∨ w.heap.size ≤ q) ∧ Keep F w w'
section
variable {w w1 w2 : World} {d : Value} {F R F1 R1 : List Nat} {st st1 st2 : DSt}
theorem devLater (h : DevIs w d st F R) (hb : Below w.heap.size w w1) : DevIs w1 d st F R := by
  obtain ⟨r, vl, vp, ps, sp, e, h⟩ := h
  exact ⟨r, vl, vp, ps, sp, e, h.keeps (G := []) (Keep.of_below hb) (fun _ _ => by simp)⟩
theorem DPost.refl (h : DevIs w d st F R) : DPost w d F R st w := ⟨F, R, h, fun _ h => .inl h, fun _ h => .inl h, Keep.refl _ _⟩
theorem DPost.grow (h : DevIs w d st F R) (hb : Below w.heap.size w w1) : DPost w d F R st w1 := ⟨F, R, devLater h hb, fun _ h => .inl h, fun _ h => .inl h, Keep.of_below hb⟩
/-- One act behind another. -/
theorem DPost.step (k2 : ∀ q ∈ F1, q ∈ F ∨ w.heap.size ≤ q) (k3 : ∀ q ∈ R1, q ∈ R ∨ w.heap.size ≤ q) (k4 : Keep F w w1) (h : DPost w1 d F1 R1 st2 w2) : DPost w d F R st2 w2 := by
  obtain ⟨F2, R2, a1, a2, a3, a4⟩ := h
  have hs := k4.size
  refine ⟨F2, R2, a1, fun q hq => ?_, fun q hq => ?_, ?_⟩
  · rcases a2 q hq with hq | hq
    · exact k2 q hq
    · right; omega
  · rcases a3 q hq with hq | hq
    · exact k3 q hq
    · right; omega
  · refine ⟨a4.os.trans k4.os, a4.tape.trans k4.tape, a4.output.trans k4.output, Nat.le_trans k4.size a4.size, fun k hk hF => ?_⟩
    rw [a4.block k (Nat.lt_of_lt_of_le hk k4.size) (fun hm => by
      rcases k2 k hm with h | h
      · exact hF h
      · omega)]
    exact k4.block k hk hF
theorem DPost.later (h : DPost w d F R st w1) (hb : Below w1.heap.size w1 w2) : DPost w d F R st w2 := by
  obtain ⟨F1, R1, a1, a2, a3, a4⟩ := h
  exact DPost.step a2 a3 a4 (DPost.grow a1 hb)
/-- A list that lies apart from the device stands. -/
theorem DPost.list {α : Type} {E : EK α} {x : Option Addr} {n c : Nat} {l : List α} (h : DPost w d F R st w1) (hl : IsK E w (.slice x n c) l) (hx : l ≠ [] → ∀ a, x = some a → a.block ∉ F) : IsK E w1 (.slice x n c) l := by
  obtain ⟨F1, R1, a1, a2, a3, a4⟩ := h
  exact hl.keeps10 a4 hx
end
end Go.Proofs.Ytpckdkgbeemalaa
