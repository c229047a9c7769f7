import Derived.Test.YtklbdhpnbjhgkaaGreatDoorQFi8
import Derived.Test.YtklbdhpnbjhgkaaGreatDoorQLawFinBack
import Derived.Test.YtklbdhpnbjhgkaaGreatDoorQGam
namespace Go.Proofs.YtklbdhpnbjhgkaaGreatDoor
open Go.RowKit Go.Sort

/-! Bytes among the things -/
theorem OwnI.cap22 {w : World} {B n c : Nat} {x : Option Addr} {l : List Int} (h : OwnI w B (.slice x n c) l) : n ≤ c := by
  rcases h.2 with ⟨h1, h2⟩ | ⟨g1, c1, cur, he, -, -, hle, -⟩
  · simp only [Value.slice.injEq] at h1; omega
  · simp only [Value.slice.injEq] at he
    omega
end Go.Proofs.YtklbdhpnbjhgkaaGreatDoor
