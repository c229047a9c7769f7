import Derived.Test.YtklbdhpnbjhgkaaGreatDoorQFiG
import Derived.Test.YtklbdhpnbjhgkaaGreatDoorQFin3
namespace Go.Proofs.YtklbdhpnbjhgkaaGreatDoor
open Go.RowKit Go.Sort

/-! assayref22.Ahead, Sort -/
set_option linter.unusedSimpArgs false in
theorem refAhead22 (a b : Fd) (w : World) : Calls Tryz.prog 24 #[.agg (fdA a), .agg (fdA b)] w fun e w' => e = .returned (.bool (ltF a b)) ∧ Below w.heap.size w w' := by
  have b0 := below_al2 w (.cells (fdA a) 25) (.cells (fdA b) 25)
  unfold ltF
  by_cases h1 : a.1 < b.1
  · go_enter Tryz.func24, Tryz.ntmps24
    go_wp2
    go_ret
    exact ⟨by congr 2 <;> first | (simp; omega) | simp, b0⟩
  · by_cases h2 : a.1 = b.1
    · by_cases h3 : a.2 < b.2
      · go_enter Tryz.func24, Tryz.ntmps24
        go_wp2
        go_ret
        exact ⟨by congr 2 <;> first | (simp; omega) | simp, b0⟩
      · go_enter Tryz.func24, Tryz.ntmps24
        go_wp2
        go_ret
        exact ⟨by congr 2 <;> first | (simp; omega) | simp, b0⟩
    · go_enter Tryz.func24, Tryz.ntmps24
      go_wp2
      go_ret
      exact ⟨by congr 2 <;> first | (simp; omega) | simp, b0⟩
end Go.Proofs.YtklbdhpnbjhgkaaGreatDoor
