import Derived.Test.YtklbdhpnbjhgkaaGreatDoorCards
import Derived.Test.YtklbdhpnbjhgkaaGreatDoorTie
import Derived.Test.YtklbdhpnbjhgkaaGreatDoorQFin3
import Derived.Test.YtklbdhpnbjhgkaaGreatDoorQOpen
import Derived.Stop.LaidErr
import Derived.LaidMore
import Derived.LaidHandle
import Derived.Deep.DeepWitnessRowRef
namespace Go.Proofs.YtklbdhpnbjhgkaaGreatDoor
open Go.ChangeShapes Go.WideShapes Go.ChangeAt Go.RowKit

/-! What the listed variables give -/
theorem gET : Tryz.prog.globalNamed "errors.errorType" = some 0 := by kernel_rfl
theorem gRT : (Tryz.prog.cutTypes.find? (·.1 == "internal/reflectlite.rtype")).map (·.2) = some 146 := by kernel_rfl
theorem gRow : ((List.range 217).filter fun t => Tryz.prog.rowNamed t [101, 114, 114, 111, 114]) = [35] := by kernel_rfl
theorem gSize : Tryz.prog.types.size = 217 := by kernel_rfl
set_option maxRecDepth 100000 in
theorem vE {W : World} (h : laidMetH Tryz.prog Rows.findingBackRow.laid W) : ETy W := by
  have h' : laidMet Tryz.prog [("math/bits.deBruijn32tab", Rows.laid_math_bits_deBruijn32tab), ("math/bits.deBruijn64tab", Rows.laid_math_bits_deBruijn64tab), ("internal/strconv.uint64pow10", Rows.laid_internal_strconv_uint64pow10)] W ∧ handlesMet Tryz.prog [("errors.errorType", Rows.laid_errors_errorType)] W := h
  obtain ⟨name, u, ty, e1, e2, e3, e4, e5⟩ := h'.2 _ (List.mem_singleton.2 rfl)
  have en : name = [101, 114, 114, 111, 114] := (Option.some.inj e1).symm
  subst en
  obtain rfl := Option.some.inj (gRT.symm.trans e2)
  have hm : ty ∈ (List.range 217).filter fun t => Tryz.prog.rowNamed t [101, 114, 114, 111, 114] := List.mem_filter.2 ⟨List.mem_range.2 (by rw [← gSize]; exact e3), e4⟩
  rw [gRow] at hm
  obtain rfl := List.mem_singleton.1 hm
  have hh : typeHandle Tryz.prog 35 = .pointer (some ⟨5, 35, none⟩) := by kernel_rfl
  rw [hh] at e5
  unfold ETy
  simpa using World.var?_cell gET e5 0
end Go.Proofs.YtklbdhpnbjhgkaaGreatDoor
