
import Derived.Test.YtfnffkommcepoaaBitG
namespace Go.Proofs.Ytfnffkommcepoaa
theorem bitsOk : PutOk ∧ GetOk := ⟨putOk, getOk⟩
end Go.Proofs.Ytfnffkommcepoaa
