import Derived.Test.YtfdigmlhjjdggaaQNam1
namespace Go.Proofs.Ytfdigmlhjjdggaa
open Go.RowKit

/-! assayref13: Check, Compare -/
end Go.Proofs.Ytfdigmlhjjdggaa
