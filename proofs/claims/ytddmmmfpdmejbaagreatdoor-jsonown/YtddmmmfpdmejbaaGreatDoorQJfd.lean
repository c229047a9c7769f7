import Derived.Test.YtddmmmfpdmejbaaGreatDoorQJok
namespace Go.Proofs.YtddmmmfpdmejbaaGreatDoor
open Go.RowKit

/-! assayref15.Field -/
end Go.Proofs.YtddmmmfpdmejbaaGreatDoor
