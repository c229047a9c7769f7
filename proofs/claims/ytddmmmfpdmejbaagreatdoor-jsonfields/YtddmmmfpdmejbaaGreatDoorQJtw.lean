import Derived.Test.YtddmmmfpdmejbaaGreatDoorQJok
namespace Go.Proofs.YtddmmmfpdmejbaaGreatDoor
open Go.RowKit

/-! assayref15.Node: twice -/
end Go.Proofs.YtddmmmfpdmejbaaGreatDoor
