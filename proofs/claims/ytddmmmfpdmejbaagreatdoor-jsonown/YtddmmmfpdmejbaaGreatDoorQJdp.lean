import Derived.Test.YtddmmmfpdmejbaaGreatDoorQJok
import Derived.Test.YtddmmmfpdmejbaaGreatDoorQJdg
import Derived.Test.YtddmmmfpdmejbaaGreatDoorQJfm
import Derived.Test.YtddmmmfpdmejbaaGreatDoorQJpq
import Derived.Test.YtddmmmfpdmejbaaGreatDoorQJtw
namespace Go.Proofs.YtddmmmfpdmejbaaGreatDoor
open Go.RowKit

/-! assayref15.Node: deep -/
end Go.Proofs.YtddmmmfpdmejbaaGreatDoor
namespace Go.Proofs.YtddmmmfpdmejbaaGreatDoor
open Go.RowKit

/-! assayref15.Print -/
end Go.Proofs.YtddmmmfpdmejbaaGreatDoor
