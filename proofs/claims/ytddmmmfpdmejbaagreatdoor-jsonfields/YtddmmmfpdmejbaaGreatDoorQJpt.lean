import Derived.Test.YtddmmmfpdmejbaaGreatDoorQJdg
import Derived.Test.YtddmmmfpdmejbaaGreatDoorQJfm
import Derived.Test.YtddmmmfpdmejbaaGreatDoorQJpq
import Derived.Test.YtddmmmfpdmejbaaGreatDoorQJtw
import Derived.Test.YtddmmmfpdmejbaaGreatDoorQJdp
namespace Go.Proofs.YtddmmmfpdmejbaaGreatDoor
open Go.RowKit

/-! assayref15.Print -/
end Go.Proofs.YtddmmmfpdmejbaaGreatDoor
