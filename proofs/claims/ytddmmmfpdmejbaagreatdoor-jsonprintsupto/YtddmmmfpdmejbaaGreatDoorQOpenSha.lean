import Derived.Test.YtddmmmfpdmejbaaGreatDoorQOpen
import Derived.Test.YtddmmmfpdmejbaaGreatDoorQNum
import Derived.SizedLaws
namespace Go.Proofs.YtddmmmfpdmejbaaGreatDoor
open Go.ChangeShapes Go.WideShapes Go.ChangeAt Go.RowKit

end Go.Proofs.YtddmmmfpdmejbaaGreatDoor
