import Derived.Test.YtalnbddkhojjbaaGreatDoorQJpu
import Derived.Test.YtalnbddkhojjbaaGreatDoorQNum
import Derived.Test.YtalnbddkhojjbaaGreatDoorQJop
import Derived.Lib.SmallJoins
namespace Go.Proofs.YtalnbddkhojjbaaGreatDoor
open Go.RowKit

/-! assayref15.Field -/
end Go.Proofs.YtalnbddkhojjbaaGreatDoor
