import Derived.Test.YtklbdhpnbjhgkaaGreatDoorQOpenGen
import Derived.Test.YtklbdhpnbjhgkaaGreatDoorQOpenSha
import Derived.Test.YtklbdhpnbjhgkaaGreatDoorQFia
namespace Go.Proofs.YtklbdhpnbjhgkaaGreatDoor
open Go.ChangeShapes Go.WideShapes Go.ChangeAt Go.RowKit

/-! Opening api.Report, []api.Finding -/
end Go.Proofs.YtklbdhpnbjhgkaaGreatDoor
