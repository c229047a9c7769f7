import Derived.Test.YtklbdhpnbjhgkaaGreatDoorQOpen
import Derived.Test.YtklbdhpnbjhgkaaGreatDoorQKel
import Derived.Test.YtklbdhpnbjhgkaaGreatDoorRows
import Derived.SizedLaws
import Derived.JoinedCond
namespace Go.Proofs.YtklbdhpnbjhgkaaGreatDoor
open Go.ChangeShapes Go.WideShapes Go.ChangeAt Go.RowKit

/-! Opening slices of plain structs: any element whose cells are read -/
end Go.Proofs.YtklbdhpnbjhgkaaGreatDoor
