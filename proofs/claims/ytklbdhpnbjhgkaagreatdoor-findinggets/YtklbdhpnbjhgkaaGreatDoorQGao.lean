import Derived.Test.YtklbdhpnbjhgkaaGreatDoorQGal
import Derived.Test.YtklbdhpnbjhgkaaGreatDoorQOld
namespace Go.Proofs.YtklbdhpnbjhgkaaGreatDoor
open Go.RowKit

/-! Gal's things for lists that are marked and lengthened many times -/
variable {α : Type} {E : EK α}
end Go.Proofs.YtklbdhpnbjhgkaaGreatDoor
