import Derived.Test.YtklbdhpnbjhgkaaGreatDoorQApl
namespace Go.Proofs.YtklbdhpnbjhgkaaGreatDoor
open Go.RowKit

/-! A list of one-cell elements that is appended to many times, and the one that it began as, as a thing of Gal's game -/
end Go.Proofs.YtklbdhpnbjhgkaaGreatDoor
