import Derived.Test.YtddmmmfpdmejbaaGreatDoorQOpen
import Derived.Test.YtddmmmfpdmejbaaGreatDoorQNum
import Derived.SizedLaws
import Derived.ChangeMaps5
namespace Go.Proofs.YtddmmmfpdmejbaaGreatDoor
open Go.ChangeShapes Go.WideShapes Go.ChangeAt Go.RowKit

end Go.Proofs.YtddmmmfpdmejbaaGreatDoor
namespace Go.Proofs.YtddmmmfpdmejbaaGreatDoor
open Go.ChangeShapes Go.WideShapes Go.ChangeAt Go.RowKit

/-! Opening a string, two of them; what the reach gives -/
set_option maxRecDepth 100000 in
theorem open_str13 {H : Type} {enc : TypeId × Value → H} {w : World} {base b0 : Nat} {spare : Nat → Bool} {held : Bool} {r : Reach} {v : Value} {d : DataW H} {ps : List MemPlace}
    (hval : Value.okWide Tryz.prog w r b0 9 v) (hd : DataW.Trod enc Tryz.prog w base spare held 9 v d ps) : ∃ s : ByteArray, v = .string s ∧ d = .lit (.string s.data.toList) ∧ s.size ≤ 9223372036854775807 := by
  obtain ⟨s, h1, h2, -, h3⟩ := Go.ChangeMaps.open_string Tryz.underlying9 hval hd
  exact ⟨s, h1, h2, by unfold maxLen at h3; omega⟩
end Go.Proofs.YtddmmmfpdmejbaaGreatDoor
