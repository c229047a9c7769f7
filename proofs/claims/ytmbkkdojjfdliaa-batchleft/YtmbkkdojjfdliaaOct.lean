
import Derived.Test.YtmbkkdojjfdliaaSec
namespace Go.Proofs.Ytmbkkdojjfdliaa
open Go.RowKit

theorem ret_int {k : IntKind} {a b : Int} (h : a = b) : Ending.returned (.int k a) = .returned (.int k b) := by rw [h]
theorem ret_bool {a b : Bool} (h : a = b) : Ending.returned (.bool a) = .returned (.bool b) := by rw [h]
theorem ret_sec {s t : Nat → UInt8} (h : ∀ i, i < 64 → s i = t i) : Ending.returned (.agg (secA s)) = .returned (.agg (secA t)) := by rw [(secA_inj s t).2 h]

/-! Numbers read -/
/-! Numbers put -/
/-! The calls whose answers the document fixes -/
def secT : Nat → UInt8 := putI secZ 2 513 2
theorem secT_num2 : numI secT 2 2 = 513 := by decide
theorem secT_num4 : numI secT 0 4 = 33619968 := by decide
theorem secT_not : secEq secT secZ = false := by decide
theorem secZ_is : secEq secZ secZ = true := by decide
end Go.Proofs.Ytmbkkdojjfdliaa
