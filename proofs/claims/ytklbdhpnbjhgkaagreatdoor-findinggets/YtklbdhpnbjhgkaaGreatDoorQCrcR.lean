import Derived.Test.YtklbdhpnbjhgkaaGreatDoorQNum
import Derived.Test.YtklbdhpnbjhgkaaGreatDoorQCrcM
namespace Go.Proofs.YtklbdhpnbjhgkaaGreatDoor
open Go.RowKit

/-! The document's own answers of chapter 2 -/
theorem crcL_take_succ (n : BitVec 32) (l : List UInt8) (k : Nat) (h : k < l.length) : crcL n (l.take (k + 1)) = byt (crcL n (l.take k)) (l[k]?.getD 0) := by
  rw [List.take_succ_eq_append_getElem h, crcL_append]; simp [crcL, h]
theorem stN_succ' (k : Nat) (n : BitVec 32) : stN (k + 1) n = st (stN k n) := by rw [stN_add]; rfl
end Go.Proofs.YtklbdhpnbjhgkaaGreatDoor
