import Derived.Test.YtklbdhpnbjhgkaaGreatDoorQCrcR2
import Derived.Lib.SlBytesConst
namespace Go.Proofs.YtklbdhpnbjhgkaaGreatDoor
open Go.RowKit

/-- A slice of slices of bytes. -/
def IsBB (w : World) (v : Value) (ls : List (List UInt8)) : Prop :=
  (v = .slice none 0 0 ∧ ls = []) ∨ ∃ x c, v = .slice (some x) ls.length c ∧ ∀ i (h : i < ls.length), ∃ u, w.cell? (x.add i) = some u ∧ IsB w u ls[i]
/-- What crc.Sum owes. -/
def SumOk : Prop := ∀ (v : Value) (ls : List (List UInt8)) (w : World), ls.length ≤ maxLen → (∀ l ∈ ls, l.length ≤ maxLen) → IsBB w v ls →
  Calls Tryz.prog 62 #[v] w fun e w' => e = .returned (.int .u32 ((sumL ls.flatten).toNat : Nat)) ∧ Below w.heap.size w w'
theorem sum_known : sumL [[49, 50, 51, 52], [53, 54, 55, 56, 57]].flatten = 0xCBF43926#32 := by decide +kernel
theorem sum_none : sumL ([] : List (List UInt8)).flatten = 0#32 := by decide +kernel
end Go.Proofs.YtklbdhpnbjhgkaaGreatDoor
