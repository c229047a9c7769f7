/-
  No cell of these rows narrows 'for every input' (looked for: loops, veiled, ifaces, maps, wideKeys, modest, calm, conditions, laid).
  DERIVED. THE GIVEN ROWS OF THIS SEAT. 3 by the template 'for every input the law returns true; each argument reads behind the call as it read before'; 0 by the template 'total and deterministic' (their statements: YtfihpfaljjljhaaTotals.lean).
  GIVEN WITH THE SEED: the statements are not yours to turn. If you find one false, say at which input.
  Laid BY PROGRAM, IN A SANDBOX (cutbox-rows.mjs): the forced cells as the released guide's own fill.sh prints them over the translation b7fa6ef3588a0ec9… (all of the seat's roots in one cut). By AI agents, Wed Nov 11 2026. No macro, syntax, notation, axiom, sorry.
-/
import Derived.Test.YtfihpfaljjljhaaChecked
import GoSem.Claim
import GoSem.ClaimJoined
import GoSem.ClaimMapViews
import Derived.JoinedTies
import Derived.KernelRfl
namespace Go.Proofs.Ytfihpfaljjljhaa
/- THE CELL 'sum', in the pinned program and in every row, IS THE sha256 OF THE DUMP (.gsa) THAT YtfihpfaljjljhaaProg.lean LOADS. Nothing in Lean hashes anything: it is a label: what it is worth is what the hold of that sum in a sandbox is worth. -/
noncomputable def Try.pinned : Pinned := { name := "ytfihpfaljjljhaa", sum := "b7fa6ef3588a0ec940ef36fa36704ec36f6d564d387d38212b5b6850c0f9c24b", checked := Try.checked }
namespace Rows
def none {H : Type} : Left H := { results := [], args := [] }

/-- 'assaylaw01.OctetZero': WHATEVER THE INPUT: true; the input reads as it did. -/
def octetZeroSpec : ChangeSpec := { name := "octetZero", fn := fun _ => fun
  | [d1, d2, d3] => { results := [.lit (.bool true)], args := [d1, d2, d3] }
  | _ => none }
def octetZeroRow : OpenClaim := { program := "ytfihpfaljjljhaa", sum := "b7fa6ef3588a0ec940ef36fa36704ec36f6d564d387d38212b5b6850c0f9c24b", func := "assay/assaylaw01.OctetZero", spec := "octetZero", apart := false }
def OctetZeroSaid : Prop := octetZeroRow.holds Try.pinned (OpenSpec.ofChange octetZeroSpec)

/-- ITS FALSE NEIGHBOUR: 'it returns false'. Refute it at one input. -/
def octetZeroWrong : ChangeSpec := { name := "octetZero", fn := fun _ => fun
  | [d1, d2, d3] => { results := [.lit (.bool false)], args := [d1, d2, d3] }
  | _ => none }
def OctetZeroWrongFalsely : Prop := octetZeroRow.holds Try.pinned (OpenSpec.ofChange octetZeroWrong)

/-- 'assaylaw01.OctetBack': WHATEVER THE INPUT: true; the input reads as it did. -/
def octetBackSpec : ChangeSpec := { name := "octetBack", fn := fun _ => fun
  | [d1, d2] => { results := [.lit (.bool true)], args := [d1, d2] }
  | _ => none }
def octetBackRow : OpenClaim := { program := "ytfihpfaljjljhaa", sum := "b7fa6ef3588a0ec940ef36fa36704ec36f6d564d387d38212b5b6850c0f9c24b", func := "assay/assaylaw01.OctetBack", spec := "octetBack", apart := false }
def OctetBackSaid : Prop := octetBackRow.holds Try.pinned (OpenSpec.ofChange octetBackSpec)

/-- ITS FALSE NEIGHBOUR: 'it returns false'. Refute it at one input. -/
def octetBackWrong : ChangeSpec := { name := "octetBack", fn := fun _ => fun
  | [d1, d2] => { results := [.lit (.bool false)], args := [d1, d2] }
  | _ => none }
def OctetBackWrongFalsely : Prop := octetBackRow.holds Try.pinned (OpenSpec.ofChange octetBackWrong)

/-- 'assaylaw01.OctetAsks': WHATEVER THE INPUT: true; the input reads as it did. -/
def octetAsksSpec : ChangeSpec := { name := "octetAsks", fn := fun _ => fun
  | [d1, d2] => { results := [.lit (.bool true)], args := [d1, d2] }
  | _ => none }
def octetAsksRow : OpenClaim := { program := "ytfihpfaljjljhaa", sum := "b7fa6ef3588a0ec940ef36fa36704ec36f6d564d387d38212b5b6850c0f9c24b", func := "assay/assaylaw01.OctetAsks", spec := "octetAsks", apart := false }
def OctetAsksSaid : Prop := octetAsksRow.holds Try.pinned (OpenSpec.ofChange octetAsksSpec)

/-- ITS FALSE NEIGHBOUR: 'it returns false'. Refute it at one input. -/
def octetAsksWrong : ChangeSpec := { name := "octetAsks", fn := fun _ => fun
  | [d1, d2] => { results := [.lit (.bool false)], args := [d1, d2] }
  | _ => none }
def OctetAsksWrongFalsely : Prop := octetAsksRow.holds Try.pinned (OpenSpec.ofChange octetAsksWrong)

/- THE SECOND FORM. 'bulk': how many values and letters a reading holds, each counted each time it is reached (what is shared counts as often as it is met; a slice's spare places count too). A statement '..UptoSaid' is the law's where the arguments, and the package variables that the reading takes, are together of bulk at most 1048576: NARROWER than '..Said'. Prove '..Said' where nothing that the law and all that it calls make is longer than what came in: it says more and counts as full. Else prove '..UptoSaid'. A law counts once. -/
mutual
def uptoBulk {H : Type} : DataW H → Nat
  | .lit (.string bytes) => bytes.length + 1
  | .lit _ => 1
  | .nil => 1
  | .ptr d => uptoBulk d + 1
  | .slice elems spare => uptoBulkAll elems + uptoBulkAll spare + 1
  | .agg parts => uptoBulkAll parts + 1
  | .iface _ d => uptoBulk d + 1
  | .map entries => uptoBulkEntries entries + 1
  | .held _ => 1
def uptoBulkAll {H : Type} : List (DataW H) → Nat
  | [] => 0
  | d :: r => uptoBulk d + uptoBulkAll r
def uptoBulkEntries {H : Type} : List (Lit × DataW H) → Nat
  | [] => 0
  | x :: r => uptoBulkEntry x + uptoBulkEntries r
def uptoBulkEntry {H : Type} : Lit × DataW H → Nat
  | (.string bytes, d) => bytes.length + uptoBulk d + 1
  | (_, d) => uptoBulk d + 1
 end
def uptoSmall : (H : Type) → List (DataW H) → Bool := fun _ ds => decide (uptoBulkAll ds ≤ 1048576)
def OpenSpec.upto (s : _root_.Go.ChangeSpec) : _root_.Go.OpenSpec := { _root_.Go.OpenSpec.ofChange s with cond := some uptoSmall }

/-- 'assaylaw01.OctetZero', WHERE WHAT IT READS IS OF BULK AT MOST 1048576: true; the input reads as it did. -/
def octetZeroUptoRow : OpenClaim := { program := "ytfihpfaljjljhaa", sum := "b7fa6ef3588a0ec940ef36fa36704ec36f6d564d387d38212b5b6850c0f9c24b", func := "assay/assaylaw01.OctetZero", spec := "octetZero", apart := false, narrowed := true }
def OctetZeroUptoSaid : Prop := octetZeroUptoRow.holds Try.pinned (OpenSpec.upto octetZeroSpec)

/-- 'assaylaw01.OctetBack', WHERE WHAT IT READS IS OF BULK AT MOST 1048576: true; the input reads as it did. -/
def octetBackUptoRow : OpenClaim := { program := "ytfihpfaljjljhaa", sum := "b7fa6ef3588a0ec940ef36fa36704ec36f6d564d387d38212b5b6850c0f9c24b", func := "assay/assaylaw01.OctetBack", spec := "octetBack", apart := false, narrowed := true }
def OctetBackUptoSaid : Prop := octetBackUptoRow.holds Try.pinned (OpenSpec.upto octetBackSpec)

/-- 'assaylaw01.OctetAsks', WHERE WHAT IT READS IS OF BULK AT MOST 1048576: true; the input reads as it did. -/
def octetAsksUptoRow : OpenClaim := { program := "ytfihpfaljjljhaa", sum := "b7fa6ef3588a0ec940ef36fa36704ec36f6d564d387d38212b5b6850c0f9c24b", func := "assay/assaylaw01.OctetAsks", spec := "octetAsks", apart := false, narrowed := true }
def OctetAsksUptoSaid : Prop := octetAsksUptoRow.holds Try.pinned (OpenSpec.upto octetAsksSpec)

end Rows
end Go.Proofs.Ytfihpfaljjljhaa
