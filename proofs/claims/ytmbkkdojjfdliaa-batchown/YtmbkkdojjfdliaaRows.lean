/-
  No cell of these rows narrows 'for every input' (looked for: loops, veiled, ifaces, maps, wideKeys, modest, calm, conditions, laid).
  DERIVED. THE GIVEN ROWS OF THIS SEAT. 4 by the template 'for every input the law returns true; each argument reads behind the call as it read before'; 0 by the template 'total and deterministic' (their statements: YtmbkkdojjfdliaaTotals.lean).
  GIVEN WITH THE SEED: the statements are not yours to turn. If you find one false, say at which input.
  Laid BY PROGRAM, IN A SANDBOX (cutbox-rows.mjs): the forced cells as the released guide's own fill.sh prints them over the translation a0a6ed965585a316… (all of the seat's roots in one cut). By AI agents, Wed Nov 11 2026. No macro, syntax, notation, axiom, sorry.
-/
import Derived.Test.YtmbkkdojjfdliaaChecked
import GoSem.Claim
import GoSem.ClaimJoined
import GoSem.ClaimMapViews
import Derived.JoinedTies
import Derived.KernelRfl
namespace Go.Proofs.Ytmbkkdojjfdliaa
/- THE CELL 'sum', in the pinned program and in every row, IS THE sha256 OF THE DUMP (.gsa) THAT YtmbkkdojjfdliaaProg.lean LOADS. Nothing in Lean hashes anything: it is a label: what it is worth is what the hold of that sum in a sandbox is worth. -/
noncomputable def Try.pinned : Pinned := { name := "ytmbkkdojjfdliaa", sum := "a0a6ed965585a316f3b26364d580c75927d50ec3b58bf680865dfd3e1b32113b", checked := Try.checked }
namespace Rows
def none {H : Type} : Left H := { results := [], args := [] }

/-- 'assaylaw26.BatchParts': WHATEVER THE INPUT: true; the input reads as it did. -/
def batchPartsSpec : ChangeSpec := { name := "batchParts", fn := fun _ => fun
  | [d] => { results := [.lit (.bool true)], args := [d] }
  | _ => none }
def batchPartsRow : OpenClaim := { program := "ytmbkkdojjfdliaa", sum := "a0a6ed965585a316f3b26364d580c75927d50ec3b58bf680865dfd3e1b32113b", func := "assay/assaylaw26.BatchParts", spec := "batchParts", unfollowed := true, recurses := true, apart := false }
def BatchPartsSaid : Prop := batchPartsRow.holds Try.pinned (OpenSpec.ofChange batchPartsSpec)

/-- ITS FALSE NEIGHBOUR: 'it returns false'. Refute it at one input. -/
def batchPartsWrong : ChangeSpec := { name := "batchParts", fn := fun _ => fun
  | [d] => { results := [.lit (.bool false)], args := [d] }
  | _ => none }
def BatchPartsWrongFalsely : Prop := batchPartsRow.holds Try.pinned (OpenSpec.ofChange batchPartsWrong)

/-- 'assaylaw26.BatchLeft': WHATEVER THE INPUT: true; the input reads as it did. -/
def batchLeftSpec : ChangeSpec := { name := "batchLeft", fn := fun _ => fun
  | [d1, d2] => { results := [.lit (.bool true)], args := [d1, d2] }
  | _ => none }
def batchLeftRow : OpenClaim := { program := "ytmbkkdojjfdliaa", sum := "a0a6ed965585a316f3b26364d580c75927d50ec3b58bf680865dfd3e1b32113b", func := "assay/assaylaw26.BatchLeft", spec := "batchLeft", unfollowed := true, recurses := true, apart := false }
def BatchLeftSaid : Prop := batchLeftRow.holds Try.pinned (OpenSpec.ofChange batchLeftSpec)

/-- ITS FALSE NEIGHBOUR: 'it returns false'. Refute it at one input. -/
def batchLeftWrong : ChangeSpec := { name := "batchLeft", fn := fun _ => fun
  | [d1, d2] => { results := [.lit (.bool false)], args := [d1, d2] }
  | _ => none }
def BatchLeftWrongFalsely : Prop := batchLeftRow.holds Try.pinned (OpenSpec.ofChange batchLeftWrong)

/-- 'assaylaw26.BatchOwn': WHATEVER THE INPUT: true; the input reads as it did. -/
def batchOwnSpec : ChangeSpec := { name := "batchOwn", fn := fun _ => fun
  | [d] => { results := [.lit (.bool true)], args := [d] }
  | _ => none }
def batchOwnRow : OpenClaim := { program := "ytmbkkdojjfdliaa", sum := "a0a6ed965585a316f3b26364d580c75927d50ec3b58bf680865dfd3e1b32113b", func := "assay/assaylaw26.BatchOwn", spec := "batchOwn", unfollowed := true, recurses := true, apart := false }
def BatchOwnSaid : Prop := batchOwnRow.holds Try.pinned (OpenSpec.ofChange batchOwnSpec)

/-- ITS FALSE NEIGHBOUR: 'it returns false'. Refute it at one input. -/
def batchOwnWrong : ChangeSpec := { name := "batchOwn", fn := fun _ => fun
  | [d] => { results := [.lit (.bool false)], args := [d] }
  | _ => none }
def BatchOwnWrongFalsely : Prop := batchOwnRow.holds Try.pinned (OpenSpec.ofChange batchOwnWrong)

/-- 'assaylaw26.BatchExact': WHATEVER THE INPUT: true; the input reads as it did. -/
def batchExactSpec : ChangeSpec := { name := "batchExact", fn := fun _ => fun
  | [d1, d2] => { results := [.lit (.bool true)], args := [d1, d2] }
  | _ => none }
def batchExactRow : OpenClaim := { program := "ytmbkkdojjfdliaa", sum := "a0a6ed965585a316f3b26364d580c75927d50ec3b58bf680865dfd3e1b32113b", func := "assay/assaylaw26.BatchExact", spec := "batchExact", unfollowed := true, recurses := true, apart := false }
def BatchExactSaid : Prop := batchExactRow.holds Try.pinned (OpenSpec.ofChange batchExactSpec)

/-- ITS FALSE NEIGHBOUR: 'it returns false'. Refute it at one input. -/
def batchExactWrong : ChangeSpec := { name := "batchExact", fn := fun _ => fun
  | [d1, d2] => { results := [.lit (.bool false)], args := [d1, d2] }
  | _ => none }
def BatchExactWrongFalsely : Prop := batchExactRow.holds Try.pinned (OpenSpec.ofChange batchExactWrong)

/- THE SECOND FORM. 'bulk': how many values and letters a reading holds, each counted each time it is reached (what is shared counts as often as it is met; a slice's spare places count too). A statement '..UptoSaid' is the law's where the arguments, and the package variables that the reading takes, are together of bulk at most 1048576: NARROWER than '..Said'. Prove '..Said' where nothing that the law and all that it calls make is longer than what came in: it says more and counts as full. Else prove '..UptoSaid'. A law counts once. -/
mutual
def uptoBulk {H : Type} : DataW H → Nat
  | .lit (.string bytes) => bytes.length + 1
  | .lit _ => 1
  | .nil => 1
  | .ptr d => uptoBulk d + 1
  | .slice elems spare => uptoBulkAll elems + uptoBulkAll spare + 1
  | .agg parts => uptoBulkAll parts + 1
  | .iface _ d => uptoBulk d + 1
  | .map entries => uptoBulkEntries entries + 1
  | .held _ => 1
def uptoBulkAll {H : Type} : List (DataW H) → Nat
  | [] => 0
  | d :: r => uptoBulk d + uptoBulkAll r
def uptoBulkEntries {H : Type} : List (Lit × DataW H) → Nat
  | [] => 0
  | x :: r => uptoBulkEntry x + uptoBulkEntries r
def uptoBulkEntry {H : Type} : Lit × DataW H → Nat
  | (.string bytes, d) => bytes.length + uptoBulk d + 1
  | (_, d) => uptoBulk d + 1
 end
def uptoSmall : (H : Type) → List (DataW H) → Bool := fun _ ds => decide (uptoBulkAll ds ≤ 1048576)
def OpenSpec.upto (s : _root_.Go.ChangeSpec) : _root_.Go.OpenSpec := { _root_.Go.OpenSpec.ofChange s with cond := some uptoSmall }

/-- 'assaylaw26.BatchParts', WHERE WHAT IT READS IS OF BULK AT MOST 1048576: true; the input reads as it did. -/
def batchPartsUptoRow : OpenClaim := { program := "ytmbkkdojjfdliaa", sum := "a0a6ed965585a316f3b26364d580c75927d50ec3b58bf680865dfd3e1b32113b", func := "assay/assaylaw26.BatchParts", spec := "batchParts", unfollowed := true, recurses := true, apart := false, narrowed := true }
def BatchPartsUptoSaid : Prop := batchPartsUptoRow.holds Try.pinned (OpenSpec.upto batchPartsSpec)

/-- 'assaylaw26.BatchLeft', WHERE WHAT IT READS IS OF BULK AT MOST 1048576: true; the input reads as it did. -/
def batchLeftUptoRow : OpenClaim := { program := "ytmbkkdojjfdliaa", sum := "a0a6ed965585a316f3b26364d580c75927d50ec3b58bf680865dfd3e1b32113b", func := "assay/assaylaw26.BatchLeft", spec := "batchLeft", unfollowed := true, recurses := true, apart := false, narrowed := true }
def BatchLeftUptoSaid : Prop := batchLeftUptoRow.holds Try.pinned (OpenSpec.upto batchLeftSpec)

/-- 'assaylaw26.BatchOwn', WHERE WHAT IT READS IS OF BULK AT MOST 1048576: true; the input reads as it did. -/
def batchOwnUptoRow : OpenClaim := { program := "ytmbkkdojjfdliaa", sum := "a0a6ed965585a316f3b26364d580c75927d50ec3b58bf680865dfd3e1b32113b", func := "assay/assaylaw26.BatchOwn", spec := "batchOwn", unfollowed := true, recurses := true, apart := false, narrowed := true }
def BatchOwnUptoSaid : Prop := batchOwnUptoRow.holds Try.pinned (OpenSpec.upto batchOwnSpec)

/-- 'assaylaw26.BatchExact', WHERE WHAT IT READS IS OF BULK AT MOST 1048576: true; the input reads as it did. -/
def batchExactUptoRow : OpenClaim := { program := "ytmbkkdojjfdliaa", sum := "a0a6ed965585a316f3b26364d580c75927d50ec3b58bf680865dfd3e1b32113b", func := "assay/assaylaw26.BatchExact", spec := "batchExact", unfollowed := true, recurses := true, apart := false, narrowed := true }
def BatchExactUptoSaid : Prop := batchExactUptoRow.holds Try.pinned (OpenSpec.upto batchExactSpec)

end Rows
end Go.Proofs.Ytmbkkdojjfdliaa
