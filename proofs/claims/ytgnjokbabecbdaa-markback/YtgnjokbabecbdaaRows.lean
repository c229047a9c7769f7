/-
  No cell of these rows narrows 'for every input' (looked for: loops, veiled, ifaces, maps, wideKeys, modest, calm, conditions, laid).
  DERIVED. THE GIVEN ROWS OF THIS SEAT. 3 by the template 'for every input the law returns true; each argument reads behind the call as it read before'; 0 by the template 'total and deterministic' (their statements: YtgnjokbabecbdaaTotals.lean).
  GIVEN WITH THE SEED: the statements are not yours to turn. If you find one false, say at which input.
  Laid BY PROGRAM, IN A SANDBOX (cutbox-rows.mjs): the forced cells as the released guide's own fill.sh prints them over the translation 6d2549983db0d79f… (all of the seat's roots in one cut). By AI agents, Wed Nov 11 2026. No macro, syntax, notation, axiom, sorry.
-/
import Derived.Test.YtgnjokbabecbdaaChecked
import GoSem.Claim
import GoSem.ClaimJoined
import GoSem.ClaimMapViews
import Derived.JoinedTies
import Derived.KernelRfl
namespace Go.Proofs.Ytgnjokbabecbdaa
/- THE CELL 'sum', in the pinned program and in every row, IS THE sha256 OF THE DUMP (.gsa) THAT YtgnjokbabecbdaaProg.lean LOADS. Nothing in Lean hashes anything: it is a label: what it is worth is what the hold of that sum in a sandbox is worth. -/
noncomputable def Try.pinned : Pinned := { name := "ytgnjokbabecbdaa", sum := "6d2549983db0d79ff2df7e69152da12a726f1112ce1694d21f7f4cd53c63eb8c", checked := Try.checked }
namespace Rows
def none {H : Type} : Left H := { results := [], args := [] }

/-- 'assaylaw09.MarkBack': WHATEVER THE INPUT: true; the input reads as it did. -/
def markBackSpec : ChangeSpec := { name := "markBack", fn := fun _ => fun
  | [d1, d2, d3] => { results := [.lit (.bool true)], args := [d1, d2, d3] }
  | _ => none }
def markBackRow : OpenClaim := { program := "ytgnjokbabecbdaa", sum := "6d2549983db0d79ff2df7e69152da12a726f1112ce1694d21f7f4cd53c63eb8c", func := "assay/assaylaw09.MarkBack", spec := "markBack", unfollowed := true, recurses := true, apart := false }
def MarkBackSaid : Prop := markBackRow.holds Try.pinned (OpenSpec.ofChange markBackSpec)

/-- ITS FALSE NEIGHBOUR: 'it returns false'. Refute it at one input. -/
def markBackWrong : ChangeSpec := { name := "markBack", fn := fun _ => fun
  | [d1, d2, d3] => { results := [.lit (.bool false)], args := [d1, d2, d3] }
  | _ => none }
def MarkBackWrongFalsely : Prop := markBackRow.holds Try.pinned (OpenSpec.ofChange markBackWrong)

/-- 'assaylaw09.MarkPuts': WHATEVER THE INPUT: true; the input reads as it did. -/
def markPutsSpec : ChangeSpec := { name := "markPuts", fn := fun _ => fun
  | [d1, d2, d3] => { results := [.lit (.bool true)], args := [d1, d2, d3] }
  | _ => none }
def markPutsRow : OpenClaim := { program := "ytgnjokbabecbdaa", sum := "6d2549983db0d79ff2df7e69152da12a726f1112ce1694d21f7f4cd53c63eb8c", func := "assay/assaylaw09.MarkPuts", spec := "markPuts", unfollowed := true, recurses := true, apart := false }
def MarkPutsSaid : Prop := markPutsRow.holds Try.pinned (OpenSpec.ofChange markPutsSpec)

/-- ITS FALSE NEIGHBOUR: 'it returns false'. Refute it at one input. -/
def markPutsWrong : ChangeSpec := { name := "markPuts", fn := fun _ => fun
  | [d1, d2, d3] => { results := [.lit (.bool false)], args := [d1, d2, d3] }
  | _ => none }
def MarkPutsWrongFalsely : Prop := markPutsRow.holds Try.pinned (OpenSpec.ofChange markPutsWrong)

/-- 'assaylaw09.MarkStates': WHATEVER THE INPUT: true; the input reads as it did. -/
def markStatesSpec : ChangeSpec := { name := "markStates", fn := fun _ => fun
  | [d1, d2, d3] => { results := [.lit (.bool true)], args := [d1, d2, d3] }
  | _ => none }
def markStatesRow : OpenClaim := { program := "ytgnjokbabecbdaa", sum := "6d2549983db0d79ff2df7e69152da12a726f1112ce1694d21f7f4cd53c63eb8c", func := "assay/assaylaw09.MarkStates", spec := "markStates", unfollowed := true, recurses := true, apart := false }
def MarkStatesSaid : Prop := markStatesRow.holds Try.pinned (OpenSpec.ofChange markStatesSpec)

/-- ITS FALSE NEIGHBOUR: 'it returns false'. Refute it at one input. -/
def markStatesWrong : ChangeSpec := { name := "markStates", fn := fun _ => fun
  | [d1, d2, d3] => { results := [.lit (.bool false)], args := [d1, d2, d3] }
  | _ => none }
def MarkStatesWrongFalsely : Prop := markStatesRow.holds Try.pinned (OpenSpec.ofChange markStatesWrong)

/- THE SECOND FORM. 'bulk': how many values and letters a reading holds, each counted each time it is reached (what is shared counts as often as it is met; a slice's spare places count too). A statement '..UptoSaid' is the law's where the arguments, and the package variables that the reading takes, are together of bulk at most 1048576: NARROWER than '..Said'. Prove '..Said' where nothing that the law and all that it calls make is longer than what came in: it says more and counts as full. Else prove '..UptoSaid'. A law counts once. -/
mutual
def uptoBulk {H : Type} : DataW H → Nat
  | .lit (.string bytes) => bytes.length + 1
  | .lit _ => 1
  | .nil => 1
  | .ptr d => uptoBulk d + 1
  | .slice elems spare => uptoBulkAll elems + uptoBulkAll spare + 1
  | .agg parts => uptoBulkAll parts + 1
  | .iface _ d => uptoBulk d + 1
  | .map entries => uptoBulkEntries entries + 1
  | .held _ => 1
def uptoBulkAll {H : Type} : List (DataW H) → Nat
  | [] => 0
  | d :: r => uptoBulk d + uptoBulkAll r
def uptoBulkEntries {H : Type} : List (Lit × DataW H) → Nat
  | [] => 0
  | x :: r => uptoBulkEntry x + uptoBulkEntries r
def uptoBulkEntry {H : Type} : Lit × DataW H → Nat
  | (.string bytes, d) => bytes.length + uptoBulk d + 1
  | (_, d) => uptoBulk d + 1
 end
def uptoSmall : (H : Type) → List (DataW H) → Bool := fun _ ds => decide (uptoBulkAll ds ≤ 1048576)
def OpenSpec.upto (s : _root_.Go.ChangeSpec) : _root_.Go.OpenSpec := { _root_.Go.OpenSpec.ofChange s with cond := some uptoSmall }

/-- 'assaylaw09.MarkBack', WHERE WHAT IT READS IS OF BULK AT MOST 1048576: true; the input reads as it did. -/
def markBackUptoRow : OpenClaim := { program := "ytgnjokbabecbdaa", sum := "6d2549983db0d79ff2df7e69152da12a726f1112ce1694d21f7f4cd53c63eb8c", func := "assay/assaylaw09.MarkBack", spec := "markBack", unfollowed := true, recurses := true, apart := false, narrowed := true }
def MarkBackUptoSaid : Prop := markBackUptoRow.holds Try.pinned (OpenSpec.upto markBackSpec)

/-- 'assaylaw09.MarkPuts', WHERE WHAT IT READS IS OF BULK AT MOST 1048576: true; the input reads as it did. -/
def markPutsUptoRow : OpenClaim := { program := "ytgnjokbabecbdaa", sum := "6d2549983db0d79ff2df7e69152da12a726f1112ce1694d21f7f4cd53c63eb8c", func := "assay/assaylaw09.MarkPuts", spec := "markPuts", unfollowed := true, recurses := true, apart := false, narrowed := true }
def MarkPutsUptoSaid : Prop := markPutsUptoRow.holds Try.pinned (OpenSpec.upto markPutsSpec)

/-- 'assaylaw09.MarkStates', WHERE WHAT IT READS IS OF BULK AT MOST 1048576: true; the input reads as it did. -/
def markStatesUptoRow : OpenClaim := { program := "ytgnjokbabecbdaa", sum := "6d2549983db0d79ff2df7e69152da12a726f1112ce1694d21f7f4cd53c63eb8c", func := "assay/assaylaw09.MarkStates", spec := "markStates", unfollowed := true, recurses := true, apart := false, narrowed := true }
def MarkStatesUptoSaid : Prop := markStatesUptoRow.holds Try.pinned (OpenSpec.upto markStatesSpec)

end Rows
end Go.Proofs.Ytgnjokbabecbdaa
