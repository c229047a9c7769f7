/-
  No cell of these rows narrows 'for every input' (looked for: loops, veiled, ifaces, maps, wideKeys, modest, calm, conditions, laid).
  DERIVED. THE GIVEN ROWS OF THIS SEAT. 2 by the template 'for every input the law returns true; each argument reads behind the call as it read before'; 0 by the template 'total and deterministic' (their statements: YtakbapdonngpiaaTotals.lean).
  GIVEN WITH THE SEED: the statements are not yours to turn. If you find one false, say at which input.
  Laid BY PROGRAM, IN A SANDBOX (cutbox-rows.mjs): the forced cells as the released guide's own fill.sh prints them over the translation d925e95e83b5fae0… (all of the seat's roots in one cut). By AI agents, Wed Nov 11 2026. No macro, syntax, notation, axiom, sorry.
-/
import Derived.Test.YtakbapdonngpiaaChecked
import GoSem.Claim
import GoSem.ClaimJoined
import GoSem.ClaimMapViews
import Derived.JoinedTies
import Derived.KernelRfl
namespace Go.Proofs.Ytakbapdonngpiaa
/- THE CELL 'sum', in the pinned program and in every row, IS THE sha256 OF THE DUMP (.gsa) THAT YtakbapdonngpiaaProg.lean LOADS. Nothing in Lean hashes anything: it is a label: what it is worth is what the hold of that sum in a sandbox is worth. -/
noncomputable def Try.pinned : Pinned := { name := "ytakbapdonngpiaa", sum := "d925e95e83b5fae0319366cf89c9dd3774a7ba5735d4ccfec1c44e176c045acd", checked := Try.checked }
namespace Rows
def none {H : Type} : Left H := { results := [], args := [] }

/-- 'assaylaw11.SuperOne': WHATEVER THE INPUT: true; the input reads as it did. -/
def superOneSpec : ChangeSpec := { name := "superOne", fn := fun _ => fun
  | [d1, d2] => { results := [.lit (.bool true)], args := [d1, d2] }
  | _ => none }
def superOneRow : OpenClaim := { program := "ytakbapdonngpiaa", sum := "d925e95e83b5fae0319366cf89c9dd3774a7ba5735d4ccfec1c44e176c045acd", func := "assay/assaylaw11.SuperOne", spec := "superOne", apart := false }
def SuperOneSaid : Prop := superOneRow.holds Try.pinned (OpenSpec.ofChange superOneSpec)

/-- ITS FALSE NEIGHBOUR: 'it returns false'. Refute it at one input. -/
def superOneWrong : ChangeSpec := { name := "superOne", fn := fun _ => fun
  | [d1, d2] => { results := [.lit (.bool false)], args := [d1, d2] }
  | _ => none }
def SuperOneWrongFalsely : Prop := superOneRow.holds Try.pinned (OpenSpec.ofChange superOneWrong)

/-- 'assaylaw11.SuperSays': WHATEVER THE INPUT: true; the input reads as it did. -/
def superSaysSpec : ChangeSpec := { name := "superSays", fn := fun _ => fun
  | [d1, d2, d3] => { results := [.lit (.bool true)], args := [d1, d2, d3] }
  | _ => none }
def superSaysRow : OpenClaim := { program := "ytakbapdonngpiaa", sum := "d925e95e83b5fae0319366cf89c9dd3774a7ba5735d4ccfec1c44e176c045acd", func := "assay/assaylaw11.SuperSays", spec := "superSays", apart := false }
def SuperSaysSaid : Prop := superSaysRow.holds Try.pinned (OpenSpec.ofChange superSaysSpec)

/-- ITS FALSE NEIGHBOUR: 'it returns false'. Refute it at one input. -/
def superSaysWrong : ChangeSpec := { name := "superSays", fn := fun _ => fun
  | [d1, d2, d3] => { results := [.lit (.bool false)], args := [d1, d2, d3] }
  | _ => none }
def SuperSaysWrongFalsely : Prop := superSaysRow.holds Try.pinned (OpenSpec.ofChange superSaysWrong)

/- THE SECOND FORM. 'bulk': how many values and letters a reading holds, each counted each time it is reached (what is shared counts as often as it is met; a slice's spare places count too). A statement '..UptoSaid' is the law's where the arguments, and the package variables that the reading takes, are together of bulk at most 1048576: NARROWER than '..Said'. Prove '..Said' where nothing that the law and all that it calls make is longer than what came in: it says more and counts as full. Else prove '..UptoSaid'. A law counts once. -/
mutual
def uptoBulk {H : Type} : DataW H → Nat
  | .lit (.string bytes) => bytes.length + 1
  | .lit _ => 1
  | .nil => 1
  | .ptr d => uptoBulk d + 1
  | .slice elems spare => uptoBulkAll elems + uptoBulkAll spare + 1
  | .agg parts => uptoBulkAll parts + 1
  | .iface _ d => uptoBulk d + 1
  | .map entries => uptoBulkEntries entries + 1
  | .held _ => 1
def uptoBulkAll {H : Type} : List (DataW H) → Nat
  | [] => 0
  | d :: r => uptoBulk d + uptoBulkAll r
def uptoBulkEntries {H : Type} : List (Lit × DataW H) → Nat
  | [] => 0
  | x :: r => uptoBulkEntry x + uptoBulkEntries r
def uptoBulkEntry {H : Type} : Lit × DataW H → Nat
  | (.string bytes, d) => bytes.length + uptoBulk d + 1
  | (_, d) => uptoBulk d + 1
 end
def uptoSmall : (H : Type) → List (DataW H) → Bool := fun _ ds => decide (uptoBulkAll ds ≤ 1048576)
def OpenSpec.upto (s : _root_.Go.ChangeSpec) : _root_.Go.OpenSpec := { _root_.Go.OpenSpec.ofChange s with cond := some uptoSmall }

/-- 'assaylaw11.SuperOne', WHERE WHAT IT READS IS OF BULK AT MOST 1048576: true; the input reads as it did. -/
def superOneUptoRow : OpenClaim := { program := "ytakbapdonngpiaa", sum := "d925e95e83b5fae0319366cf89c9dd3774a7ba5735d4ccfec1c44e176c045acd", func := "assay/assaylaw11.SuperOne", spec := "superOne", apart := false, narrowed := true }
def SuperOneUptoSaid : Prop := superOneUptoRow.holds Try.pinned (OpenSpec.upto superOneSpec)

/-- 'assaylaw11.SuperSays', WHERE WHAT IT READS IS OF BULK AT MOST 1048576: true; the input reads as it did. -/
def superSaysUptoRow : OpenClaim := { program := "ytakbapdonngpiaa", sum := "d925e95e83b5fae0319366cf89c9dd3774a7ba5735d4ccfec1c44e176c045acd", func := "assay/assaylaw11.SuperSays", spec := "superSays", apart := false, narrowed := true }
def SuperSaysUptoSaid : Prop := superSaysUptoRow.holds Try.pinned (OpenSpec.upto superSaysSpec)

end Rows
end Go.Proofs.Ytakbapdonngpiaa
