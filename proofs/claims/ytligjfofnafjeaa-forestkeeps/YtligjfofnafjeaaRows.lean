/-
  No cell of these rows narrows 'for every input' (looked for: loops, veiled, ifaces, maps, wideKeys, modest, calm, conditions, laid).
  DERIVED. THE GIVEN ROWS OF THIS SEAT. 4 by the template 'for every input the law returns true; each argument reads behind the call as it read before'; 0 by the template 'total and deterministic' (their statements: YtligjfofnafjeaaTotals.lean).
  GIVEN WITH THE SEED: the statements are not yours to turn. If you find one false, say at which input.
  Laid BY PROGRAM, IN A SANDBOX (cutbox-rows.mjs): the forced cells as the released guide's own fill.sh prints them over the translation 880eb44ee6612daa… (all of the seat's roots in one cut). By AI agents, Wed Nov 11 2026. No macro, syntax, notation, axiom, sorry.
-/
import Derived.Test.YtligjfofnafjeaaChecked
import GoSem.Claim
import GoSem.ClaimJoined
import GoSem.ClaimMapViews
import Derived.JoinedTies
import Derived.KernelRfl
namespace Go.Proofs.Ytligjfofnafjeaa
/- THE CELL 'sum', in the pinned program and in every row, IS THE sha256 OF THE DUMP (.gsa) THAT YtligjfofnafjeaaProg.lean LOADS. Nothing in Lean hashes anything: it is a label: what it is worth is what the hold of that sum in a sandbox is worth. -/
noncomputable def Try.pinned : Pinned := { name := "ytligjfofnafjeaa", sum := "880eb44ee6612daa0df913e6123cbf2620805383dce8eadce883e314a85df9d9", checked := Try.checked }
namespace Rows
def none {H : Type} : Left H := { results := [], args := [] }

/-- 'assaylaw21.ForestStands': WHATEVER THE INPUT: true; the input reads as it did. -/
def forestStandsSpec : ChangeSpec := { name := "forestStands", fn := fun _ => fun
  | [d] => { results := [.lit (.bool true)], args := [d] }
  | _ => none }
def forestStandsRow : OpenClaim := { program := "ytligjfofnafjeaa", sum := "880eb44ee6612daa0df913e6123cbf2620805383dce8eadce883e314a85df9d9", func := "assay/assaylaw21.ForestStands", spec := "forestStands", recurses := true, apart := false }
def ForestStandsSaid : Prop := forestStandsRow.holds Try.pinned (OpenSpec.ofChange forestStandsSpec)

/-- ITS FALSE NEIGHBOUR: 'it returns false'. Refute it at one input. -/
def forestStandsWrong : ChangeSpec := { name := "forestStands", fn := fun _ => fun
  | [d] => { results := [.lit (.bool false)], args := [d] }
  | _ => none }
def ForestStandsWrongFalsely : Prop := forestStandsRow.holds Try.pinned (OpenSpec.ofChange forestStandsWrong)

/-- 'assaylaw21.ForestKeeps': WHATEVER THE INPUT: true; the input reads as it did. -/
def forestKeepsSpec : ChangeSpec := { name := "forestKeeps", fn := fun _ => fun
  | [d] => { results := [.lit (.bool true)], args := [d] }
  | _ => none }
def forestKeepsRow : OpenClaim := { program := "ytligjfofnafjeaa", sum := "880eb44ee6612daa0df913e6123cbf2620805383dce8eadce883e314a85df9d9", func := "assay/assaylaw21.ForestKeeps", spec := "forestKeeps", recurses := true, apart := false }
def ForestKeepsSaid : Prop := forestKeepsRow.holds Try.pinned (OpenSpec.ofChange forestKeepsSpec)

/-- ITS FALSE NEIGHBOUR: 'it returns false'. Refute it at one input. -/
def forestKeepsWrong : ChangeSpec := { name := "forestKeeps", fn := fun _ => fun
  | [d] => { results := [.lit (.bool false)], args := [d] }
  | _ => none }
def ForestKeepsWrongFalsely : Prop := forestKeepsRow.holds Try.pinned (OpenSpec.ofChange forestKeepsWrong)

/-- 'assaylaw21.ForestIs': WHATEVER THE INPUT: true; the input reads as it did. -/
def forestIsSpec : ChangeSpec := { name := "forestIs", fn := fun _ => fun
  | [d] => { results := [.lit (.bool true)], args := [d] }
  | _ => none }
def forestIsRow : OpenClaim := { program := "ytligjfofnafjeaa", sum := "880eb44ee6612daa0df913e6123cbf2620805383dce8eadce883e314a85df9d9", func := "assay/assaylaw21.ForestIs", spec := "forestIs", recurses := true, apart := false }
def ForestIsSaid : Prop := forestIsRow.holds Try.pinned (OpenSpec.ofChange forestIsSpec)

/-- ITS FALSE NEIGHBOUR: 'it returns false'. Refute it at one input. -/
def forestIsWrong : ChangeSpec := { name := "forestIs", fn := fun _ => fun
  | [d] => { results := [.lit (.bool false)], args := [d] }
  | _ => none }
def ForestIsWrongFalsely : Prop := forestIsRow.holds Try.pinned (OpenSpec.ofChange forestIsWrong)

/-- 'assaylaw21.ForestExact': WHATEVER THE INPUT: true; the input reads as it did. -/
def forestExactSpec : ChangeSpec := { name := "forestExact", fn := fun _ => fun
  | [d] => { results := [.lit (.bool true)], args := [d] }
  | _ => none }
def forestExactRow : OpenClaim := { program := "ytligjfofnafjeaa", sum := "880eb44ee6612daa0df913e6123cbf2620805383dce8eadce883e314a85df9d9", func := "assay/assaylaw21.ForestExact", spec := "forestExact", recurses := true, apart := false }
def ForestExactSaid : Prop := forestExactRow.holds Try.pinned (OpenSpec.ofChange forestExactSpec)

/-- ITS FALSE NEIGHBOUR: 'it returns false'. Refute it at one input. -/
def forestExactWrong : ChangeSpec := { name := "forestExact", fn := fun _ => fun
  | [d] => { results := [.lit (.bool false)], args := [d] }
  | _ => none }
def ForestExactWrongFalsely : Prop := forestExactRow.holds Try.pinned (OpenSpec.ofChange forestExactWrong)

/- THE SECOND FORM. 'bulk': how many values and letters a reading holds, each counted each time it is reached (what is shared counts as often as it is met; a slice's spare places count too). A statement '..UptoSaid' is the law's where the arguments, and the package variables that the reading takes, are together of bulk at most 1048576: NARROWER than '..Said'. Prove '..Said' where nothing that the law and all that it calls make is longer than what came in: it says more and counts as full. Else prove '..UptoSaid'. A law counts once. -/
mutual
def uptoBulk {H : Type} : DataW H → Nat
  | .lit (.string bytes) => bytes.length + 1
  | .lit _ => 1
  | .nil => 1
  | .ptr d => uptoBulk d + 1
  | .slice elems spare => uptoBulkAll elems + uptoBulkAll spare + 1
  | .agg parts => uptoBulkAll parts + 1
  | .iface _ d => uptoBulk d + 1
  | .map entries => uptoBulkEntries entries + 1
  | .held _ => 1
def uptoBulkAll {H : Type} : List (DataW H) → Nat
  | [] => 0
  | d :: r => uptoBulk d + uptoBulkAll r
def uptoBulkEntries {H : Type} : List (Lit × DataW H) → Nat
  | [] => 0
  | x :: r => uptoBulkEntry x + uptoBulkEntries r
def uptoBulkEntry {H : Type} : Lit × DataW H → Nat
  | (.string bytes, d) => bytes.length + uptoBulk d + 1
  | (_, d) => uptoBulk d + 1
 end
def uptoSmall : (H : Type) → List (DataW H) → Bool := fun _ ds => decide (uptoBulkAll ds ≤ 1048576)
def OpenSpec.upto (s : _root_.Go.ChangeSpec) : _root_.Go.OpenSpec := { _root_.Go.OpenSpec.ofChange s with cond := some uptoSmall }

/-- 'assaylaw21.ForestStands', WHERE WHAT IT READS IS OF BULK AT MOST 1048576: true; the input reads as it did. -/
def forestStandsUptoRow : OpenClaim := { program := "ytligjfofnafjeaa", sum := "880eb44ee6612daa0df913e6123cbf2620805383dce8eadce883e314a85df9d9", func := "assay/assaylaw21.ForestStands", spec := "forestStands", recurses := true, apart := false, narrowed := true }
def ForestStandsUptoSaid : Prop := forestStandsUptoRow.holds Try.pinned (OpenSpec.upto forestStandsSpec)

/-- 'assaylaw21.ForestKeeps', WHERE WHAT IT READS IS OF BULK AT MOST 1048576: true; the input reads as it did. -/
def forestKeepsUptoRow : OpenClaim := { program := "ytligjfofnafjeaa", sum := "880eb44ee6612daa0df913e6123cbf2620805383dce8eadce883e314a85df9d9", func := "assay/assaylaw21.ForestKeeps", spec := "forestKeeps", recurses := true, apart := false, narrowed := true }
def ForestKeepsUptoSaid : Prop := forestKeepsUptoRow.holds Try.pinned (OpenSpec.upto forestKeepsSpec)

/-- 'assaylaw21.ForestIs', WHERE WHAT IT READS IS OF BULK AT MOST 1048576: true; the input reads as it did. -/
def forestIsUptoRow : OpenClaim := { program := "ytligjfofnafjeaa", sum := "880eb44ee6612daa0df913e6123cbf2620805383dce8eadce883e314a85df9d9", func := "assay/assaylaw21.ForestIs", spec := "forestIs", recurses := true, apart := false, narrowed := true }
def ForestIsUptoSaid : Prop := forestIsUptoRow.holds Try.pinned (OpenSpec.upto forestIsSpec)

/-- 'assaylaw21.ForestExact', WHERE WHAT IT READS IS OF BULK AT MOST 1048576: true; the input reads as it did. -/
def forestExactUptoRow : OpenClaim := { program := "ytligjfofnafjeaa", sum := "880eb44ee6612daa0df913e6123cbf2620805383dce8eadce883e314a85df9d9", func := "assay/assaylaw21.ForestExact", spec := "forestExact", recurses := true, apart := false, narrowed := true }
def ForestExactUptoSaid : Prop := forestExactUptoRow.holds Try.pinned (OpenSpec.upto forestExactSpec)

end Rows
end Go.Proofs.Ytligjfofnafjeaa
