/-
  No cell of these rows narrows 'for every input' (looked for: loops, veiled, ifaces, maps, wideKeys, modest, calm, conditions, laid).
  DERIVED. THE GIVEN ROWS OF THIS SEAT. 4 by the template 'for every input the law returns true; each argument reads behind the call as it read before'; 0 by the template 'total and deterministic' (their statements: YthkjfgncbmpllaaTotals.lean).
  GIVEN WITH THE SEED: the statements are not yours to turn. If you find one false, say at which input.
  Laid BY PROGRAM, IN A SANDBOX (cutbox-rows.mjs): the forced cells as the released guide's own fill.sh prints them over the translation 90e82f9ba97b8890… (all of the seat's roots in one cut). By AI agents, Wed Nov 11 2026. No macro, syntax, notation, axiom, sorry.
-/
import Derived.Test.YthkjfgncbmpllaaChecked
import GoSem.Claim
import GoSem.ClaimJoined
import GoSem.ClaimMapViews
import Derived.JoinedTies
import Derived.KernelRfl
namespace Go.Proofs.Ythkjfgncbmpllaa
/- THE CELL 'sum', in the pinned program and in every row, IS THE sha256 OF THE DUMP (.gsa) THAT YthkjfgncbmpllaaProg.lean LOADS. Nothing in Lean hashes anything: it is a label: what it is worth is what the hold of that sum in a sandbox is worth. -/
noncomputable def Try.pinned : Pinned := { name := "ythkjfgncbmpllaa", sum := "90e82f9ba97b88906995257886614c9a4b63a3bc7a526b4c53243c3d7e47921e", checked := Try.checked }
namespace Rows
def none {H : Type} : Left H := { results := [], args := [] }

/-- 'assaylaw04.DigestBack': WHATEVER THE INPUT: true; the input reads as it did. -/
def digestBackSpec : ChangeSpec := { name := "digestBack", fn := fun _ => fun
  | [d1, d2, d3] => { results := [.lit (.bool true)], args := [d1, d2, d3] }
  | _ => none }
def digestBackRow : OpenClaim := { program := "ythkjfgncbmpllaa", sum := "90e82f9ba97b88906995257886614c9a4b63a3bc7a526b4c53243c3d7e47921e", func := "assay/assaylaw04.DigestBack", spec := "digestBack", unfollowed := true, recurses := true, apart := false }
def DigestBackSaid : Prop := digestBackRow.holds Try.pinned (OpenSpec.ofChange digestBackSpec)

/-- ITS FALSE NEIGHBOUR: 'it returns false'. Refute it at one input. -/
def digestBackWrong : ChangeSpec := { name := "digestBack", fn := fun _ => fun
  | [d1, d2, d3] => { results := [.lit (.bool false)], args := [d1, d2, d3] }
  | _ => none }
def DigestBackWrongFalsely : Prop := digestBackRow.holds Try.pinned (OpenSpec.ofChange digestBackWrong)

/-- 'assaylaw04.DigestOrder': WHATEVER THE INPUT: true; the input reads as it did. -/
def digestOrderSpec : ChangeSpec := { name := "digestOrder", fn := fun _ => fun
  | [d] => { results := [.lit (.bool true)], args := [d] }
  | _ => none }
def digestOrderRow : OpenClaim := { program := "ythkjfgncbmpllaa", sum := "90e82f9ba97b88906995257886614c9a4b63a3bc7a526b4c53243c3d7e47921e", func := "assay/assaylaw04.DigestOrder", spec := "digestOrder", unfollowed := true, recurses := true, apart := false }
def DigestOrderSaid : Prop := digestOrderRow.holds Try.pinned (OpenSpec.ofChange digestOrderSpec)

/-- ITS FALSE NEIGHBOUR: 'it returns false'. Refute it at one input. -/
def digestOrderWrong : ChangeSpec := { name := "digestOrder", fn := fun _ => fun
  | [d] => { results := [.lit (.bool false)], args := [d] }
  | _ => none }
def DigestOrderWrongFalsely : Prop := digestOrderRow.holds Try.pinned (OpenSpec.ofChange digestOrderWrong)

/-- 'assaylaw04.DigestSays': WHATEVER THE INPUT: true; the input reads as it did. -/
def digestSaysSpec : ChangeSpec := { name := "digestSays", fn := fun _ => fun
  | [d1, d2, d3] => { results := [.lit (.bool true)], args := [d1, d2, d3] }
  | _ => none }
def digestSaysRow : OpenClaim := { program := "ythkjfgncbmpllaa", sum := "90e82f9ba97b88906995257886614c9a4b63a3bc7a526b4c53243c3d7e47921e", func := "assay/assaylaw04.DigestSays", spec := "digestSays", unfollowed := true, recurses := true, apart := false }
def DigestSaysSaid : Prop := digestSaysRow.holds Try.pinned (OpenSpec.ofChange digestSaysSpec)

/-- ITS FALSE NEIGHBOUR: 'it returns false'. Refute it at one input. -/
def digestSaysWrong : ChangeSpec := { name := "digestSays", fn := fun _ => fun
  | [d1, d2, d3] => { results := [.lit (.bool false)], args := [d1, d2, d3] }
  | _ => none }
def DigestSaysWrongFalsely : Prop := digestSaysRow.holds Try.pinned (OpenSpec.ofChange digestSaysWrong)

/-- 'assaylaw04.DigestSorts': WHATEVER THE INPUT: true; the input reads as it did. -/
def digestSortsSpec : ChangeSpec := { name := "digestSorts", fn := fun _ => fun
  | [d1, d2] => { results := [.lit (.bool true)], args := [d1, d2] }
  | _ => none }
def digestSortsRow : OpenClaim := { program := "ythkjfgncbmpllaa", sum := "90e82f9ba97b88906995257886614c9a4b63a3bc7a526b4c53243c3d7e47921e", func := "assay/assaylaw04.DigestSorts", spec := "digestSorts", unfollowed := true, recurses := true, apart := false }
def DigestSortsSaid : Prop := digestSortsRow.holds Try.pinned (OpenSpec.ofChange digestSortsSpec)

/-- ITS FALSE NEIGHBOUR: 'it returns false'. Refute it at one input. -/
def digestSortsWrong : ChangeSpec := { name := "digestSorts", fn := fun _ => fun
  | [d1, d2] => { results := [.lit (.bool false)], args := [d1, d2] }
  | _ => none }
def DigestSortsWrongFalsely : Prop := digestSortsRow.holds Try.pinned (OpenSpec.ofChange digestSortsWrong)

/- THE SECOND FORM. 'bulk': how many values and letters a reading holds, each counted each time it is reached (what is shared counts as often as it is met; a slice's spare places count too). A statement '..UptoSaid' is the law's where the arguments, and the package variables that the reading takes, are together of bulk at most 1048576: NARROWER than '..Said'. Prove '..Said' where nothing that the law and all that it calls make is longer than what came in: it says more and counts as full. Else prove '..UptoSaid'. A law counts once. -/
mutual
def uptoBulk {H : Type} : DataW H → Nat
  | .lit (.string bytes) => bytes.length + 1
  | .lit _ => 1
  | .nil => 1
  | .ptr d => uptoBulk d + 1
  | .slice elems spare => uptoBulkAll elems + uptoBulkAll spare + 1
  | .agg parts => uptoBulkAll parts + 1
  | .iface _ d => uptoBulk d + 1
  | .map entries => uptoBulkEntries entries + 1
  | .held _ => 1
def uptoBulkAll {H : Type} : List (DataW H) → Nat
  | [] => 0
  | d :: r => uptoBulk d + uptoBulkAll r
def uptoBulkEntries {H : Type} : List (Lit × DataW H) → Nat
  | [] => 0
  | x :: r => uptoBulkEntry x + uptoBulkEntries r
def uptoBulkEntry {H : Type} : Lit × DataW H → Nat
  | (.string bytes, d) => bytes.length + uptoBulk d + 1
  | (_, d) => uptoBulk d + 1
 end
def uptoSmall : (H : Type) → List (DataW H) → Bool := fun _ ds => decide (uptoBulkAll ds ≤ 1048576)
def OpenSpec.upto (s : _root_.Go.ChangeSpec) : _root_.Go.OpenSpec := { _root_.Go.OpenSpec.ofChange s with cond := some uptoSmall }

/-- 'assaylaw04.DigestBack', WHERE WHAT IT READS IS OF BULK AT MOST 1048576: true; the input reads as it did. -/
def digestBackUptoRow : OpenClaim := { program := "ythkjfgncbmpllaa", sum := "90e82f9ba97b88906995257886614c9a4b63a3bc7a526b4c53243c3d7e47921e", func := "assay/assaylaw04.DigestBack", spec := "digestBack", unfollowed := true, recurses := true, apart := false, narrowed := true }
def DigestBackUptoSaid : Prop := digestBackUptoRow.holds Try.pinned (OpenSpec.upto digestBackSpec)

/-- 'assaylaw04.DigestOrder', WHERE WHAT IT READS IS OF BULK AT MOST 1048576: true; the input reads as it did. -/
def digestOrderUptoRow : OpenClaim := { program := "ythkjfgncbmpllaa", sum := "90e82f9ba97b88906995257886614c9a4b63a3bc7a526b4c53243c3d7e47921e", func := "assay/assaylaw04.DigestOrder", spec := "digestOrder", unfollowed := true, recurses := true, apart := false, narrowed := true }
def DigestOrderUptoSaid : Prop := digestOrderUptoRow.holds Try.pinned (OpenSpec.upto digestOrderSpec)

/-- 'assaylaw04.DigestSays', WHERE WHAT IT READS IS OF BULK AT MOST 1048576: true; the input reads as it did. -/
def digestSaysUptoRow : OpenClaim := { program := "ythkjfgncbmpllaa", sum := "90e82f9ba97b88906995257886614c9a4b63a3bc7a526b4c53243c3d7e47921e", func := "assay/assaylaw04.DigestSays", spec := "digestSays", unfollowed := true, recurses := true, apart := false, narrowed := true }
def DigestSaysUptoSaid : Prop := digestSaysUptoRow.holds Try.pinned (OpenSpec.upto digestSaysSpec)

/-- 'assaylaw04.DigestSorts', WHERE WHAT IT READS IS OF BULK AT MOST 1048576: true; the input reads as it did. -/
def digestSortsUptoRow : OpenClaim := { program := "ythkjfgncbmpllaa", sum := "90e82f9ba97b88906995257886614c9a4b63a3bc7a526b4c53243c3d7e47921e", func := "assay/assaylaw04.DigestSorts", spec := "digestSorts", unfollowed := true, recurses := true, apart := false, narrowed := true }
def DigestSortsUptoSaid : Prop := digestSortsUptoRow.holds Try.pinned (OpenSpec.upto digestSortsSpec)

end Rows
end Go.Proofs.Ythkjfgncbmpllaa
