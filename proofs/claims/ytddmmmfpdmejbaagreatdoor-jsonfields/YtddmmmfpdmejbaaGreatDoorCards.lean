/-
  DERIVED. GIVEN WITH THE SEED: THE CARDS: each row of YtddmmmfpdmejbaaGreatDoorRows.lean that lists a variable, with what it lists TIED to the program's text (the seventh form; the later family's looks); each row that meets fmt, with fmt's text TOLD by the authors' own Lean function (tested against real Go, not proved from fmt's source: count such statements apart). THE CARD IS WHAT COUNTS. Prove the row's statement (the work); the ties are given (YtddmmmfpdmejbaaGreatDoorTie.lean); close each card by the builder's one call (the guide's Derived/Test/ToyasCard.lean, 'card_holds'). Laid BY PROGRAM, IN A SANDBOX (cutbox-door.mjs). By AI agents, Wed Nov 11 2026. No macro, syntax, notation, axiom, sorry.
-/
import Derived.Test.YtddmmmfpdmejbaaGreatDoorRows
import GoSem.ClaimSeven
namespace Go.Proofs.YtddmmmfpdmejbaaGreatDoor
namespace Rows

/-- THE TIED CARD OF 'assaylaw15.JsonBack'. -/
def jsonBackCard : Claim7 := { stood := { row := jsonBackRow, standIns := [], harness := (true, "40e5ea6813bd4eff4169ee0c01ee58a2f051ecf631ccfa48f17bce98641447ce"), looks := true }, kinds := [], alts := [], laidByText := true, laidKinds := [.data, .data, .data, .sentinel, .sentinel], laidTests := true, laidLooks := .later }
def JsonBackCardSaid : Prop := Claim7.holds Tryz.pinned (.plain (OpenSpec.ofChange jsonBackSpec)) jsonBackCard

/-- THE TIED CARD OF 'assaylaw15.JsonFields'. -/
def jsonFieldsCard : Claim7 := { stood := { row := jsonFieldsRow, standIns := [], harness := (true, "40e5ea6813bd4eff4169ee0c01ee58a2f051ecf631ccfa48f17bce98641447ce"), looks := true }, kinds := [], alts := [], laidByText := true, laidKinds := [.data, .data, .data, .sentinel, .sentinel], laidTests := true, laidLooks := .later }
def JsonFieldsCardSaid : Prop := Claim7.holds Tryz.pinned (.plain (OpenSpec.ofChange jsonFieldsSpec)) jsonFieldsCard

/-- THE TIED CARD OF 'assaylaw15.JsonOwn'. -/
def jsonOwnCard : Claim7 := { stood := { row := jsonOwnRow, standIns := [], harness := (true, "40e5ea6813bd4eff4169ee0c01ee58a2f051ecf631ccfa48f17bce98641447ce"), looks := true }, kinds := [], alts := [], laidByText := true, laidKinds := [.data, .data, .data, .sentinel, .sentinel], laidTests := true, laidLooks := .later }
def JsonOwnCardSaid : Prop := Claim7.holds Tryz.pinned (.plain (OpenSpec.ofChange jsonOwnSpec)) jsonOwnCard

/-- THE TIED CARD OF 'assaylaw15.JsonPrints'. -/
def jsonPrintsCard : Claim7 := { stood := { row := jsonPrintsRow, standIns := [], harness := (true, "40e5ea6813bd4eff4169ee0c01ee58a2f051ecf631ccfa48f17bce98641447ce"), looks := true }, kinds := [], alts := [], laidByText := true, laidKinds := [.data, .data, .data, .sentinel, .sentinel], laidTests := true, laidLooks := .later }
def JsonPrintsCardSaid : Prop := Claim7.holds Tryz.pinned (.plain (OpenSpec.ofChange jsonPrintsSpec)) jsonPrintsCard

/-- THE TIED CARD OF 'assaylaw15.JsonReads'. -/
def jsonReadsCard : Claim7 := { stood := { row := jsonReadsRow, standIns := [], harness := (true, "40e5ea6813bd4eff4169ee0c01ee58a2f051ecf631ccfa48f17bce98641447ce"), looks := true }, kinds := [], alts := [], laidByText := true, laidKinds := [.data, .data, .data, .sentinel, .sentinel], laidTests := true, laidLooks := .later }
def JsonReadsCardSaid : Prop := Claim7.holds Tryz.pinned (.plain (OpenSpec.ofChange jsonReadsSpec)) jsonReadsCard

/-- THE SECOND FORM's CARD OF 'assaylaw15.JsonBack'. -/
def jsonBackUptoCard : Claim7 := { stood := { row := jsonBackUptoRow, standIns := [], harness := (true, "40e5ea6813bd4eff4169ee0c01ee58a2f051ecf631ccfa48f17bce98641447ce"), looks := true }, kinds := [], alts := [], laidByText := true, laidKinds := [.data, .data, .data, .sentinel, .sentinel], laidTests := true, laidLooks := .later }
def JsonBackUptoCardSaid : Prop := Claim7.holds Tryz.pinned (.plain (OpenSpec.upto jsonBackSpec)) jsonBackUptoCard

/-- THE SECOND FORM's CARD OF 'assaylaw15.JsonFields'. -/
def jsonFieldsUptoCard : Claim7 := { stood := { row := jsonFieldsUptoRow, standIns := [], harness := (true, "40e5ea6813bd4eff4169ee0c01ee58a2f051ecf631ccfa48f17bce98641447ce"), looks := true }, kinds := [], alts := [], laidByText := true, laidKinds := [.data, .data, .data, .sentinel, .sentinel], laidTests := true, laidLooks := .later }
def JsonFieldsUptoCardSaid : Prop := Claim7.holds Tryz.pinned (.plain (OpenSpec.upto jsonFieldsSpec)) jsonFieldsUptoCard

/-- THE SECOND FORM's CARD OF 'assaylaw15.JsonOwn'. -/
def jsonOwnUptoCard : Claim7 := { stood := { row := jsonOwnUptoRow, standIns := [], harness := (true, "40e5ea6813bd4eff4169ee0c01ee58a2f051ecf631ccfa48f17bce98641447ce"), looks := true }, kinds := [], alts := [], laidByText := true, laidKinds := [.data, .data, .data, .sentinel, .sentinel], laidTests := true, laidLooks := .later }
def JsonOwnUptoCardSaid : Prop := Claim7.holds Tryz.pinned (.plain (OpenSpec.upto jsonOwnSpec)) jsonOwnUptoCard

/-- THE SECOND FORM's CARD OF 'assaylaw15.JsonPrints'. -/
def jsonPrintsUptoCard : Claim7 := { stood := { row := jsonPrintsUptoRow, standIns := [], harness := (true, "40e5ea6813bd4eff4169ee0c01ee58a2f051ecf631ccfa48f17bce98641447ce"), looks := true }, kinds := [], alts := [], laidByText := true, laidKinds := [.data, .data, .data, .sentinel, .sentinel], laidTests := true, laidLooks := .later }
def JsonPrintsUptoCardSaid : Prop := Claim7.holds Tryz.pinned (.plain (OpenSpec.upto jsonPrintsSpec)) jsonPrintsUptoCard

/-- THE SECOND FORM's CARD OF 'assaylaw15.JsonReads'. -/
def jsonReadsUptoCard : Claim7 := { stood := { row := jsonReadsUptoRow, standIns := [], harness := (true, "40e5ea6813bd4eff4169ee0c01ee58a2f051ecf631ccfa48f17bce98641447ce"), looks := true }, kinds := [], alts := [], laidByText := true, laidKinds := [.data, .data, .data, .sentinel, .sentinel], laidTests := true, laidLooks := .later }
def JsonReadsUptoCardSaid : Prop := Claim7.holds Tryz.pinned (.plain (OpenSpec.upto jsonReadsSpec)) jsonReadsUptoCard
end Rows
end Go.Proofs.YtddmmmfpdmejbaaGreatDoor
