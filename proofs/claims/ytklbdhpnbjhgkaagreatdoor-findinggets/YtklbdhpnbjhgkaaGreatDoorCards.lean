/-
  DERIVED. GIVEN WITH THE SEED: THE CARDS: each row of YtklbdhpnbjhgkaaGreatDoorRows.lean that lists a variable, with what it lists TIED to the program's text (the seventh form; the later family's looks); each row that meets fmt, with fmt's text TOLD by the authors' own Lean function (tested against real Go, not proved from fmt's source: count such statements apart). THE CARD IS WHAT COUNTS. Prove the row's statement (the work); the ties are given (YtklbdhpnbjhgkaaGreatDoorTie.lean); close each card by the builder's one call (the guide's Derived/Test/ToyasCard.lean, 'card_holds'). Laid BY PROGRAM, IN A SANDBOX (cutbox-door.mjs). By AI agents, Wed Nov 11 2026. No macro, syntax, notation, axiom, sorry.
-/
import Derived.Test.YtklbdhpnbjhgkaaGreatDoorRows
import GoSem.ClaimSeven
namespace Go.Proofs.YtklbdhpnbjhgkaaGreatDoor
namespace Rows

/-- THE TIED CARD OF 'assaylaw22.FindingSorts'. -/
def findingSortsCard : Claim7 := { stood := { row := findingSortsRow, standIns := [], harness := (true, "a9d38703c1ead1d01bcc01995b462ec8b524ef3255aad77477dfe057fd3cea38"), looks := true }, kinds := [], alts := [], laidByText := true, laidKinds := [.data, .data, .data, .handle], laidTests := true, laidLooks := .later }
def FindingSortsCardSaid : Prop := Claim7.holds Tryz.pinned (.plain (OpenSpec.ofChange findingSortsSpec)) findingSortsCard

/-- THE TIED CARD OF 'assaylaw22.FindingBack'. -/
def findingBackCard : Claim7 := { stood := { row := findingBackRow, standIns := [], harness := (true, "a9d38703c1ead1d01bcc01995b462ec8b524ef3255aad77477dfe057fd3cea38"), looks := true }, kinds := [], alts := [], laidByText := true, laidKinds := [.data, .data, .data, .handle], laidTests := true, laidLooks := .later }
def FindingBackCardSaid : Prop := Claim7.holds Tryz.pinned (.plain (OpenSpec.ofChange findingBackSpec)) findingBackCard

/-- THE TIED CARD OF 'assaylaw22.FindingPuts'. -/
def findingPutsCard : Claim7 := { stood := { row := findingPutsRow, standIns := [], harness := (true, "a9d38703c1ead1d01bcc01995b462ec8b524ef3255aad77477dfe057fd3cea38"), looks := true }, kinds := [], alts := [], laidByText := true, laidKinds := [.data, .data, .data, .handle], laidTests := true, laidLooks := .later }
def FindingPutsCardSaid : Prop := Claim7.holds Tryz.pinned (.plain (OpenSpec.ofChange findingPutsSpec)) findingPutsCard

/-- THE TIED CARD OF 'assaylaw22.FindingGets'. -/
def findingGetsCard : Claim7 := { stood := { row := findingGetsRow, standIns := [], harness := (true, "a9d38703c1ead1d01bcc01995b462ec8b524ef3255aad77477dfe057fd3cea38"), looks := true }, kinds := [], alts := [], laidByText := true, laidKinds := [.data, .data, .data, .handle], laidTests := true, laidLooks := .later }
def FindingGetsCardSaid : Prop := Claim7.holds Tryz.pinned (.plain (OpenSpec.ofChange findingGetsSpec)) findingGetsCard

/-- THE SECOND FORM's CARD OF 'assaylaw22.FindingSorts'. -/
def findingSortsUptoCard : Claim7 := { stood := { row := findingSortsUptoRow, standIns := [], harness := (true, "a9d38703c1ead1d01bcc01995b462ec8b524ef3255aad77477dfe057fd3cea38"), looks := true }, kinds := [], alts := [], laidByText := true, laidKinds := [.data, .data, .data, .handle], laidTests := true, laidLooks := .later }
def FindingSortsUptoCardSaid : Prop := Claim7.holds Tryz.pinned (.plain (OpenSpec.upto findingSortsSpec)) findingSortsUptoCard

/-- THE SECOND FORM's CARD OF 'assaylaw22.FindingBack'. -/
def findingBackUptoCard : Claim7 := { stood := { row := findingBackUptoRow, standIns := [], harness := (true, "a9d38703c1ead1d01bcc01995b462ec8b524ef3255aad77477dfe057fd3cea38"), looks := true }, kinds := [], alts := [], laidByText := true, laidKinds := [.data, .data, .data, .handle], laidTests := true, laidLooks := .later }
def FindingBackUptoCardSaid : Prop := Claim7.holds Tryz.pinned (.plain (OpenSpec.upto findingBackSpec)) findingBackUptoCard

/-- THE SECOND FORM's CARD OF 'assaylaw22.FindingPuts'. -/
def findingPutsUptoCard : Claim7 := { stood := { row := findingPutsUptoRow, standIns := [], harness := (true, "a9d38703c1ead1d01bcc01995b462ec8b524ef3255aad77477dfe057fd3cea38"), looks := true }, kinds := [], alts := [], laidByText := true, laidKinds := [.data, .data, .data, .handle], laidTests := true, laidLooks := .later }
def FindingPutsUptoCardSaid : Prop := Claim7.holds Tryz.pinned (.plain (OpenSpec.upto findingPutsSpec)) findingPutsUptoCard

/-- THE SECOND FORM's CARD OF 'assaylaw22.FindingGets'. -/
def findingGetsUptoCard : Claim7 := { stood := { row := findingGetsUptoRow, standIns := [], harness := (true, "a9d38703c1ead1d01bcc01995b462ec8b524ef3255aad77477dfe057fd3cea38"), looks := true }, kinds := [], alts := [], laidByText := true, laidKinds := [.data, .data, .data, .handle], laidTests := true, laidLooks := .later }
def FindingGetsUptoCardSaid : Prop := Claim7.holds Tryz.pinned (.plain (OpenSpec.upto findingGetsSpec)) findingGetsUptoCard
end Rows
end Go.Proofs.YtklbdhpnbjhgkaaGreatDoor
