/-
  DERIVED. GIVEN WITH THE SEED: THE CARDS: each row of YtmlfekbmbnfkjaaGreatDoorRows.lean that lists a variable, with what it lists TIED to the program's text (the seventh form; the later family's looks); each row that meets fmt, with fmt's text TOLD by the authors' own Lean function (tested against real Go, not proved from fmt's source: count such statements apart). THE CARD IS WHAT COUNTS. Prove the row's statement (the work); the ties are given (YtmlfekbmbnfkjaaGreatDoorTie.lean); close each card by the builder's one call (the guide's Derived/Test/ToyasCard.lean, 'card_holds'). Laid BY PROGRAM, IN A SANDBOX (cutbox-door.mjs). By AI agents, Wed Nov 11 2026. No macro, syntax, notation, axiom, sorry.
-/
import Derived.Test.YtmlfekbmbnfkjaaGreatDoorRows
import GoSem.ClaimSeven
namespace Go.Proofs.YtmlfekbmbnfkjaaGreatDoor
namespace Rows

/-- THE TIED CARD OF 'polyphonylaw22.CommandParses'. -/
def commandParsesCard : Claim7 := { stood := { row := commandParsesRow, standIns := [], harness := (true, "517f5b2d74ec388884ff19a7b736ece0d0da115f781fce18748e9b557a5f76b9"), looks := true }, kinds := [], alts := [], laidByText := true, laidKinds := [.data, .data, .data, .sentinel, .sentinel], laidTests := true, laidLooks := .later }
def CommandParsesCardSaid : Prop := Claim7.holds Tryz.pinned (.plain (OpenSpec.ofChange commandParsesSpec)) commandParsesCard

/-- THE TIED CARD OF 'polyphonylaw22.CommandPlans'. -/
def commandPlansCard : Claim7 := { stood := { row := commandPlansRow, standIns := [], harness := (true, "517f5b2d74ec388884ff19a7b736ece0d0da115f781fce18748e9b557a5f76b9"), looks := true }, kinds := [], alts := [], laidByText := true, laidKinds := [.data, .data, .data, .sentinel, .sentinel], laidTests := true, laidLooks := .later }
def CommandPlansCardSaid : Prop := Claim7.holds Tryz.pinned (.plain (OpenSpec.ofChange commandPlansSpec)) commandPlansCard

/-- THE TIED CARD OF 'polyphonylaw22.CommandRights'. -/
def commandRightsCard : Claim7 := { stood := { row := commandRightsRow, standIns := [], harness := (true, "517f5b2d74ec388884ff19a7b736ece0d0da115f781fce18748e9b557a5f76b9"), looks := true }, kinds := [], alts := [], laidByText := true, laidKinds := [.data, .data, .data, .sentinel, .sentinel], laidTests := true, laidLooks := .later }
def CommandRightsCardSaid : Prop := Claim7.holds Tryz.pinned (.plain (OpenSpec.ofChange commandRightsSpec)) commandRightsCard

/-- THE TIED CARD OF 'polyphonylaw22.CommandReads'. -/
def commandReadsCard : Claim7 := { stood := { row := commandReadsRow, standIns := [], harness := (true, "517f5b2d74ec388884ff19a7b736ece0d0da115f781fce18748e9b557a5f76b9"), looks := true }, kinds := [], alts := [], laidByText := true, laidKinds := [.data, .data, .data, .sentinel, .sentinel], laidTests := true, laidLooks := .later }
def CommandReadsCardSaid : Prop := Claim7.holds Tryz.pinned (.plain (OpenSpec.ofChange commandReadsSpec)) commandReadsCard

/-- THE TIED CARD OF 'polyphonylaw22.CommandNames'. -/
def commandNamesCard : Claim7 := { stood := { row := commandNamesRow, standIns := [], harness := (true, "517f5b2d74ec388884ff19a7b736ece0d0da115f781fce18748e9b557a5f76b9"), looks := true }, kinds := [], alts := [], laidByText := true, laidKinds := [.data, .data, .data, .sentinel, .sentinel], laidTests := true, laidLooks := .later }
def CommandNamesCardSaid : Prop := Claim7.holds Tryz.pinned (.plain (OpenSpec.ofChange commandNamesSpec)) commandNamesCard

/-- THE TIED CARD OF 'polyphonylaw22.CommandNil'. -/
def commandNilCard : Claim7 := { stood := { row := commandNilRow, standIns := [], harness := (true, "517f5b2d74ec388884ff19a7b736ece0d0da115f781fce18748e9b557a5f76b9"), looks := true }, kinds := [], alts := [], laidByText := true, laidKinds := [.data, .data, .data, .sentinel, .sentinel], laidTests := true, laidLooks := .later }
def CommandNilCardSaid : Prop := Claim7.holds Tryz.pinned (.plain (OpenSpec.ofChange commandNilSpec)) commandNilCard

/-- THE SECOND FORM's CARD OF 'polyphonylaw22.CommandParses'. -/
def commandParsesUptoCard : Claim7 := { stood := { row := commandParsesUptoRow, standIns := [], harness := (true, "517f5b2d74ec388884ff19a7b736ece0d0da115f781fce18748e9b557a5f76b9"), looks := true }, kinds := [], alts := [], laidByText := true, laidKinds := [.data, .data, .data, .sentinel, .sentinel], laidTests := true, laidLooks := .later }
def CommandParsesUptoCardSaid : Prop := Claim7.holds Tryz.pinned (.plain (OpenSpec.upto commandParsesSpec)) commandParsesUptoCard

/-- THE SECOND FORM's CARD OF 'polyphonylaw22.CommandPlans'. -/
def commandPlansUptoCard : Claim7 := { stood := { row := commandPlansUptoRow, standIns := [], harness := (true, "517f5b2d74ec388884ff19a7b736ece0d0da115f781fce18748e9b557a5f76b9"), looks := true }, kinds := [], alts := [], laidByText := true, laidKinds := [.data, .data, .data, .sentinel, .sentinel], laidTests := true, laidLooks := .later }
def CommandPlansUptoCardSaid : Prop := Claim7.holds Tryz.pinned (.plain (OpenSpec.upto commandPlansSpec)) commandPlansUptoCard

/-- THE SECOND FORM's CARD OF 'polyphonylaw22.CommandRights'. -/
def commandRightsUptoCard : Claim7 := { stood := { row := commandRightsUptoRow, standIns := [], harness := (true, "517f5b2d74ec388884ff19a7b736ece0d0da115f781fce18748e9b557a5f76b9"), looks := true }, kinds := [], alts := [], laidByText := true, laidKinds := [.data, .data, .data, .sentinel, .sentinel], laidTests := true, laidLooks := .later }
def CommandRightsUptoCardSaid : Prop := Claim7.holds Tryz.pinned (.plain (OpenSpec.upto commandRightsSpec)) commandRightsUptoCard

/-- THE SECOND FORM's CARD OF 'polyphonylaw22.CommandReads'. -/
def commandReadsUptoCard : Claim7 := { stood := { row := commandReadsUptoRow, standIns := [], harness := (true, "517f5b2d74ec388884ff19a7b736ece0d0da115f781fce18748e9b557a5f76b9"), looks := true }, kinds := [], alts := [], laidByText := true, laidKinds := [.data, .data, .data, .sentinel, .sentinel], laidTests := true, laidLooks := .later }
def CommandReadsUptoCardSaid : Prop := Claim7.holds Tryz.pinned (.plain (OpenSpec.upto commandReadsSpec)) commandReadsUptoCard

/-- THE SECOND FORM's CARD OF 'polyphonylaw22.CommandNames'. -/
def commandNamesUptoCard : Claim7 := { stood := { row := commandNamesUptoRow, standIns := [], harness := (true, "517f5b2d74ec388884ff19a7b736ece0d0da115f781fce18748e9b557a5f76b9"), looks := true }, kinds := [], alts := [], laidByText := true, laidKinds := [.data, .data, .data, .sentinel, .sentinel], laidTests := true, laidLooks := .later }
def CommandNamesUptoCardSaid : Prop := Claim7.holds Tryz.pinned (.plain (OpenSpec.upto commandNamesSpec)) commandNamesUptoCard

/-- THE SECOND FORM's CARD OF 'polyphonylaw22.CommandNil'. -/
def commandNilUptoCard : Claim7 := { stood := { row := commandNilUptoRow, standIns := [], harness := (true, "517f5b2d74ec388884ff19a7b736ece0d0da115f781fce18748e9b557a5f76b9"), looks := true }, kinds := [], alts := [], laidByText := true, laidKinds := [.data, .data, .data, .sentinel, .sentinel], laidTests := true, laidLooks := .later }
def CommandNilUptoCardSaid : Prop := Claim7.holds Tryz.pinned (.plain (OpenSpec.upto commandNilSpec)) commandNilUptoCard
end Rows
end Go.Proofs.YtmlfekbmbnfkjaaGreatDoor
