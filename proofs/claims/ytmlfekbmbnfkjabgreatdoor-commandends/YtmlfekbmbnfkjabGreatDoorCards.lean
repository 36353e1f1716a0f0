/-
  DERIVED. GIVEN WITH THE SEED: THE CARDS: each row of YtmlfekbmbnfkjabGreatDoorRows.lean that lists a variable, with what it lists TIED to the program's text (the seventh form; the later family's looks); each row that meets fmt, with fmt's text TOLD by the authors' own Lean function (tested against real Go, not proved from fmt's source: count such statements apart). THE CARD IS WHAT COUNTS. Prove the row's statement (the work); the ties are given (YtmlfekbmbnfkjabGreatDoorTie.lean); close each card by the builder's one call (the guide's Derived/Test/ToyasCard.lean, 'card_holds'). Laid BY PROGRAM, IN A SANDBOX (cutbox-door.mjs). By AI agents, Wed Nov 11 2026. No macro, syntax, notation, axiom, sorry.
-/
import Derived.Test.YtmlfekbmbnfkjabGreatDoorRows
import GoSem.ClaimSeven
namespace Go.Proofs.YtmlfekbmbnfkjabGreatDoor
namespace Rows

/-- THE TIED CARD OF 'polyphonylaw22.CommandKeys'. -/
def commandKeysCard : Claim7 := { stood := { row := commandKeysRow, standIns := [], harness := (true, "04752c6c6cda1bdef1460beee75041abfcfff51e9f9499f82ef99230797c28fa"), looks := true }, kinds := [], alts := [], laidByText := true, laidKinds := [.data, .data, .data, .sentinel, .sentinel], laidTests := true, laidLooks := .later }
def CommandKeysCardSaid : Prop := Claim7.holds Tryz.pinned (.plain (OpenSpec.ofChange commandKeysSpec)) commandKeysCard

/-- THE TIED CARD OF 'polyphonylaw22.CommandEnds'. -/
def commandEndsCard : Claim7 := { stood := { row := commandEndsRow, standIns := [], harness := (true, "04752c6c6cda1bdef1460beee75041abfcfff51e9f9499f82ef99230797c28fa"), looks := true }, kinds := [], alts := [], laidByText := true, laidKinds := [.data, .data, .data, .sentinel, .sentinel], laidTests := true, laidLooks := .later }
def CommandEndsCardSaid : Prop := Claim7.holds Tryz.pinned (.plain (OpenSpec.ofChange commandEndsSpec)) commandEndsCard

/-- THE SECOND FORM's CARD OF 'polyphonylaw22.CommandKeys'. -/
def commandKeysUptoCard : Claim7 := { stood := { row := commandKeysUptoRow, standIns := [], harness := (true, "04752c6c6cda1bdef1460beee75041abfcfff51e9f9499f82ef99230797c28fa"), looks := true }, kinds := [], alts := [], laidByText := true, laidKinds := [.data, .data, .data, .sentinel, .sentinel], laidTests := true, laidLooks := .later }
def CommandKeysUptoCardSaid : Prop := Claim7.holds Tryz.pinned (.plain (OpenSpec.upto commandKeysSpec)) commandKeysUptoCard

/-- THE SECOND FORM's CARD OF 'polyphonylaw22.CommandEnds'. -/
def commandEndsUptoCard : Claim7 := { stood := { row := commandEndsUptoRow, standIns := [], harness := (true, "04752c6c6cda1bdef1460beee75041abfcfff51e9f9499f82ef99230797c28fa"), looks := true }, kinds := [], alts := [], laidByText := true, laidKinds := [.data, .data, .data, .sentinel, .sentinel], laidTests := true, laidLooks := .later }
def CommandEndsUptoCardSaid : Prop := Claim7.holds Tryz.pinned (.plain (OpenSpec.upto commandEndsSpec)) commandEndsUptoCard
end Rows
end Go.Proofs.YtmlfekbmbnfkjabGreatDoor
