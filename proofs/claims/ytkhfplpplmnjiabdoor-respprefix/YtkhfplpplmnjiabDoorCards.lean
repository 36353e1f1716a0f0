/-
  DERIVED. GIVEN WITH THE SEED: THE CARDS: each row of YtkhfplpplmnjiabDoorRows.lean that lists a variable, with what it lists TIED to the program's text (the seventh form; the later family's looks); each row that meets fmt, with fmt's text TOLD by the authors' own Lean function (tested against real Go, not proved from fmt's source: count such statements apart). THE CARD IS WHAT COUNTS. Prove the row's statement (the work); the ties are given (YtkhfplpplmnjiabDoorTie.lean); close each card by the builder's one call (the guide's Derived/Test/ToyasCard.lean, 'card_holds'). Laid BY PROGRAM, IN A SANDBOX (cutbox-door.mjs). By AI agents, Wed Nov 11 2026. No macro, syntax, notation, axiom, sorry.
-/
import Derived.Test.YtkhfplpplmnjiabDoorRows
import GoSem.ClaimSeven
namespace Go.Proofs.YtkhfplpplmnjiabDoor
namespace Rows

/-- THE TIED CARD OF 'polyphonylaw21.RespPrefix'. -/
def respPrefixCard : Claim7 := { stood := { row := respPrefixRow, standIns := [], harness := (true, "e6b228108e561d37aac17901da5183b2eebb34e46cf81276ba78e0b1768446b8"), looks := false }, kinds := [], alts := [], laidByText := true, laidKinds := [.data, .data, .data], laidTests := true, laidLooks := .later }
def RespPrefixCardSaid : Prop := Claim7.holds Tryd.pinned (.plain (OpenSpec.ofChange respPrefixSpec)) respPrefixCard

/-- THE SECOND FORM's CARD OF 'polyphonylaw21.RespPrefix'. -/
def respPrefixUptoCard : Claim7 := { stood := { row := respPrefixUptoRow, standIns := [], harness := (true, "e6b228108e561d37aac17901da5183b2eebb34e46cf81276ba78e0b1768446b8"), looks := false }, kinds := [], alts := [], laidByText := true, laidKinds := [.data, .data, .data], laidTests := true, laidLooks := .later }
def RespPrefixUptoCardSaid : Prop := Claim7.holds Tryd.pinned (.plain (OpenSpec.upto respPrefixSpec)) respPrefixUptoCard
end Rows
end Go.Proofs.YtkhfplpplmnjiabDoor
