/-
  Closed facts on the program, each by itself (together they outgrow the lid on memory).
-/
import Derived.Test.YtmlfekbmbnfkjabGreatDoorRows
import Derived.ProofKit
import Derived.JoinedOf
import Derived.SevenTiedAt
namespace Go.Proofs.YtmlfekbmbnfkjabGreatDoor.SFacts
open Go
theorem laidOut : laidOutB Tryz.prog = true := by kernel_rfl
theorem mapsrowed : mapsRowed Tryz.prog = true := by kernel_rfl
theorem heard : Tryz.prog.stopsHeard = true := by kernel_rfl
theorem may : Tryz.prog.mayEnter = true := by kernel_rfl
end Go.Proofs.YtmlfekbmbnfkjabGreatDoor.SFacts
