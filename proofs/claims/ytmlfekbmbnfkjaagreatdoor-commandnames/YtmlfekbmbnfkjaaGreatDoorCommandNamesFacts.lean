/-
  Closed facts on the row of CommandNames, each by itself.
-/
import Derived.Test.YtmlfekbmbnfkjaaGreatDoorRows
import Derived.ProofKit
import Derived.JoinedOf
import Derived.SevenTiedAt
namespace Go.Proofs.YtmlfekbmbnfkjaaGreatDoor.commandNames
open Go
theorem k_inplace : (Rows.commandNamesRow.inPlace == Tryz.prog.inPlace 7) = true := by kernel_rfl
theorem k_unfollowed : (Rows.commandNamesRow.unfollowed == Tryz.prog.unfollowed 7) = true := by kernel_rfl
theorem k_recurses : (Rows.commandNamesRow.recurses == Tryz.prog.recurses 7) = true := by kernel_rfl
theorem k_named : (Rows.commandNamesRow.named == Tryz.prog.varsNamed 7) = true := by kernel_rfl
theorem k_lifted : (Rows.commandNamesRow.lifted == Tryz.prog.liftsFinal) = true := by kernel_rfl
theorem k_make : (Tryz.prog.make == some Rows.commandNamesRow.make) = true := by kernel_rfl
theorem funcNamed : Tryz.prog.funcNamed Rows.commandNamesRow.func = some 7 := by kernel_rfl
theorem k_wf : Rows.commandNamesRow.wfByText (OpenSpec.ofChange Rows.commandNamesSpec) = true := by kernel_rfl
theorem k_main : Tryz.prog.mainIs = some ((true, "517f5b2d74ec388884ff19a7b736ece0d0da115f781fce18748e9b557a5f76b9").1, ((true, "517f5b2d74ec388884ff19a7b736ece0d0da115f781fce18748e9b557a5f76b9") : Bool × String).2.toList) := by kernel_rfl
theorem k_looks : true = Tryz.prog.looks [] := by kernel_rfl
theorem k_goes : false = Rows.commandNamesRow.goesBy Tryz.prog := by kernel_rfl
theorem k_stand : ([22, 55].all fun u => !Tryz.prog.wantsStandIn u) = true := by kernel_rfl
end Go.Proofs.YtmlfekbmbnfkjaaGreatDoor.commandNames
