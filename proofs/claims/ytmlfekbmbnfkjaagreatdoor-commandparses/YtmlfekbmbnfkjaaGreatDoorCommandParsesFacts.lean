/-
  Closed facts on the row of CommandParses, each by itself.
-/
import Derived.Test.YtmlfekbmbnfkjaaGreatDoorRows
import Derived.ProofKit
import Derived.JoinedOf
import Derived.SevenTiedAt
namespace Go.Proofs.YtmlfekbmbnfkjaaGreatDoor.commandParses
open Go
theorem k_inplace : (Rows.commandParsesRow.inPlace == Tryz.prog.inPlace 3) = true := by kernel_rfl
theorem k_unfollowed : (Rows.commandParsesRow.unfollowed == Tryz.prog.unfollowed 3) = true := by kernel_rfl
theorem k_recurses : (Rows.commandParsesRow.recurses == Tryz.prog.recurses 3) = true := by kernel_rfl
theorem k_named : (Rows.commandParsesRow.named == Tryz.prog.varsNamed 3) = true := by kernel_rfl
theorem funcNamed : Tryz.prog.funcNamed Rows.commandParsesRow.func = some 3 := by kernel_rfl
theorem k_wf : Rows.commandParsesRow.wfByText (OpenSpec.ofChange Rows.commandParsesSpec) = true := by kernel_rfl
theorem k_main : Tryz.prog.mainIs = some ((true, "517f5b2d74ec388884ff19a7b736ece0d0da115f781fce18748e9b557a5f76b9").1, ((true, "517f5b2d74ec388884ff19a7b736ece0d0da115f781fce18748e9b557a5f76b9") : Bool × String).2.toList) := by kernel_rfl
theorem k_looks : true = Tryz.prog.looks [] := by kernel_rfl
theorem k_goes : false = Rows.commandParsesRow.goesBy Tryz.prog := by kernel_rfl
theorem k_stand : ([22, 3].all fun u => !Tryz.prog.wantsStandIn u) = true := by kernel_rfl
end Go.Proofs.YtmlfekbmbnfkjaaGreatDoor.commandParses
