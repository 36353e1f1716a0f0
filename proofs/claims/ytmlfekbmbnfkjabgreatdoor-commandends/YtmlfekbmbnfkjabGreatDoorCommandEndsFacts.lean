/-
  Closed facts on the row of CommandEnds, each by itself.
-/
import Derived.Test.YtmlfekbmbnfkjabGreatDoorRows
import Derived.ProofKit
import Derived.JoinedOf
import Derived.SevenTiedAt
namespace Go.Proofs.YtmlfekbmbnfkjabGreatDoor.commandEnds
open Go
theorem k_inplace : (Rows.commandEndsRow.inPlace == Tryz.prog.inPlace 4) = true := by kernel_rfl
theorem k_unfollowed : (Rows.commandEndsRow.unfollowed == Tryz.prog.unfollowed 4) = true := by kernel_rfl
theorem k_recurses : (Rows.commandEndsRow.recurses == Tryz.prog.recurses 4) = true := by kernel_rfl
theorem k_named : (Rows.commandEndsRow.named == Tryz.prog.varsNamed 4) = true := by kernel_rfl
theorem k_lifted : (Rows.commandEndsRow.lifted == Tryz.prog.liftsFinal) = true := by kernel_rfl
theorem k_make : (Tryz.prog.make == some Rows.commandEndsRow.make) = true := by kernel_rfl
theorem funcNamed : Tryz.prog.funcNamed Rows.commandEndsRow.func = some 4 := by kernel_rfl
theorem k_wf : Rows.commandEndsRow.wfByText (OpenSpec.ofChange Rows.commandEndsSpec) = true := by kernel_rfl
theorem k_main : Tryz.prog.mainIs = some ((true, "04752c6c6cda1bdef1460beee75041abfcfff51e9f9499f82ef99230797c28fa").1, ((true, "04752c6c6cda1bdef1460beee75041abfcfff51e9f9499f82ef99230797c28fa") : Bool × String).2.toList) := by kernel_rfl
theorem k_looks : true = Tryz.prog.looks [] := by kernel_rfl
theorem k_goes : false = Rows.commandEndsRow.goesBy Tryz.prog := by kernel_rfl
theorem k_stand : ([22, 9].all fun u => !Tryz.prog.wantsStandIn u) = true := by kernel_rfl
end Go.Proofs.YtmlfekbmbnfkjabGreatDoor.commandEnds
