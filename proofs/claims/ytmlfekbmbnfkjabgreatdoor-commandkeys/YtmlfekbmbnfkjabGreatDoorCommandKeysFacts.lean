/-
  Closed facts on the row of CommandKeys, each by itself.
-/
import Derived.Test.YtmlfekbmbnfkjabGreatDoorRows
import Derived.ProofKit
import Derived.JoinedOf
import Derived.SevenTiedAt
namespace Go.Proofs.YtmlfekbmbnfkjabGreatDoor.commandKeys
open Go
theorem k_inplace : (Rows.commandKeysRow.inPlace == Tryz.prog.inPlace 3) = true := by kernel_rfl
theorem k_unfollowed : (Rows.commandKeysRow.unfollowed == Tryz.prog.unfollowed 3) = true := by kernel_rfl
theorem k_recurses : (Rows.commandKeysRow.recurses == Tryz.prog.recurses 3) = true := by kernel_rfl
theorem k_named : (Rows.commandKeysRow.named == Tryz.prog.varsNamed 3) = true := by kernel_rfl
theorem k_lifted : (Rows.commandKeysRow.lifted == Tryz.prog.liftsFinal) = true := by kernel_rfl
theorem k_make : (Tryz.prog.make == some Rows.commandKeysRow.make) = true := by kernel_rfl
theorem funcNamed : Tryz.prog.funcNamed Rows.commandKeysRow.func = some 3 := by kernel_rfl
theorem k_wf : Rows.commandKeysRow.wfByText (OpenSpec.ofChange Rows.commandKeysSpec) = true := by kernel_rfl
theorem k_main : Tryz.prog.mainIs = some ((true, "04752c6c6cda1bdef1460beee75041abfcfff51e9f9499f82ef99230797c28fa").1, ((true, "04752c6c6cda1bdef1460beee75041abfcfff51e9f9499f82ef99230797c28fa") : Bool × String).2.toList) := by kernel_rfl
theorem k_looks : true = Tryz.prog.looks [] := by kernel_rfl
theorem k_goes : false = Rows.commandKeysRow.goesBy Tryz.prog := by kernel_rfl
theorem k_stand : ([22, 9].all fun u => !Tryz.prog.wantsStandIn u) = true := by kernel_rfl
end Go.Proofs.YtmlfekbmbnfkjabGreatDoor.commandKeys
