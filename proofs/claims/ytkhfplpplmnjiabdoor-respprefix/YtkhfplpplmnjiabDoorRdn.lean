/-
  What the reference's Digits comes to at any number; its line and bulk.
-/
import Derived.Test.YtkhfplpplmnjiabDoorRdg
namespace Go.Proofs.YtkhfplpplmnjiabDoor
set_option maxRecDepth 100000
open Go.RowKit Go.Sort

theorem cat3 (a b c : List UInt8) : tx a ++ tx b ++ tx c = tx (a ++ b ++ c) := by rw [tx_app, tx_app]

end Go.Proofs.YtkhfplpplmnjiabDoor
