/-
  What the row of CommandNames takes.
-/
import Derived.Test.YtmlfekbmbnfkjaaGreatDoorQ35
import Derived.Test.YtmlfekbmbnfkjaaGreatDoorQ36
import Derived.Test.YtmlfekbmbnfkjaaGreatDoorQ25
namespace Go.Proofs.YtmlfekbmbnfkjaaGreatDoor
set_option maxRecDepth 100000
end Go.Proofs.YtmlfekbmbnfkjaaGreatDoor

