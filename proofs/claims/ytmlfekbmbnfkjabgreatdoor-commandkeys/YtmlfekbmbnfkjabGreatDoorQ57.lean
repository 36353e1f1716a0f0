/-
  What cmp.Compare of texts comes to.
-/
import Derived.Test.YtmlfekbmbnfkjabGreatDoorQ56
import Derived.Test.YtmlfekbmbnfkjabGreatDoorQ21
import Derived.Sort.Walk0
namespace Go.Proofs.YtmlfekbmbnfkjabGreatDoor
set_option maxRecDepth 100000
namespace T15
set_option maxRecDepth 100000
open Go.RowKit Go.Sort

end T15
end Go.Proofs.YtmlfekbmbnfkjabGreatDoor

