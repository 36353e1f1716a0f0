/-
  What a nil space tells of a key.
-/
import Derived.Test.YtmlfekbmbnfkjabGreatDoorQ53
import Derived.Test.YtmlfekbmbnfkjabGreatDoorQ19
namespace Go.Proofs.YtmlfekbmbnfkjabGreatDoor
set_option maxRecDepth 100000
open Go.RowKit Go.Shelf

end Go.Proofs.YtmlfekbmbnfkjabGreatDoor

