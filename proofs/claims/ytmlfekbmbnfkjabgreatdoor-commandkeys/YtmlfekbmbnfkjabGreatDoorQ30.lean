/-
  What the reference's Refuse comes to; a reply held against the reference's; calls held against one another.
-/
import Derived.Test.YtmlfekbmbnfkjabGreatDoorQ20
import Derived.Test.YtmlfekbmbnfkjabGreatDoorQ27
import Derived.Test.YtmlfekbmbnfkjabGreatDoorQ29
namespace Go.Proofs.YtmlfekbmbnfkjabGreatDoor
set_option maxRecDepth 100000
open Go.RowKit

end Go.Proofs.YtmlfekbmbnfkjabGreatDoor

