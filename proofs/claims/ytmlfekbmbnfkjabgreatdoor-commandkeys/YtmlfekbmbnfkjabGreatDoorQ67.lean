/-
  What the row of CommandKeys takes.
-/
import Derived.Test.YtmlfekbmbnfkjabGreatDoorQ65
import Derived.Test.YtmlfekbmbnfkjabGreatDoorQ66
namespace Go.Proofs.YtmlfekbmbnfkjabGreatDoor
set_option maxRecDepth 100000
end Go.Proofs.YtmlfekbmbnfkjabGreatDoor

