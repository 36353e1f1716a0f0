/-
  Where the functions and types of slices.Sort of texts stand in this program.
-/
import Derived.Test.YtmlfekbmbnfkjabGreatDoorProg
import Derived.Shelf.Slices.In.SortNone
namespace Go.Proofs.YtmlfekbmbnfkjabGreatDoor
set_option maxRecDepth 100000

end Go.Proofs.YtmlfekbmbnfkjabGreatDoor

