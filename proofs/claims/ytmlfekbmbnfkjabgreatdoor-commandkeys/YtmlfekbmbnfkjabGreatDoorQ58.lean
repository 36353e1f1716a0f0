/-
  What the function comes to by which score's All puts pairs in order.
-/
import Derived.Test.YtmlfekbmbnfkjabGreatDoorQ57
import Derived.Deep.RegionHeld3
import Derived.Sort.Grow
import Derived.Shelf.SlSortCmp.Insertion
namespace Go.Proofs.YtmlfekbmbnfkjabGreatDoor
set_option maxRecDepth 100000
namespace T15
set_option maxRecDepth 100000
open Go.RowKit Go.Sort

/-! The order of pairs. -/
end T15
end Go.Proofs.YtmlfekbmbnfkjabGreatDoor

