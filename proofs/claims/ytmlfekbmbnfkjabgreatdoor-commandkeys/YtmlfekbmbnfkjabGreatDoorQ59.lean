/-
  What slices.SortFunc of pairs comes to.
-/
import Derived.Test.YtmlfekbmbnfkjabGreatDoorQ58
import Derived.Test.YtmlfekbmbnfkjabGreatDoorQ39
import Derived.Shelf.SlSortCmp.NoneTotal
import Derived.Test.YtmlfekbmbnfkjabGreatDoorQ56
namespace Go.Proofs.YtmlfekbmbnfkjabGreatDoor
set_option maxRecDepth 100000
namespace T15
set_option maxRecDepth 100000
open Go.RowKit Go.Sort

end T15
end Go.Proofs.YtmlfekbmbnfkjabGreatDoor

/-
  What score's All and Rank come to.
-/
namespace Go.Proofs.YtmlfekbmbnfkjabGreatDoor
set_option maxRecDepth 100000
namespace T15
set_option maxRecDepth 100000
open Go.RowKit Go.Maps Go.WideMaps Go.Sort

end T15
end Go.Proofs.YtmlfekbmbnfkjabGreatDoor

