/-
  What lists of nothing come to: sorted, gathered, told.
-/
import Derived.Test.YtmlfekbmbnfkjabGreatDoorQ09
import Derived.Laws.IdiomRangeMap
namespace Go.Proofs.YtmlfekbmbnfkjabGreatDoor
set_option maxRecDepth 100000
open Go.RowKit

end Go.Proofs.YtmlfekbmbnfkjabGreatDoor

