/-
  Lists of bytes in memory, and texts: how they lie there, and what the two conversions come to.
-/
import Derived.Test.YthdhnilfkpbmpaaSpn
import Derived.Test.YthdhnilfkpbmpaaCnv
import Derived.Test.YthdhnilfkpbmpaaDbl
import Derived.Laws.IdiomStrings
namespace Go.Proofs.Ythdhnilfkpbmpaa
set_option maxRecDepth 100000

open Go.RowKit

end Go.Proofs.Ythdhnilfkpbmpaa
