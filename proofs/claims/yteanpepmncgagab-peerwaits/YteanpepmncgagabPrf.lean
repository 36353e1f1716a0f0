/-
  What the reference's For and Trim come to.
-/
import Derived.Test.YteanpepmncgagabPtr
namespace Go.Proofs.Yteanpepmncgagab
set_option maxRecDepth 100000
open Go.RowKit

end Go.Proofs.Yteanpepmncgagab
