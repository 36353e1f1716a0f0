/-
  What vec.isReplica, vec.rightDot and the reference's Dot come to: whether a number is a replica's, whether a dot can be.
-/
import Derived.Test.YtmacebekodndjaaRvl
namespace Go.Proofs.Ytmacebekodndjaa
open Go.RowKit

def isrep (r : Int) : Bool := decide (0 ≤ r ∧ r < 16)
/-- Can a dot be? -/
def okdot (r n : Int) : Bool := decide (0 ≤ r ∧ r < 16 ∧ 1 ≤ n ∧ n ≤ 1048576)

end Go.Proofs.Ytmacebekodndjaa
