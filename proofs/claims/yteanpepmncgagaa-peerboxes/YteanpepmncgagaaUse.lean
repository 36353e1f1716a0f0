/-
  What a kind uses, whether it is one, whether it adds; whether a number may be: the program's answers and the reference's.
-/
import Derived.Test.YteanpepmncgagaaEvm
import Derived.Test.YteanpepmncgagaaEcv
import Derived.Test.YteanpepmncgagaaEvn
import Derived.Test.YteanpepmncgagaaEvt
namespace Go.Proofs.Yteanpepmncgagaa
set_option maxRecDepth 100000
open Go.RowKit

def iskindE (k : Int) : Bool := decide (1 ≤ k ∧ k ≤ 11)
def numE (n : Int) : Bool := decide (-1099511627776 ≤ n ∧ n ≤ 1099511627776)

theorem ret_of {b c : Bool} {w : World} (h : c = b) : Ending.returned (.bool b) = .returned (.bool c) ∧ w = w := by rw [h]; exact ⟨rfl, rfl⟩

section
variable (k : Int) (w : World)
end
end Go.Proofs.Yteanpepmncgagaa
