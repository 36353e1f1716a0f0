/-
  Whether a kind adds, whether an event covers another one, which one is later: the program's answers and the reference's.
-/
import Derived.Test.YteanpepmncgagaaEvt
import Derived.Test.YteanpepmncgagaaHas
namespace Go.Proofs.Yteanpepmncgagaa
set_option maxRecDepth 100000
set_option maxRecDepth 100000
open Go.RowKit

def coversE (b a : Ev) : Bool := hasv b.deps a.r a.n
theorem later_iff (b a : Ev) : laterE b a = true ↔ a.t < b.t ∨ (a.t = b.t ∧ (a.r < b.r ∨ (a.r = b.r ∧ a.n < b.n))) := by
  unfold laterE
  split
  · rw [decide_eq_true_iff]; omega
  · split <;> rw [decide_eq_true_iff] <;> omega
theorem later_self (a : Ev) : laterE a a = false := by
  rw [Bool.eq_false_iff, ne_eq, later_iff]; omega
theorem later_trans {a b c : Ev} (h1 : laterE b a = true) (h2 : laterE c b = true) : laterE c a = true := by
  rw [later_iff] at *; omega
theorem later_both {a b : Ev} (h1 : laterE b a = true) (h2 : laterE a b = true) : False := by
  rw [later_iff] at *; omega
theorem later_none {a b : Ev} (h1 : laterE b a = false) (h2 : laterE a b = false) : a.r = b.r ∧ a.n = b.n := by
  rw [Bool.eq_false_iff, ne_eq, later_iff] at *; omega
end Go.Proofs.Yteanpepmncgagaa
