/-
  What vec.Has and the reference's Has come to: whether the dot can be, and its number is at most that of its replica.
-/
import Derived.Test.YtmacebekodndjaaDot
namespace Go.Proofs.Ytmacebekodndjaa
open Go.RowKit
set_option maxRecDepth 100000

/-- Has the vector the dot? -/
def hasv (v : List Int) (r n : Int) : Bool := okdot r n && decide (n ≤ v.getD r.toNat 0)

theorem okcall {f : FuncId} {as' : Array Value} {W : World} {b c : Bool} (h : Calls Try.prog f as' W fun e w' => e = .returned (.bool b) ∧ Below W.heap.size W w') (hb : b = c) :
    Calls Try.prog f as' W fun e w' => e = .returned (.bool c) ∧ Below W.heap.size W w' := by rw [← hb]; exact h

theorem boxedVD (w : World) (v : List Int) (r n : Int) :
    Lies ((w.alloc (.cells (vals v) 39)).alloc (.cells (dotc r n) 37)) w.heap.size v ∧
    LiesD ((w.alloc (.cells (vals v) 39)).alloc (.cells (dotc r n) 37)) (w.heap.size + 1) r n ∧
    Below w.heap.size w ((w.alloc (.cells (vals v) 39)).alloc (.cells (dotc r n) 37)) := by
  refine ⟨(lies_new w v).alloc _, ?_, ((Below.refl _ _).alloc (Nat.le_refl _) _).alloc (by simp) _⟩
  have := liesD_new (w.alloc (.cells (vals v) 39)) r n
  simpa using this

end Go.Proofs.Ytmacebekodndjaa
