/-
  What reg's isAny, isSet, latestOf, Latest and Value come to.
-/
import Derived.Test.YtmacebekodndjaaGpu
namespace Go.Proofs.Ytmacebekodndjaa
set_option maxRecDepth 100000
open Go.RowKit

theorem kind_beq (k : Int) : (k == 1) = decide (k = 1) := by rw [Bool.eq_iff_iff]; simp
theorem two_new (w : World) : LiesE ((w.alloc (.cells (evc zv) 43)).alloc (.cells (evc zv) 43)) w.heap.size zv ∧ LiesE ((w.alloc (.cells (evc zv) 43)).alloc (.cells (evc zv) 43)) (w.heap.size + 1) zv ∧ Below w.heap.size w ((w.alloc (.cells (evc zv) 43)).alloc (.cells (evc zv) 43)) := boxedEE w zv zv
end Go.Proofs.Ytmacebekodndjaa
