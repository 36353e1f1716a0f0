/-
  What event.Right comes to; and Covers.
-/
import Derived.Test.YteanpepmncgagaaEcv
import Derived.Test.YteanpepmncgagaaRop
import Derived.Test.YteanpepmncgagaaWth
namespace Go.Proofs.Yteanpepmncgagaa
set_option maxRecDepth 100000
open Go.RowKit

def placeE (e : Ev) : Bool := decide (withE e.deps e.r e.n = 0)
def isrefE (e : Ev) : Bool := decide (e.rr = 0 ∧ e.rn = 0)
def refE (e : Ev) : Bool := if e.kind = 10 then hasv e.deps e.rr e.rn else if e.kind = 9 then isrefE e || hasv e.deps e.rr e.rn else true
/-- Can the event be? -/
def okev (e : Ev) : Bool := placeE e && (decide (0 ≤ e.t) && (decide (e.t ≤ 1152921504606846975) && (opE e && refE e)))
theorem run_isref (w : World) {e : Ev} {b : Bool} (h : isrefE e = b) : (Op.equalIn 10000 33 (.agg (dotc e.rr e.rn)) (.agg #[.int .i64 0, .int .i64 0])).run Try.prog w = .ok b w := by
  rw [← h]; exact run_equalIn_dot w 9998 e.rr e.rn 0 0
theorem boxedE (w : World) (e : Ev) : LiesE (w.alloc (.cells (evc e) 39)) w.heap.size e ∧ Below w.heap.size w (w.alloc (.cells (evc e) 39)) :=
  ⟨liesE_new w e, (Below.refl _ _).alloc (Nat.le_refl _) _⟩

theorem okev_place {e : Ev} (h : placeE e = false) : okev e = false := by rw [okev, h]; rfl

end Go.Proofs.Yteanpepmncgagaa
