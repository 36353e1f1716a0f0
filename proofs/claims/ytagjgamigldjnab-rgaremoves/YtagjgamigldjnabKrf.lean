/-
  What the reference's nodes and parent come to.
-/
import Derived.Test.YtagjgamigldjnabKit
namespace Go.Proofs.Ytagjgamigldjnab
set_option maxRecDepth 100000
open Go.RowKit

theorem range_ref {w : World} {b k : Nat} {e : Ev} (h : w.rangeAt b k (evl e)) (hl : e.deps.length = 16) : w.rangeAt b (k + 19 + 5) (dotc e.rr e.rn).toList := fun j v hv => by
  have h5 : (evl e)[24 + j]? = some v := by
    rw [show 24 + j = 19 + (5 + j) by omega, evl_hi hl]
    match j, hv with
    | 0, hv => exact hv
    | 1, hv => exact hv
  have := h (24 + j) v h5
  rwa [show k + (24 + j) = k + 19 + 5 + j by omega] at this
theorem LiesD.range {w : World} {g : Nat} {r n : Int} (h : LiesD w g r n) : w.rangeAt g 0 (dotc r n).toList := fun j v hv => by
  match j, hv with
  | 0, hv => obtain rfl := Option.some.inj hv; exact h.cell0
  | 1, hv => obtain rfl := Option.some.inj hv; exact h.cell1
end Go.Proofs.Ytagjgamigldjnab
