/-
  What vec.With and the reference's With come to.
-/
import Derived.Test.YteanpepmncgagaaHas
import Derived.Test.YteanpepmncgagaaRgt
import Derived.BigQuiet
namespace Go.Proofs.Yteanpepmncgagaa
set_option maxRecDepth 100000
open Go.RowKit

/-- A vector and one dot more, and the error. -/
def withV (v : List Int) (r n : Int) : List Int := if fine v && okdot r n && decide (n = v.getD r.toNat 0 + 1) then v.set r.toNat n else zeros
def withE (v : List Int) (r n : Int) : Int := if fine v && okdot r n then (if n = v.getD r.toNat 0 + 1 then 0 else 11) else 1
theorem withV_length (v : List Int) (r n : Int) (hv : v.length = 16) : (withV v r n).length = 16 := by
  unfold withV
  split
  · rw [List.length_set, hv]
  · rfl

theorem boxedVDZ (w : World) (v : List Int) (r n : Int) :
    Lies (((w.alloc (.cells (vals v) 35)).alloc (.cells (dotc r n) 33)).alloc (.cells (vals zeros) 35)) w.heap.size v ∧
    LiesD (((w.alloc (.cells (vals v) 35)).alloc (.cells (dotc r n) 33)).alloc (.cells (vals zeros) 35)) (w.heap.size + 1) r n ∧
    Lies (((w.alloc (.cells (vals v) 35)).alloc (.cells (dotc r n) 33)).alloc (.cells (vals zeros) 35)) (w.heap.size + 1 + 1) zeros ∧
    Below w.heap.size w (((w.alloc (.cells (vals v) 35)).alloc (.cells (dotc r n) 33)).alloc (.cells (vals zeros) 35)) := by
  refine ⟨((lies_new w v).alloc _).alloc _, ?_, ?_, (((Below.refl _ _).alloc (Nat.le_refl _) _).alloc (by simp) _).alloc (by simp; omega) _⟩
  · have := (liesD_new (w.alloc (.cells (vals v) 35)) r n).alloc (.cells (vals zeros) 35)
    simpa using this
  · have := lies_new ((w.alloc (.cells (vals v) 35)).alloc (.cells (dotc r n) 33)) zeros
    simpa using this

end Go.Proofs.Yteanpepmncgagaa
