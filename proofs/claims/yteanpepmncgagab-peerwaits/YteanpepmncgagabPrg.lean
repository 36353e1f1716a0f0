/-
  What the reference's For comes to.
-/
import Derived.Test.YteanpepmncgagabPrf
namespace Go.Proofs.Yteanpepmncgagab
set_option maxRecDepth 100000
open Go.RowKit

theorem range_r {w : World} {b k : Nat} {e : Ev} (h : w.rangeAt b k (evl e)) : w.cell? ⟨b, k, none⟩ = some (.int .i64 e.r) := h 0 _ rfl
theorem range_n {w : World} {b k : Nat} {e : Ev} (h : w.rangeAt b k (evl e)) : w.cell? ⟨b, k + 1, none⟩ = some (.int .i64 e.n) := h 1 _ rfl
theorem load_dtD {w : World} {g : Nat} {r n : Int} (h : LiesD w g r n) : (loadVar 27 ⟨g, 0, none⟩).run Try.prog w = .ok (.agg (dotc r n)) w := load_dot_run h
end Go.Proofs.Yteanpepmncgagab
