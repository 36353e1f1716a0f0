/-
  The vector of sixteen zeros.
-/
import Derived.Test.YteanpepmncgagaaVec
namespace Go.Proofs.Yteanpepmncgagaa
set_option maxRecDepth 100000
open Go.RowKit
def zeros : List Int := List.replicate 16 0
theorem zeros_vals : vals zeros = #[.int .i64 0, .int .i64 0, .int .i64 0, .int .i64 0, .int .i64 0, .int .i64 0, .int .i64 0, .int .i64 0, .int .i64 0, .int .i64 0, .int .i64 0, .int .i64 0, .int .i64 0, .int .i64 0, .int .i64 0, .int .i64 0] := rfl
end Go.Proofs.Yteanpepmncgagaa
