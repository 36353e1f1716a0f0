/-
  What the reference's Type and Ends come to.
-/
import Derived.Test.YtagjgamigldjnabGj
import Derived.Test.YtagjgamigldjnabLun
import Derived.Test.YtagjgamigldjnabPwl
namespace Go.Proofs.Ytagjgamigldjnab
set_option maxRecDepth 100000
open Go.RowKit

def kindAt (i : Nat) : Int := [1, 2, 3, 5, 7, 9].getD i 0
theorem load_dotm {w : World} {g k : Nat} {r n : Int} (h : w.rangeAt g k (dotc r n).toList) : (loadVar 28 ⟨g, k, none⟩).run Try.prog w = .ok (.agg (dotc r n)) w :=
  run_loadVar_mid (P := Try.prog) w g k 28 _ _ h Try.underlying28 rfl (by kernel_rfl)
theorem LiesE.rf {w : World} {g : Nat} {e : Ev} (h : LiesE w g e) (hl : e.deps.length = 16) : w.rangeAt g (19 + 5) (dotc e.rr e.rn).toList := h.ref hl
end Go.Proofs.Ytagjgamigldjnab
