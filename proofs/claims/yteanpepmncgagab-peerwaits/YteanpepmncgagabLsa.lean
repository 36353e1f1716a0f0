/-
  Lists of events that are alike: what Same comes to.
-/
import Derived.Test.YteanpepmncgagabPrg
namespace Go.Proofs.Yteanpepmncgagab
set_option maxRecDepth 100000
set_option maxRecDepth 100000
open Go.RowKit

theorem run_same_ev (w : World) (e : Ev) (hl : e.deps.length = 16) : (Op.equalIn 10000 33 (.agg (evc e)) (.agg (evc e))).run Try.prog w = .ok true w := by
  have h := run_equalIn_ev w 9996 e e hl hl
  rw [(sameE_iff e e).2 rfl] at h
  exact h
theorem run_neq_alike (w : World) (e : Ev) (hl : e.deps.length = 16) : (binOp .neq 33 (.agg (evc e)) (.agg (evc e))).run Try.prog w = .ok (.bool false) w := by
  have h := run_same_ev w e hl
  simp only [binOp]
  simp [Op.equal, Op.maxDepth, h]
end Go.Proofs.Yteanpepmncgagab
