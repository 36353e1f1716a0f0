/-
  The reference's small functions: what a kind uses, whether it adds; Covers, Later.
-/
import Derived.Test.YteanpepmncgagaaRig
namespace Go.Proofs.Yteanpepmncgagaa
set_option maxRecDepth 100000
open Go.RowKit

set_option maxHeartbeats 400000 in
theorem rfield_any (k : Int) (w : World) : Calls Try.prog 42 #[.int .i64 k] w fun e w' => e = .returned (.bool (usesF k)) ∧ w' = w := by
  go_enter Try.func42, Try.ntmps42
  go_wp2
  all_goals
    go_ret
    refine ⟨congrArg (fun b => Ending.returned (.bool b)) (?_ : _ = usesF k), rfl⟩
    rw [Bool.eq_iff_iff]
    simp only [usesF, decide_eq_true_eq, Bool.false_eq_true, false_iff] <;> omega

set_option maxHeartbeats 400000 in
theorem rvalue_any (k : Int) (w : World) : Calls Try.prog 43 #[.int .i64 k] w fun e w' => e = .returned (.bool (usesV k)) ∧ w' = w := by
  go_enter Try.func43, Try.ntmps43
  go_wp2
  all_goals
    go_ret
    refine ⟨congrArg (fun b => Ending.returned (.bool b)) (?_ : _ = usesV k), rfl⟩
    rw [Bool.eq_iff_iff]
    simp only [usesV, decide_eq_true_eq, Bool.or_eq_true, beq_iff_eq, true_iff] <;> omega

set_option maxHeartbeats 400000 in
theorem rnum_any (k : Int) (w : World) : Calls Try.prog 44 #[.int .i64 k] w fun e w' => e = .returned (.bool (usesN k)) ∧ w' = w := by
  go_enter Try.func44, Try.ntmps44
  go_wp2
  all_goals
    go_ret
    refine ⟨congrArg (fun b => Ending.returned (.bool b)) (?_ : _ = usesN k), rfl⟩
    rw [Bool.eq_iff_iff]
    simp only [usesN, decide_eq_true_eq, Bool.or_eq_true, beq_iff_eq, true_iff] <;> omega

set_option maxHeartbeats 400000 in
theorem rref_any (k : Int) (w : World) : Calls Try.prog 45 #[.int .i64 k] w fun e w' => e = .returned (.bool (usesR k)) ∧ w' = w := by
  go_enter Try.func45, Try.ntmps45
  go_wp2
  all_goals
    go_ret
    refine ⟨congrArg (fun b => Ending.returned (.bool b)) (?_ : _ = usesR k), rfl⟩
    rw [Bool.eq_iff_iff]
    simp only [usesR, decide_eq_true_eq, Bool.or_eq_true, beq_iff_eq, true_iff] <;> omega

end Go.Proofs.Yteanpepmncgagaa
