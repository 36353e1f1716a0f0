/-
  What a kind uses, whether it is one, whether it adds; whether a number may be: the program's answers and the reference's.
-/
import Derived.Test.YthpkpmcccpfabaaEvm
import Derived.Test.YthpkpmcccpfabaaEcv
import Derived.Test.YthpkpmcccpfabaaEvn
import Derived.Test.YthpkpmcccpfabaaEvt
namespace Go.Proofs.Ythpkpmcccpfabaa
set_option maxRecDepth 100000
open Go.RowKit

def iskindE (k : Int) : Bool := decide (1 ≤ k ∧ k ≤ 11)
def numE (n : Int) : Bool := decide (-1099511627776 ≤ n ∧ n ≤ 1099511627776)

theorem ret_of {b c : Bool} {w : World} (h : c = b) : Ending.returned (.bool b) = .returned (.bool c) ∧ w = w := by rw [h]; exact ⟨rfl, rfl⟩

section
variable (k : Int) (w : World)
set_option maxHeartbeats 400000 in
theorem usesfield_any : Calls Try.prog 70 #[.int .i64 k] w fun e w' => e = .returned (.bool (usesF k)) ∧ w' = w := by
  go_enter Try.func70, Try.ntmps70
  go_wp2
  all_goals
    go_ret
    refine ⟨congrArg (fun b => Ending.returned (.bool b)) (?_ : _ = usesF k), rfl⟩
    simp only [beq_iff_eq, beq_eq_false_iff_ne, ne_eq] at *
    unfold usesF
    first
    | exact (decide_eq_true (by omega)).symm
    | exact (decide_eq_false (by omega)).symm
set_option maxHeartbeats 400000 in
theorem usesvalue_any : Calls Try.prog 71 #[.int .i64 k] w fun e w' => e = .returned (.bool (usesV k)) ∧ w' = w := by
  go_enter Try.func71, Try.ntmps71
  go_wp2
  all_goals
    go_ret
    refine ⟨congrArg (fun b => Ending.returned (.bool b)) (?_ : _ = usesV k), rfl⟩
    simp only [beq_iff_eq, beq_eq_false_iff_ne, ne_eq] at *
    unfold usesV
    first
    | exact (decide_eq_true (by omega)).symm
    | exact (decide_eq_false (by omega)).symm
set_option maxHeartbeats 400000 in
theorem usesnum_any : Calls Try.prog 72 #[.int .i64 k] w fun e w' => e = .returned (.bool (usesN k)) ∧ w' = w := by
  go_enter Try.func72, Try.ntmps72
  go_wp2
  all_goals
    go_ret
    refine ⟨congrArg (fun b => Ending.returned (.bool b)) (?_ : _ = usesN k), rfl⟩
    simp only [beq_iff_eq, beq_eq_false_iff_ne, ne_eq] at *
    unfold usesN
    first
    | exact (decide_eq_true (by omega)).symm
    | exact (decide_eq_false (by omega)).symm
set_option maxHeartbeats 400000 in
theorem usesref_any : Calls Try.prog 73 #[.int .i64 k] w fun e w' => e = .returned (.bool (usesR k)) ∧ w' = w := by
  go_enter Try.func73, Try.ntmps73
  go_wp2
  all_goals
    go_ret
    refine ⟨congrArg (fun b => Ending.returned (.bool b)) (?_ : _ = usesR k), rfl⟩
    simp only [beq_iff_eq, beq_eq_false_iff_ne, ne_eq] at *
    unfold usesR
    first
    | exact (decide_eq_true (by omega)).symm
    | exact (decide_eq_false (by omega)).symm
set_option maxHeartbeats 400000 in
theorem iskind_any : Calls Try.prog 60 #[.int .i64 k] w fun e w' => e = .returned (.bool (iskindE k)) ∧ w' = w := by
  by_cases h0 : 1 ≤ k
  · by_cases h1 : k ≤ 11
    · rw [show iskindE k = true from decide_eq_true ⟨h0, h1⟩]
      go_enter Try.func60, Try.ntmps60
      go_wp2
      go_ret
      exact ⟨by simp, rfl⟩
    · rw [show iskindE k = false from decide_eq_false (by omega)]
      go_enter Try.func60, Try.ntmps60
      go_wp2
      go_ret
      exact ⟨by simp, rfl⟩
  · rw [show iskindE k = false from decide_eq_false (by omega)]
    go_enter Try.func60, Try.ntmps60
    go_wp2
    go_ret
    exact ⟨rfl, rfl⟩
set_option maxHeartbeats 400000 in
theorem rightnum_any : Calls Try.prog 62 #[.int .i64 k] w fun e w' => e = .returned (.bool (numE k)) ∧ w' = w := by
  by_cases h0 : -1099511627776 ≤ k
  · by_cases h1 : k ≤ 1099511627776
    · rw [show numE k = true from decide_eq_true ⟨h0, h1⟩]
      go_enter Try.func62, Try.ntmps62
      go_wp2
      go_ret
      exact ⟨by simp, rfl⟩
    · rw [show numE k = false from decide_eq_false (by omega)]
      go_enter Try.func62, Try.ntmps62
      go_wp2
      go_ret
      exact ⟨by simp, rfl⟩
  · rw [show numE k = false from decide_eq_false (by omega)]
    go_enter Try.func62, Try.ntmps62
    go_wp2
    go_ret
    exact ⟨rfl, rfl⟩
end
end Go.Proofs.Ythpkpmcccpfabaa
