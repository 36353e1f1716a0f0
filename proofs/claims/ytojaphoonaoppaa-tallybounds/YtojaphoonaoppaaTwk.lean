/-
  What the laws' awake comes to.
-/
import Derived.Test.YtojaphoonaoppaaTby
import Derived.Test.YtojaphoonaoppaaTba
namespace Go.Proofs.Ytojaphoonaoppaa
set_option maxRecDepth 100000
open Go.RowKit

/-- The event that adds a number. -/
def incE (n : Int) : Ev := ⟨0, 0, 0, zeros, 2, [], [], [], n, 0, 0⟩
theorem incE_wide (n : Int) : Wide (incE n) := ⟨rfl, ⟨by simp [incE], by simp [incE], by simp [incE]⟩⟩
theorem aw_sum : sumE [incE 5, incE (-2)] = 3 := by decide +kernel
theorem eql_arr_same (W : World) (B : List Int) (h : B.length = 16) : (binOp .eql 24 (.agg (vals B)) (.agg (vals B))).run Try.prog W = .ok (.bool true) W := by
  rw [run_eql_arr W B B h h]; simp
theorem neq_arr_same (W : World) (B : List Int) (h : B.length = 16) : (binOp .neq 24 (.agg (vals B)) (.agg (vals B))).run Try.prog W = .ok (.bool false) W := by
  rw [run_neq_arr W B B h h]; simp
set_option maxHeartbeats 1000000 in
theorem awake_any (w : World) : Calls Try.prog 7 #[] w fun e w' => e = .returned (.bool true) ∧ Below w.heap.size w w' := by
  go_enter Try.func7, Try.ntmps7
  go_wp2_with (refine build_ev2 (u := incE 5) (v := incE (-2)) rfl rfl rfl rfl rfl rfl ?_)
  refine (tsum_any (some ⟨w.heap.size, 0, none⟩) 2 2 [incE 5, incE (-2)] _ (evs_double w (incE 5) (incE (-2)) (incE_wide _) (incE_wide _)) (by omega)).mono ?_
  rintro e w1 ⟨rfl, hb1⟩
  have HB1 : Hid (Below w.heap.size w w1) := ((Below.refl _ w).alloc (Nat.le_refl _) (.cells (evc (incE 5) ++ evc (incE (-2))) 37)).trans (hb1.mono (by simp))
  rw [aw_sum]
  clear hb1
  go_wp2
  go_ret
  exact ⟨rfl, HB1.out⟩
end Go.Proofs.Ytojaphoonaoppaa
