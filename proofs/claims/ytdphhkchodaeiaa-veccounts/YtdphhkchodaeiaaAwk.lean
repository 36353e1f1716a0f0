/-
  What the statements' first call, awake, comes to: true; nothing that was there has turned.
-/
import Derived.Test.YtdphhkchodaeiaaRgt
namespace Go.Proofs.Ytdphhkchodaeiaa
open Go.RowKit

def v12 : List Int := [1, 2, 0, 0, 0, 0, 0, 0, 0, 0, 0, 0, 0, 0, 0, 0]
def v21 : List Int := [2, 1, 0, 0, 0, 0, 0, 0, 0, 0, 0, 0, 0, 0, 0, 0]
def v22 : List Int := [2, 2, 0, 0, 0, 0, 0, 0, 0, 0, 0, 0, 0, 0, 0, 0]
theorem each22 : each max v12 v21 = v22 := by decide

set_option maxHeartbeats 400000 in
theorem awake_any (w : World) : Calls Try.prog 9 #[] w fun e w' => e = .returned (.bool true) ∧ Below w.heap.size w w' := by
  have pv := plain_vec
  have q := fun W => run_equalIn_vec W 9998 v22 v22 rfl rfl
  rw [show (vals v22) = #[.int .i64 2, .int .i64 2, .int .i64 0, .int .i64 0, .int .i64 0, .int .i64 0, .int .i64 0, .int .i64 0, .int .i64 0, .int .i64 0, .int .i64 0, .int .i64 0, .int .i64 0, .int .i64 0, .int .i64 0, .int .i64 0] from rfl] at q
  go_enter Try.func9, Try.ntmps9
  go_wp2_with fail
  refine (join_any v12 v21 rfl rfl _).mono ?_
  rintro e w1 ⟨rfl, hb1⟩
  rw [each22, show (vals v22) = #[.int .i64 2, .int .i64 2, .int .i64 0, .int .i64 0, .int .i64 0, .int .i64 0, .int .i64 0, .int .i64 0, .int .i64 0, .int .i64 0, .int .i64 0, .int .i64 0, .int .i64 0, .int .i64 0, .int .i64 0, .int .i64 0] from rfl]
  go_wp2_with fail
  refine (right_any zeros rfl _).mono ?_
  rintro e w2 ⟨rfl, hb2⟩
  go_wp2
  go_ret
  exact ⟨rfl, hb1.trans (hb2.mono hb1.size)⟩
end Go.Proofs.Ytdphhkchodaeiaa
