/-
  The document's bytes of a number with a sign.
-/
import Derived.Test.YtgolokcajkccfaaTxt
namespace Go.Proofs.Ytgolokcajkccfaa
open Go.RowKit

set_option maxHeartbeats 400000 in
theorem rint_any (n : Int) (w : World) (hn : -9223372036854775808 ≤ n ∧ n ≤ 9223372036854775807) :
    Calls Try.prog 57 #[.int .i64 n] w fun e w' => e = .returned (.string (txt (zig n))) ∧ Below w.heap.size w w' := by
  have hz := zig_lt hn
  have hnum := number_any (zig n) w hz
  by_cases h : n < 0
  · have e : ((zig n : Nat) : Int) = 2 * (-(n + 1)) + 1 := by unfold zig; rw [if_pos h]; omega
    rw [e] at hnum
    generalize zig n = z at *
    have Hn : Hid _ := hnum
    clear hnum e
    go_enter Try.func57, Try.ntmps57
    go_wp2_with fail
    refine Calls.mono Hn.out ?_
    rintro e w1 ⟨rfl, hbel⟩
    go_wp2
    go_ret
    exact ⟨rfl, hbel⟩
  · have e : ((zig n : Nat) : Int) = 2 * n := by unfold zig; rw [if_neg h]; omega
    have h0 : 0 ≤ n := by omega
    rw [e] at hnum
    generalize zig n = z at *
    have Hn : Hid _ := hnum
    clear hnum e
    go_enter Try.func57, Try.ntmps57
    go_wp2_with fail
    refine Calls.mono Hn.out ?_
    rintro e w1 ⟨rfl, hbel⟩
    go_wp2
    go_ret
    exact ⟨rfl, hbel⟩
end Go.Proofs.Ytgolokcajkccfaa
