/-
  What the reference's under comes to, and its Order.
-/
import Derived.Test.YtagjgamigldjnabKrf
namespace Go.Proofs.Ytagjgamigldjnab
set_option maxRecDepth 100000
open Go.RowKit

theorem neq_ib (W : World) (m n : Int) {t : Bool} (h : decide (m ≠ n) = t) : (binOp .neq 3 (.int .i64 m) (.int .i64 n)).run Try.prog W = .ok (.bool t) W := by
  subst h
  by_cases h : m = n
  · simp [go_sem, h]
  · simp [go_sem, h]
theorem insI_len (N : List Ev) (x : Nat) : ∀ K : List Nat, (insI N x K).length = K.length + 1
  | [] => rfl
  | y :: K => by
    unfold insI
    split
    · rfl
    · rw [List.length_cons, insI_len N x K, List.length_cons]
theorem kidsTo_len (N : List Ev) (p : Option Nat) : ∀ m, (kidsTo N p m).length ≤ m
  | 0 => Nat.le_refl _
  | m + 1 => by
    have := kidsTo_len N p m
    unfold kidsTo
    split
    · rw [insI_len]; omega
    · omega
theorem KidsTo.len {N : List Ev} {p : Option Nat} {m : Nat} {K : List Nat} (h : KidsTo N p m K) : K.length ≤ m := by
  rw [h.one (kidsTo_is N p m)]
  exact kidsTo_len N p m
end Go.Proofs.Ytagjgamigldjnab
