/-
  What vec.Compare comes to: 0 the same, 1 behind, 2 ahead, 3 abreast.
-/
import Derived.Test.YtcndgbepdgjkeaaRvl
namespace Go.Proofs.Ytcndgbepdgjkeaa
set_option maxRecDepth 100000
open Go.RowKit

/-- Is each number of a at most that of b? -/
def most (a b : List Int) : Bool := (List.range 16).all fun i => decide (a.getD i 0 ≤ b.getD i 0)
theorem most_spec (a b : List Int) : most a b = true ↔ ∀ i, i < 16 → a.getD i 0 ≤ b.getD i 0 := by
  rw [most, List.all_eq_true]
  simp only [List.mem_range, decide_eq_true_eq]
theorem most_join (a b : List Int) (la : a.length = 16) (lb : b.length = 16) : each max a b = b ↔ most a b = true := by
  rw [most_spec]
  constructor
  · intro h i hi
    have := congrArg (fun l => l.getD i 0) h
    simp only [each_get _ _ _ _ la lb hi] at this
    omega
  · intro h
    refine vec_ext _ _ (each_length _ _ _ la lb) lb fun i hi => ?_
    have := h i hi
    rw [each_get _ _ _ _ la lb hi]; omega
theorem most_join' (a b : List Int) (la : a.length = 16) (lb : b.length = 16) : each max a b = a ↔ most b a = true := by
  rw [most_spec]
  constructor
  · intro h i hi
    have := congrArg (fun l => l.getD i 0) h
    simp only [each_get _ _ _ _ la lb hi] at this
    omega
  · intro h
    refine vec_ext _ _ (each_length _ _ _ la lb) la fun i hi => ?_
    have := h i hi
    rw [each_get _ _ _ _ la lb hi]; omega
theorem most_meet (a b : List Int) (la : a.length = 16) (lb : b.length = 16) : each min a b = a ↔ most a b = true := by
  rw [most_spec]
  constructor
  · intro h i hi
    have := congrArg (fun l => l.getD i 0) h
    simp only [each_get _ _ _ _ la lb hi] at this
    omega
  · intro h
    refine vec_ext _ _ (each_length _ _ _ la lb) la fun i hi => ?_
    have := h i hi
    rw [each_get _ _ _ _ la lb hi]; omega
theorem most_self (a : List Int) : most a a = true := (most_spec a a).2 fun _ _ => Int.le_refl _
theorem most_both (a b : List Int) (la : a.length = 16) (lb : b.length = 16) (h : most a b = true) (h' : most b a = true) : a = b :=
  vec_ext a b la lb fun i hi => by have := (most_spec a b).1 h i hi; have := (most_spec b a).1 h' i hi; omega

/-- How two vectors stand to one another. -/
def way (a b : List Int) : Int := if a = b then 0 else if most a b = true then 1 else if most b a = true then 2 else 3

theorem okbool {f : FuncId} {xs : Array Value} {W : World} {b c : Bool} (h : Calls Try.prog f xs W fun e w' => e = .returned (.bool b) ∧ Below W.heap.size W w') (hb : b = c) :
    Calls Try.prog f xs W fun e w' => e = .returned (.bool c) ∧ Below W.heap.size W w' := by rw [← hb]; exact h
theorem okint {f : FuncId} {xs : Array Value} {W : World} {b c : Int} (h : Calls Try.prog f xs W fun e w' => e = .returned (.int .i64 b) ∧ Below W.heap.size W w') (hb : b = c) :
    Calls Try.prog f xs W fun e w' => e = .returned (.int .i64 c) ∧ Below W.heap.size W w' := by rw [← hb]; exact h

end Go.Proofs.Ytcndgbepdgjkeaa
