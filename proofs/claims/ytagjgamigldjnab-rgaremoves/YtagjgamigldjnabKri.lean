/-
  What the reference's Items and Anchor come to.
-/
import Derived.Test.YtagjgamigldjnabKun
import Derived.Test.YtagjgamigldjnabRen
namespace Go.Proofs.Ytagjgamigldjnab
set_option maxRecDepth 100000
open Go.RowKit

def anyTo (E : List Ev) (u : Ev) (j : Nat) : Bool := (E.take j).any (fun b => endsE b u)
theorem anyTo_succ {E : List Ev} {u x : Ev} {j : Nat} (h : E[j]? = some x) : anyTo E u (j + 1) = (anyTo E u j || endsE x u) := by
  unfold anyTo
  rw [take_snoc h, List.any_append]
  simp
theorem anyTo_all {E : List Ev} {u : Ev} {j : Nat} (h : E.length ≤ j) (hk : u.kind = 9) : anyTo E u j = !(isLive E u) := by
  unfold anyTo isLive
  rw [List.take_of_length_le h, hk, Bool.not_and, Bool.not_not]
  rfl
def liveToA (E A : List Ev) (i : Nat) : List Ev := (A.take i).filter (isLive E)
theorem liveToA_succ {E A : List Ev} {i : Nat} {u : Ev} (h : A[i]? = some u) : liveToA E A (i + 1) = if isLive E u then liveToA E A i ++ [u] else liveToA E A i := by
  unfold liveToA
  rw [take_snoc h, List.filter_append, List.filter_cons]
  split <;> simp
theorem liveToA_len (E A : List Ev) (i : Nat) : (liveToA E A i).length ≤ i := by
  unfold liveToA
  have := List.length_filter_le (isLive E) (A.take i)
  rw [List.length_take] at this
  omega
end Go.Proofs.Ytagjgamigldjnab
