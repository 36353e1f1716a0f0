/-
  What vec.Right comes to: whether each number is from 0 to 1048576; and the reference's.
-/
import Derived.Test.YteanpepmncgagabZer
import Derived.BigQuiet
namespace Go.Proofs.Yteanpepmncgagab
set_option maxRecDepth 100000
open Go.RowKit

/-- Can a vector be? -/
def fine (v : List Int) : Bool := v.all fun x => decide (0 ≤ x ∧ x ≤ 1048576)
theorem fine_step (v : List Int) (k : Nat) (hv : v.length = 16) (hk : k < 16) (h : fine (v.take k) = true) (h0 : 0 ≤ v.getD k 0) (h1 : v.getD k 0 ≤ 1048576) : fine (v.take (k + 1)) = true := by
  have hkl : k < v.length := by omega
  have e : v.getD k 0 = v[k] := by simp [List.getD, hkl]
  rw [e] at h0 h1
  rw [fine, List.take_succ_eq_append_getElem hkl, List.all_append]
  rw [fine] at h
  rw [h, Bool.true_and, List.all_cons, List.all_nil, Bool.and_true]
  exact decide_eq_true ⟨h0, h1⟩
theorem fine_not (v : List Int) (k : Nat) (hv : v.length = 16) (hk : k < 16) (h : v.getD k 0 < 0 ∨ 1048576 < v.getD k 0) : fine v = false := by
  have hkl : k < v.length := by omega
  have e : v.getD k 0 = v[k] := by simp [List.getD, hkl]
  rw [e] at h
  rw [fine, List.all_eq_false]
  exact ⟨v[k], List.getElem_mem hkl, by simp; omega⟩
theorem fine_get (v : List Int) (k : Nat) (hv : v.length = 16) (hk : k < 16) (h : fine v = true) : 0 ≤ v.getD k 0 ∧ v.getD k 0 ≤ 1048576 := by
  have hkl : k < v.length := by omega
  have e : v.getD k 0 = v[k] := by simp [List.getD, hkl]
  rw [fine, List.all_eq_true] at h
  have := h v[k] (List.getElem_mem hkl)
  rw [e]
  simpa using this

end Go.Proofs.Yteanpepmncgagab
