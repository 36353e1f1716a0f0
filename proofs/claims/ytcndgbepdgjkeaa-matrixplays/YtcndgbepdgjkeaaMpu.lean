/-
  What a matrix tells, plainly.
-/
import Derived.Test.YtcndgbepdgjkeaaMgr
import Derived.Test.YtcndgbepdgjkeaaRgt
import Derived.Test.YtcndgbepdgjkeaaMmo
namespace Go.Proofs.Ytcndgbepdgjkeaa
set_option maxRecDepth 100000
open Go.RowKit

def inM (n : Nat) (r : Int) : Bool := decide (0 ≤ r ∧ r < (n : Int))
theorem inM_yes {n : Nat} {r : Int} (h : inM n r = true) : ∃ k : Nat, r = (k : Int) ∧ k < n := by
  have := of_decide_eq_true h
  exact ⟨r.toNat, by omega, by omega⟩
theorem inM_nat {n k : Nat} : inM n (k : Int) = decide (k < n) := by
  unfold inM
  by_cases h : k < n
  · rw [decide_eq_true h, decide_eq_true (by omega)]
  · rw [decide_eq_false h, decide_eq_false (by omega)]
def rowE (n : Nat) (R : Nat → List Int) (r : Int) : List Int := if inM n r = true then R r.toNat else zeros
theorem zeros_len : zeros.length = 16 := rfl
theorem rowE_len {n : Nat} {R : Nat → List Int} {r : Int} (h : ∀ k, (R k).length = 16) : (rowE n R r).length = 16 := by
  unfold rowE; split
  · exact h _
  · rfl
theorem rowE_in {n k : Nat} {R : Nat → List Int} (h : k < n) : rowE n R (k : Int) = R k := by
  rw [rowE, inM_nat, decide_eq_true h, if_pos rfl, Int.toNat_natCast]
/-- All rows up to one, met. -/
def metTo (n : Nat) (R : Nat → List Int) : Nat → List Int
  | 0 => rowE n R 0
  | k + 1 => each min (metTo n R k) (R k)
def metE (n : Nat) (R : Nat → List Int) : List Int := metTo n R n
theorem metTo_len {n : Nat} {R : Nat → List Int} (h : ∀ k, (R k).length = 16) : ∀ k, (metTo n R k).length = 16
  | 0 => rowE_len h
  | k + 1 => each_length min _ _ (metTo_len h k) (h k)
theorem metE_len {n : Nat} {R : Nat → List Int} (h : ∀ k, (R k).length = 16) : (metE n R).length = 16 := metTo_len h n
/-- Has a vector all that each replica made? -/
def wholeTo (R : Nat → List Int) (s : List Int) (k : Nat) : Bool := (List.range k).all fun r => decide ((R r).getD r 0 ≤ s.getD r 0)
theorem wholeTo_iff {R : Nat → List Int} {s : List Int} {k : Nat} : wholeTo R s k = true ↔ ∀ r, r < k → (R r).getD r 0 ≤ s.getD r 0 := by
  rw [wholeTo, List.all_eq_true]
  simp only [List.mem_range, decide_eq_true_eq]
theorem wholeTo_succ {R : Nat → List Int} {s : List Int} {k : Nat} (h : wholeTo R s k = true) (h' : (R k).getD k 0 ≤ s.getD k 0) : wholeTo R s (k + 1) = true :=
  wholeTo_iff.2 fun r hr => by
    by_cases he : r = k
    · subst he; exact h'
    · exact wholeTo_iff.1 h r (by omega)
theorem wholeTo_not {R : Nat → List Int} {s : List Int} {k n : Nat} (hk : k < n) (h' : s.getD k 0 < (R k).getD k 0) : wholeTo R s n = false := by
  rw [Bool.eq_false_iff]
  intro h
  have := wholeTo_iff.1 h k hk
  omega
def cutE (n : Nat) (R : Nat → List Int) (s : List Int) : List Int := if wholeTo R s n = true then metE n R else zeros
theorem cutE_len {n : Nat} {R : Nat → List Int} {s : List Int} (h : ∀ k, (R k).length = 16) : (cutE n R s).length = 16 := by
  unfold cutE; split
  · exact metE_len h
  · rfl
def okS (n : Nat) (r : Int) (v : List Int) : Bool := inM n r && fine v
def seeR (n : Nat) (R : Nat → List Int) (r : Int) (v : List Int) : Nat → List Int := if okS n r v = true then setR R r.toNat (each max (R r.toNat) v) else R
def seeN (n : Nat) (r : Int) (v : List Int) : Int := if okS n r v = true then 0 else 1
theorem seeR_len {n : Nat} {R : Nat → List Int} {r : Int} {v : List Int} (h : ∀ k, (R k).length = 16) (hv : v.length = 16) : ∀ k, (seeR n R r v k).length = 16 := by
  unfold seeR; split
  · exact setR_len h (each_length max _ _ (h _) hv)
  · exact h
/-- How many replicas New makes. -/
def clampN (x : Int) : Nat := (max 1 (min x 16)).toNat
theorem clampN_le (x : Int) : clampN x ≤ 16 := by unfold clampN; omega
theorem clampN_pos (x : Int) : 1 ≤ clampN x := by unfold clampN; omega
def zeroR : Nat → List Int := fun _ => zeros
end Go.Proofs.Ytcndgbepdgjkeaa
