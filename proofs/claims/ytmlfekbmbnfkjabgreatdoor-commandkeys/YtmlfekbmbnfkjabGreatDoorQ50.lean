/-
  What a kind uses, whether it is one, whether it adds; whether a number may be: the program's answers and the reference's.
-/
import Derived.Test.YtmlfekbmbnfkjabGreatDoorQ02
import Derived.Test.YtmlfekbmbnfkjabGreatDoorQ06
import Derived.Test.YtmlfekbmbnfkjabGreatDoorQ49
import Derived.Test.YtmlfekbmbnfkjabGreatDoorQ04
namespace Go.Proofs.YtmlfekbmbnfkjabGreatDoor
set_option maxRecDepth 100000
open Go.RowKit

def iskindE (k : Int) : Bool := decide (1 ≤ k ∧ k ≤ 11)
def numE (n : Int) : Bool := decide (-1099511627776 ≤ n ∧ n ≤ 1099511627776)

section
variable (k : Int) (w : World)
set_option maxHeartbeats 400000 in
theorem usesfield_any : Calls Tryz.prog 92 #[.int .i64 k] w fun e w' => e = .returned (.bool (usesF k)) ∧ w' = w := by
  go_enter Tryz.func92, Tryz.ntmps92
  go_wp2
  all_goals
    go_ret
    refine ⟨congrArg (fun b => Ending.returned (.bool b)) (?_ : _ = usesF k), rfl⟩
    simp only [beq_iff_eq, beq_eq_false_iff_ne, ne_eq] at *
    unfold usesF
    first
    | exact (decide_eq_true (by omega)).symm
    | exact (decide_eq_false (by omega)).symm
set_option maxHeartbeats 400000 in
theorem usesvalue_any : Calls Tryz.prog 93 #[.int .i64 k] w fun e w' => e = .returned (.bool (usesV k)) ∧ w' = w := by
  go_enter Tryz.func93, Tryz.ntmps93
  go_wp2
  all_goals
    go_ret
    refine ⟨congrArg (fun b => Ending.returned (.bool b)) (?_ : _ = usesV k), rfl⟩
    simp only [beq_iff_eq, beq_eq_false_iff_ne, ne_eq] at *
    unfold usesV
    first
    | exact (decide_eq_true (by omega)).symm
    | exact (decide_eq_false (by omega)).symm
set_option maxHeartbeats 400000 in
theorem usesnum_any : Calls Tryz.prog 94 #[.int .i64 k] w fun e w' => e = .returned (.bool (usesN k)) ∧ w' = w := by
  go_enter Tryz.func94, Tryz.ntmps94
  go_wp2
  all_goals
    go_ret
    refine ⟨congrArg (fun b => Ending.returned (.bool b)) (?_ : _ = usesN k), rfl⟩
    simp only [beq_iff_eq, beq_eq_false_iff_ne, ne_eq] at *
    unfold usesN
    first
    | exact (decide_eq_true (by omega)).symm
    | exact (decide_eq_false (by omega)).symm
set_option maxHeartbeats 400000 in
theorem usesref_any : Calls Tryz.prog 95 #[.int .i64 k] w fun e w' => e = .returned (.bool (usesR k)) ∧ w' = w := by
  go_enter Tryz.func95, Tryz.ntmps95
  go_wp2
  all_goals
    go_ret
    refine ⟨congrArg (fun b => Ending.returned (.bool b)) (?_ : _ = usesR k), rfl⟩
    simp only [beq_iff_eq, beq_eq_false_iff_ne, ne_eq] at *
    unfold usesR
    first
    | exact (decide_eq_true (by omega)).symm
    | exact (decide_eq_false (by omega)).symm
set_option maxHeartbeats 400000 in
theorem iskind_any : Calls Tryz.prog 46 #[.int .i64 k] w fun e w' => e = .returned (.bool (iskindE k)) ∧ w' = w := by
  by_cases h0 : 1 ≤ k
  · by_cases h1 : k ≤ 11
    · rw [show iskindE k = true from decide_eq_true ⟨h0, h1⟩]
      go_enter Tryz.func46, Tryz.ntmps46
      go_wp2
      go_ret
      exact ⟨by simp, rfl⟩
    · rw [show iskindE k = false from decide_eq_false (by omega)]
      go_enter Tryz.func46, Tryz.ntmps46
      go_wp2
      go_ret
      exact ⟨by simp, rfl⟩
  · rw [show iskindE k = false from decide_eq_false (by omega)]
    go_enter Tryz.func46, Tryz.ntmps46
    go_wp2
    go_ret
    exact ⟨rfl, rfl⟩
set_option maxHeartbeats 400000 in
theorem rightnum_any : Calls Tryz.prog 48 #[.int .i64 k] w fun e w' => e = .returned (.bool (numE k)) ∧ w' = w := by
  by_cases h0 : -1099511627776 ≤ k
  · by_cases h1 : k ≤ 1099511627776
    · rw [show numE k = true from decide_eq_true ⟨h0, h1⟩]
      go_enter Tryz.func48, Tryz.ntmps48
      go_wp2
      go_ret
      exact ⟨by simp, rfl⟩
    · rw [show numE k = false from decide_eq_false (by omega)]
      go_enter Tryz.func48, Tryz.ntmps48
      go_wp2
      go_ret
      exact ⟨by simp, rfl⟩
  · rw [show numE k = false from decide_eq_false (by omega)]
    go_enter Tryz.func48, Tryz.ntmps48
    go_wp2
    go_ret
    exact ⟨rfl, rfl⟩
end
end Go.Proofs.YtmlfekbmbnfkjabGreatDoor

/-
  What putNumber and putDot come to: the bytes, and behind them a number's, a dot's.
-/
namespace Go.Proofs.YtmlfekbmbnfkjabGreatDoor
set_option maxRecDepth 100000
open Go.RowKit

/-- What an operation of a region leaves: a value, or a new list of bytes. -/
inductive Kd where
  | val (v : Value)
  | bytes (l : List UInt8)
def Kd.holds : Kd → Value → World → Prop
  | .val v, u, _ => u = v
  | .bytes l, u, W => ∃ g c, u = .slice (some ⟨g, 0, none⟩) l.length c ∧ Bytes W (some ⟨g, 0, none⟩) l.length c l ∧ c ≤ maxLen
def Kd.at (l : List Kd) (i : Nat) : Kd := l.getD i (.val undef)
theorem Kd.stable {k : Kd} {v : Value} {w w' : World} (hb : Below w.heap.size w w') (h : k.holds v w) : k.holds v w' := by
  cases k with
  | val x => exact h
  | bytes l =>
    obtain ⟨g, c, h1, h2, h3⟩ := h
    exact ⟨g, c, h1, h2.below hb (Nat.le_refl _), h3⟩

end Go.Proofs.YtmlfekbmbnfkjabGreatDoor

