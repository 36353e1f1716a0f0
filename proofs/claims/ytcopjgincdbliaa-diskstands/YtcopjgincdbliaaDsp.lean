/-
  Whatever is done but Replace and Cut, what is fast stays as it is. No program is walked here.
-/
import Derived.Test.YtcopjgincdbliaaDdo
namespace Go.Proofs.Ytcopjgincdbliaa
open Go.RowKit

theorem crash_keep (l : List UInt8) (f : Nat) (x a t : Int) (hf : f ≤ l.length) : (Dk.crash l f x a t).take f = l.take f ∧ f ≤ (Dk.crash l f x a t).length ∧ (Dk.crash l f x a t).length ≤ l.length ∧ (t = 0 → Dk.crash l f x a t = l.take (Dk.crash l f x a t).length) := by
  have hk := Dk.kept_le l f x
  have hlen : (Dk.crash l f x a t).length = f + Dk.kept l f x := by rw [Dk.crash, Dk.left_length _ _ _ _ _ hf hk]
  refine ⟨?_, by omega, by omega, fun h => ?_⟩
  · rw [Dk.crash, Dk.left]
    have h1 : (l.take f).length = f := by rw [List.length_take]; omega
    rw [List.take_append_of_le_length (by omega), List.take_of_length_le (by omega)]
  · rw [hlen, List.take_add, Dk.crash, Dk.left]
    congr 1
    subst h
    rw [show ((0 : Int) % 65536).toNat = 0 from rfl, Dk.turn_zero]
    split <;> rfl
theorem st_keep (o : Cl) (l : List UInt8) (f r : Nat) (hf : f ≤ l.length) (h3 : o.kind ≠ 3) (h4 : o.kind ≠ 4) :
    f ≤ (stL o l f r).length ∧ (stL o l f r).take f = l.take f ∧ f ≤ stF o l f r ∧ (l.length < (stL o l f r).length → o.kind = 1) ∧ (o.kind = 5 → stF o l f r = (stL o l f r).length ∧ (o.turn = 0 → stL o l f r = l.take (stL o l f r).length)) := by
  by_cases h1 : o.kind = 1
  · obtain ⟨-, q2, q3⟩ := st_1 l f r h1
    rw [q2, q3]
    refine ⟨?_, ?_, Nat.le_refl _, fun _ => h1, fun h => by omega⟩
    · split
      · rw [List.length_append]; omega
      · exact hf
    · split
      · rw [List.take_append_of_le_length hf]
      · rfl
  by_cases h2 : o.kind = 2
  · obtain ⟨-, q2, q3⟩ := st_2 l f r h2
    rw [q2, q3]
    exact ⟨hf, rfl, hf, fun h => by omega, fun h => by omega⟩
  by_cases h5 : o.kind = 5
  · obtain ⟨-, q2, q3⟩ := st_5 l f r h5
    rw [q2, q3]
    obtain ⟨k1, k2, k3, k4⟩ := crash_keep l f o.n o.at0 o.turn hf
    exact ⟨k2, k1, k2, fun h => by omega, fun _ => ⟨rfl, k4⟩⟩
  · obtain ⟨-, q2, q3⟩ := st_0 l f r h1 h2 h3 h4 h5
    rw [q2, q3]
    exact ⟨hf, rfl, Nat.le_refl _, fun h => by omega, fun h => absurd h h5⟩
end Go.Proofs.Ytcopjgincdbliaa
