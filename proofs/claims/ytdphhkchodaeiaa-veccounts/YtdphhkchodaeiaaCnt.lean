/-
  VecCounts: a vector that takes a replica's next dots, one behind the other, has just them more; and what it lacks of a greater one goes down by one with each. For every input.
-/
import Derived.Test.YtdphhkchodaeiaaDts
import Derived.Test.YtdphhkchodaeiaaCmp
import Derived.Test.YtdphhkchodaeiaaLck
namespace Go.Proofs.Ytdphhkchodaeiaa
open Go.RowKit

/-- A vector with another number for one replica. -/
def put (v : List Int) (k : Nat) (y : Int) : List Int := v.set k y
theorem put_length (v : List Int) (k : Nat) (y : Int) (hv : v.length = 16) : (put v k y).length = 16 := by rw [put, List.length_set, hv]
theorem put_same (v : List Int) (k : Nat) (y : Int) (hk : k < v.length) : (put v k y).getD k 0 = y := by
  simp [put, List.getD, hk]
theorem put_other (v : List Int) (k i : Nat) (y : Int) (h : k ≠ i) : (put v k y).getD i 0 = v.getD i 0 := by
  simp [put, List.getD, h]
theorem put_put (v : List Int) (k : Nat) (y z : Int) : (put v k y).set k z = put v k z := by simp [put]
theorem put_self (v : List Int) (k : Nat) (hk : k < v.length) : put v k (v.getD k 0) = v := by
  apply List.ext_getElem?
  intro i
  rw [put, List.getElem?_set]
  by_cases h : k = i
  · subst h; simp [List.getD, hk]
  · simp [h]
theorem fine_iff (v : List Int) (hv : v.length = 16) : fine v = true ↔ ∀ i, i < 16 → 0 ≤ v.getD i 0 ∧ v.getD i 0 ≤ 1048576 := by
  constructor
  · exact fun h i hi => fine_get v i hv hi h
  · intro h
    rw [fine, List.all_eq_true]
    intro x hx
    obtain ⟨i, hi, rfl⟩ := List.getElem_of_mem hx
    have := h i (by omega)
    simp only [List.getD, List.getElem?_eq_getElem hi, Option.getD_some] at this
    exact decide_eq_true this
theorem put_fine (v : List Int) (k : Nat) (y : Int) (hv : v.length = 16) (hk : k < 16) (hf : fine v = true) (h0 : 0 ≤ y) (h1 : y ≤ 1048576) : fine (put v k y) = true := by
  rw [fine_iff _ (put_length v k y hv)]
  intro i hi
  by_cases h : k = i
  · subst h; rw [put_same v k y (by omega)]; exact ⟨h0, h1⟩
  · rw [put_other v k i y h]; exact fine_get v i hv hi hf
theorem small_fine (v : List Int) (hv : v.length = 16) (hf : fine v = true) : Small v := by
  intro i
  by_cases hi : i < 16
  · have := fine_get v i hv hi hf; omega
  · have : v.getD i 0 = 0 := by simp [List.getD, List.getElem?_eq_none (by omega : v.length ≤ i)]
    omega
theorem lackTo_put (v : List Int) (k : Nat) (y t : Int) (hk : k < v.length) (hy : y ≤ t) (ht : t - y ≤ 4611686018427387904) : ∀ j, lackTo (put v k y) (put v k t) j = if k < j then t - y else 0
  | 0 => by simp [lackTo]
  | j + 1 => by
    rw [lackTo, lackTo_put v k y t hk hy ht j]
    by_cases h : k = j
    · subst h
      rw [put_same v k y hk, put_same v k t hk, if_neg (by omega), if_pos (by omega), gp]
      split <;> omega
    · rw [put_other v k j y h, put_other v k j t h, gp, if_pos (Int.le_refl _)]
      by_cases h2 : k < j
      · rw [if_pos h2, if_pos (by omega)]; omega
      · rw [if_neg h2, if_neg (by omega)]; omega
theorem lacks_put (v : List Int) (k : Nat) (y t : Int) (hv : v.length = 16) (hk : k < 16) (hy : y ≤ t) (ht : t - y ≤ 4611686018427387904) : lacks (put v k y) (put v k t) = t - y := by
  rw [lacks, lackTo_put v k y t (by omega) hy ht, if_pos hk]
theorem way_put (v : List Int) (k : Nat) (y : Int) (hv : v.length = 16) (hk : k < 16) : way (put v k y) (put v k (y + 1)) = 1 := by
  have hm : most (put v k y) (put v k (y + 1)) = true := (most_spec _ _).2 fun i hi => by
    by_cases h : k = i
    · subst h; rw [put_same v k y (by omega), put_same v k (y + 1) (by omega)]; omega
    · rw [put_other v k i y h, put_other v k i _ h]; exact Int.le_refl _
  rw [way, if_neg, if_pos hm]
  intro e
  have := congrArg (fun l => l.getD k 0) e
  simp only [put_same v k y (by omega), put_same v k (y + 1) (by omega)] at this
  omega

/-- What a round's calls come to. -/
structure Round (v : List Int) (k : Nat) (y n t : Int) : Prop where
  lack : ∀ W, Calls Try.prog 24 #[.agg (vals (put v k y)), .agg (vals (put v k t))] W fun e w' => e = .returned (.int .i64 n) ∧ Below W.heap.size W w'
  next : ∀ W, Calls Try.prog 10 #[.agg (vals (put v k y)), .int .i64 (k : Int)] W fun e w' => e = .returned (.tuple #[.agg (dotc (k : Int) (y + 1)), .int .i64 0]) ∧ Below W.heap.size W w'
  more : ∀ W, Calls Try.prog 12 #[.agg (vals (put v k y)), .agg (dotc (k : Int) (y + 1))] W fun e w' => e = .returned (.tuple #[.agg (vals (put v k (y + 1))), .int .i64 0]) ∧ Below W.heap.size W w'
  has : ∀ W, Calls Try.prog 16 #[.agg (vals (put v k (y + 1))), .agg (dotc (k : Int) (y + 1))] W fun e w' => e = .returned (.bool true) ∧ Below W.heap.size W w'
  not : ∀ W, Calls Try.prog 16 #[.agg (vals (put v k y)), .agg (dotc (k : Int) (y + 1))] W fun e w' => e = .returned (.bool false) ∧ Below W.heap.size W w'
  comp : ∀ W, Calls Try.prog 22 #[.agg (vals (put v k y)), .agg (vals (put v k (y + 1)))] W fun e w' => e = .returned (.int .i64 1) ∧ Below W.heap.size W w'

theorem round_ok (v : List Int) (k : Nat) (y n t : Int) (hv : v.length = 16) (hk : k < 16) (hf : fine v = true) (h0 : 0 ≤ y) (hn : 0 < n) (ht : y + n = t) (h1 : t ≤ 1048576) : Round v k y n t := by
  have l1 := put_length v k y hv
  have l2 := put_length v k t hv
  have l3 := put_length v k (y + 1) hv
  have f1 := put_fine v k y hv hk hf h0 (by omega)
  have f2 := put_fine v k t hv hk hf (by omega) (by omega)
  have g1 : (put v k y).getD k 0 = y := put_same v k y (by omega)
  have g3 : (put v k (y + 1)).getD k 0 = y + 1 := put_same v k (y + 1) (by omega)
  have hr : isrep (k : Int) = true := decide_eq_true ⟨by omega, by omega⟩
  have hd : okdot (k : Int) (y + 1) = true := decide_eq_true ⟨by omega, by omega, by omega, by omega⟩
  refine ⟨fun W => ?_, fun W => ?_, fun W => ?_, fun W => ?_, fun W => ?_, fun W => ?_⟩
  · have h := lacks_any _ _ l1 l2 (small_fine _ l1 f1) (small_fine _ l2 f2) W
    rw [lacks_put v k y t hv hk (by omega) (by omega), show t - y = n by omega] at h
    exact h
  · have h := next_any (put v k y) (k : Int) l1 W
    rw [nextR, nextN, nextE, Int.toNat_natCast, g1, f1, hr, decide_eq_true (by omega : y ≠ 1048576), if_neg (by omega : ¬ y = 1048576)] at h
    exact h
  · have h := with_any (put v k y) (k : Int) (y + 1) l1 W
    rw [withV, withE, Int.toNat_natCast, g1, f1, hd, decide_eq_true rfl, put_put, if_pos rfl] at h
    exact h
  · have h := has_any (put v k (y + 1)) (k : Int) (y + 1) l3 W
    rw [hasv, Int.toNat_natCast, g3, hd, decide_eq_true (Int.le_refl _)] at h
    exact h
  · have h := has_any (put v k y) (k : Int) (y + 1) l1 W
    rw [hasv, Int.toNat_natCast, g1, hd, decide_eq_false (by omega)] at h
    exact h
  · have h := compare_any _ _ l1 l3 W
    rw [way_put v k y hv hk] at h
    exact h
end Go.Proofs.Ytdphhkchodaeiaa
