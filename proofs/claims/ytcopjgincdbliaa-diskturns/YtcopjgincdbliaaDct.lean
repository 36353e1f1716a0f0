/-
  How many bits are turned: as many as the number has. No program is named here.
-/
import Derived.Test.YtcopjgincdbliaaDkb
namespace Go.Proofs.Ytcopjgincdbliaa.Dk

/-- How many of the first n are so. -/
def cnt (p : Nat → Bool) : Nat → Nat
  | 0 => 0
  | n + 1 => cnt p n + (if p n then 1 else 0)
theorem cnt_congr (p q : Nat → Bool) : ∀ n, (∀ i, i < n → p i = q i) → cnt p n = cnt q n
  | 0, _ => rfl
  | n + 1, h => by rw [cnt, cnt, cnt_congr p q n (fun i hi => h i (by omega)), h n (by omega)]
theorem cnt_add (p : Nat → Bool) (n : Nat) : ∀ m, cnt p (n + m) = cnt p n + cnt (fun j => p (n + j)) m
  | 0 => rfl
  | m + 1 => by rw [← Nat.add_assoc, cnt, cnt, cnt_add p n m, Nat.add_assoc]
theorem cnt_none (p : Nat → Bool) : ∀ n, (∀ i, i < n → p i = false) → cnt p n = 0
  | 0, _ => rfl
  | n + 1, h => by rw [cnt, cnt_none p n (fun i hi => h i (by omega)), h n (by omega)]; rfl
theorem cnt_le (p : Nat → Bool) : ∀ n, cnt p n ≤ n
  | 0 => Nat.le_refl _
  | n + 1 => by
    have := cnt_le p n
    rw [cnt]
    split <;> omega
/-- How many bits a number has, of the lowest f. -/
def pop : Nat → Nat → Nat
  | 0, _ => 0
  | f + 1, c => c % 2 + pop f (c / 2)
theorem pop_step : ∀ (f c : Nat), c < 2 ^ f → pop f c = c % 2 + pop f (c / 2)
  | 0, c, h => by
    have : c = 0 := by simpa using h
    subst this
    rfl
  | f + 1, c, h => by
    have h2 : c / 2 < 2 ^ f := by rw [Nat.pow_succ] at h; omega
    rw [pop, pop, pop_step f (c / 2) h2]
theorem pop_zero : ∀ f, pop f 0 = 0
  | 0 => rfl
  | f + 1 => by rw [pop, Nat.zero_div, pop_zero f]
theorem pop_cnt : ∀ (f c : Nat), pop f c = cnt (fun i => decide (c / 2 ^ (f - 1 - i) % 2 = 1)) f
  | 0, _ => rfl
  | f + 1, c => by
    rw [pop, pop_cnt f (c / 2), cnt, Nat.add_comm]
    congr 1
    · refine cnt_congr _ _ f fun i hi => ?_
      rw [Nat.div_div_eq_div_mul, ← Nat.pow_succ', show f + 1 - 1 - i = (f - 1 - i).succ by omega]
    · rw [show f + 1 - 1 - f = 0 by omega, Nat.pow_zero, Nat.div_one]
      by_cases h : c % 2 = 1
      · rw [h]; rfl
      · rw [if_neg (by simpa using h)]; omega
/-- Whether a bit of two lists differs. -/
def differ (a b : List UInt8) (q : Nat) : Bool := bit a q ^^ bit b q
theorem differ_byte (a b : List UInt8) (i : Nat) : cnt (differ a b) (8 * (i + 1)) = cnt (differ a b) (8 * i) + pop 8 ((a.getD i 0).toNat ^^^ (b.getD i 0).toNat) := by
  rw [show 8 * (i + 1) = 8 * i + 8 by omega, cnt_add, pop_cnt]
  congr 1
  refine cnt_congr _ _ 8 fun j hj => ?_
  rw [differ, bit, bit, show (8 * i + j) / 8 = i by omega, show 7 - (8 * i + j) % 8 = 8 - 1 - j by omega, ← Nat.testBit_xor, Nat.testBit_eq_decide_div_mod_eq]
/-- AS MANY BITS ARE TURNED AS THE NUMBER HAS. -/
theorem differ_turn (l : List UInt8) (k t : Nat) (hk : k + 16 ≤ 8 * l.length) : cnt (differ (turn l k t 16) l) (8 * l.length) = pop 16 t := by
  have hd : ∀ q, differ (turn l k t 16) l q = (decide (k ≤ q ∧ q < k + 16) && on t (q - k)) := by
    intro q
    rw [differ, turn_bit l k t q hk 16 (Nat.le_refl _), Bool.xor_comm (bit l q), Bool.xor_assoc, Bool.xor_self, Bool.xor_false]
  obtain ⟨m, hm⟩ : ∃ m, 8 * l.length = (k + 16) + m := ⟨8 * l.length - (k + 16), by omega⟩
  rw [hm, cnt_add, cnt_add, cnt_none (differ (turn l k t 16) l) k (fun i hi => by rw [hd, decide_eq_false (by omega), Bool.false_and]),
    cnt_none (fun j => differ (turn l k t 16) l (k + 16 + j)) m (fun i _ => by rw [hd, decide_eq_false (by omega), Bool.false_and]), pop_cnt, Nat.zero_add, Nat.add_zero]
  refine cnt_congr _ _ 16 fun i hi => ?_
  rw [hd, decide_eq_true (by omega), Bool.true_and, show k + i - k = i by omega, on]
/-- A crash of a disk of which nothing is fast, and all is kept. -/
theorem crash_whole (l : List UInt8) (at0 t : Int) (h2 : 2 ≤ l.length) : ∃ k T : Nat, k + 16 ≤ 8 * l.length ∧ (T : Int) = t % 65536 ∧ ∀ l' : List UInt8, l'.length = l.length → crash l' 0 (l.length : Int) at0 t = turn l' k T 16 := by
  refine ⟨(at0 % (8 * (l.length : Int) - 15)).toNat, (t % 65536).toNat, ?_, ?_, fun l' hl' => ?_⟩
  · have h0 := Int.emod_nonneg at0 (show (8 * (l.length : Int) - 15) ≠ 0 by omega)
    have h1 := Int.emod_lt_of_pos at0 (show 0 < (8 * (l.length : Int) - 15) by omega)
    omega
  · have := Int.emod_nonneg t (show (65536 : Int) ≠ 0 by omega)
    omega
  · have hk : kept l' 0 (l.length : Int) = l.length := by unfold kept; omega
    rw [crash, hk, left, if_pos h2, List.take_zero, List.nil_append, List.drop_zero, ← hl', List.take_length]
end Go.Proofs.Ytcopjgincdbliaa.Dk
