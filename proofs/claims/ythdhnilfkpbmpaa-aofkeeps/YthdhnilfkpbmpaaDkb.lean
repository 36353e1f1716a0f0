/-
  Bits of bytes, turned: which ones, in whatever order. No program is named here.
-/
import Derived.WalkKit
namespace Go.Proofs.Ythdhnilfkpbmpaa.Dk

set_option maxRecDepth 100000

/-- One bit turned. -/
def flip (l : List UInt8) (p : Nat) : List UInt8 := l.set (p / 8) (l.getD (p / 8) 0 ^^^ UInt8.ofNat (128 / 2 ^ (p % 8)))
theorem flip_length (l : List UInt8) (p : Nat) : (flip l p).length = l.length := by simp [flip]
theorem mask_is : ∀ c : Fin 8, (UInt8.ofNat (128 / 2 ^ c.val)).toNat = 2 ^ (7 - c.val) := by decide
/-- A bit. -/
def bit (l : List UInt8) (q : Nat) : Bool := (l.getD (q / 8) 0).toNat.testBit (7 - q % 8)
theorem bit_flip (l : List UInt8) (p q : Nat) (hp : p < 8 * l.length) : bit (flip l p) q = (bit l q ^^ decide (q = p)) := by
  have hq : p / 8 < l.length := by omega
  have hm := mask_is ⟨p % 8, by omega⟩
  simp only at hm
  rw [bit, bit, flip]
  by_cases h : q / 8 = p / 8
  · rw [h, List.getD_eq_getElem?_getD, List.getElem?_set_self hq, Option.getD_some, UInt8.toNat_xor, Nat.testBit_xor, hm, Nat.testBit_two_pow]
    congr 1
    rw [decide_eq_decide]
    omega
  · rw [List.getD_eq_getElem?_getD, List.getElem?_set_ne (fun e => h e.symm), ← List.getD_eq_getElem?_getD, decide_eq_false (by omega), Bool.xor_false]
theorem bit_ext (a b : List UInt8) (hl : a.length = b.length) (h : ∀ q, q < 8 * a.length → bit a q = bit b q) : a = b := by
  apply List.ext_getElem hl
  intro j h1 h2
  apply UInt8.toNat_inj.1
  apply Nat.eq_of_testBit_eq
  intro i
  by_cases hi : i < 8
  · have := h (8 * j + (7 - i)) (by omega)
    rw [bit, bit, show (8 * j + (7 - i)) / 8 = j by omega, show 7 - (8 * j + (7 - i)) % 8 = i by omega] at this
    simpa [List.getD, h1, h2] using this
  · have e : ∀ x : UInt8, x.toNat.testBit i = false := fun x => Nat.testBit_lt_two_pow (Nat.lt_of_lt_of_le x.toNat_lt (by
      have : 2 ^ 8 ≤ 2 ^ i := Nat.pow_le_pow_right (by omega) (by omega)
      omega))
    rw [e, e]
/-- Whether the i-th of sixteen bits is turned. -/
def on (t i : Nat) : Bool := decide (t / 2 ^ (15 - i) % 2 = 1)
/-- Bits turned, one behind the other: the highest bit of t at place k. -/
def turn (l : List UInt8) (k t : Nat) : Nat → List UInt8
  | 0 => l
  | i + 1 => if t / 2 ^ (15 - i) % 2 = 1 then flip (turn l k t i) (k + i) else turn l k t i
theorem turn_length (l : List UInt8) (k t : Nat) : ∀ i, (turn l k t i).length = l.length
  | 0 => rfl
  | i + 1 => by
    rw [turn]
    split
    · rw [flip_length, turn_length l k t i]
    · exact turn_length l k t i
theorem turn_bit (l : List UInt8) (k t q : Nat) (hk : k + 16 ≤ 8 * l.length) : ∀ i, i ≤ 16 → bit (turn l k t i) q = (bit l q ^^ (decide (k ≤ q ∧ q < k + i) && on t (q - k)))
  | 0, _ => by rw [turn, decide_eq_false (by omega), Bool.false_and, Bool.xor_false]
  | i + 1, hi => by
    have ih := turn_bit l k t q hk i (by omega)
    rw [turn]
    by_cases hb : t / 2 ^ (15 - i) % 2 = 1
    · rw [if_pos hb, bit_flip _ _ _ (by rw [turn_length]; omega), ih, Bool.xor_assoc]
      congr 1
      by_cases hq : q = k + i
      · subst hq
        rw [decide_eq_false (by omega), decide_eq_true rfl, decide_eq_true (by omega), show k + i - k = i by omega, on, decide_eq_true hb]; rfl
      · rw [decide_eq_false hq, Bool.xor_false]
        congr 1
        rw [decide_eq_decide]
        omega
    · rw [if_neg hb, ih]
      congr 1
      by_cases hq : q = k + i
      · subst hq
        rw [decide_eq_false (by omega), show k + i - k = i by omega, on, decide_eq_false hb, Bool.and_false, Bool.and_false]
      · congr 1
        rw [decide_eq_decide]
        omega
/-- The same from the lowest bit on. -/
def back (l : List UInt8) (k t : Nat) : Nat → List UInt8
  | 0 => l
  | j + 1 => if t / 2 ^ j % 2 = 1 then flip (back l k t j) (k + (15 - j)) else back l k t j
theorem back_length (l : List UInt8) (k t : Nat) : ∀ i, (back l k t i).length = l.length
  | 0 => rfl
  | i + 1 => by
    rw [back]
    split
    · rw [flip_length, back_length l k t i]
    · exact back_length l k t i
theorem back_bit (l : List UInt8) (k t q : Nat) (hk : k + 16 ≤ 8 * l.length) : ∀ j, j ≤ 16 → bit (back l k t j) q = (bit l q ^^ (decide (k + (16 - j) ≤ q ∧ q < k + 16) && on t (q - k)))
  | 0, _ => by rw [back, decide_eq_false (by omega), Bool.false_and, Bool.xor_false]
  | j + 1, hj => by
    have ih := back_bit l k t q hk j (by omega)
    rw [back]
    by_cases hb : t / 2 ^ j % 2 = 1
    · rw [if_pos hb, bit_flip _ _ _ (by rw [back_length]; omega), ih, Bool.xor_assoc]
      congr 1
      by_cases hq : q = k + (15 - j)
      · subst hq
        rw [decide_eq_false (by omega), decide_eq_true rfl, decide_eq_true (by omega), show k + (15 - j) - k = 15 - j by omega, on, show 15 - (15 - j) = j by omega, decide_eq_true hb]; rfl
      · rw [decide_eq_false hq, Bool.xor_false]
        congr 1
        rw [decide_eq_decide]
        omega
    · rw [if_neg hb, ih]
      congr 1
      by_cases hq : q = k + (15 - j)
      · subst hq
        rw [decide_eq_false (by omega), show k + (15 - j) - k = 15 - j by omega, on, show 15 - (15 - j) = j by omega, decide_eq_false hb, Bool.and_false, Bool.and_false]
      · congr 1
        rw [decide_eq_decide]
        omega
theorem back_turn (l : List UInt8) (k t : Nat) (hk : k + 16 ≤ 8 * l.length) : back l k t 16 = turn l k t 16 := by
  apply bit_ext
  · rw [back_length, turn_length]
  · intro q _
    rw [back_bit l k t q hk 16 (Nat.le_refl _), turn_bit l k t q hk 16 (Nat.le_refl _)]
    rfl
/-- TURNED ONCE MORE they are as they were. -/
theorem turn_twice (l : List UInt8) (k t : Nat) (hk : k + 16 ≤ 8 * l.length) : turn (turn l k t 16) k t 16 = l := by
  apply bit_ext
  · rw [turn_length, turn_length]
  · intro q _
    rw [turn_bit _ k t q (by rw [turn_length]; exact hk) 16 (Nat.le_refl _), turn_bit l k t q hk 16 (Nat.le_refl _), Bool.xor_assoc, Bool.xor_self, Bool.xor_false]
theorem turn_zero (l : List UInt8) (k : Nat) : ∀ i, turn l k 0 i = l
  | 0 => rfl
  | i + 1 => by rw [turn, if_neg (by simp), turn_zero l k i]
/-- Behind others. -/
theorem flip_app (a b : List UInt8) (p : Nat) : flip (a ++ b) (8 * a.length + p) = a ++ flip b p := by
  rw [flip, flip, show (8 * a.length + p) / 8 = a.length + p / 8 by omega, show (8 * a.length + p) % 8 = p % 8 by omega, List.set_append_right _ _ (by omega), Nat.add_sub_cancel_left]
  congr 2
  rw [List.getD_eq_getElem?_getD, List.getElem?_append_right (by omega), Nat.add_sub_cancel_left, ← List.getD_eq_getElem?_getD]
theorem turn_app (a b : List UInt8) (k t : Nat) : ∀ i, turn (a ++ b) (8 * a.length + k) t i = a ++ turn b k t i
  | 0 => rfl
  | i + 1 => by
    rw [turn, turn, turn_app a b k t i]
    split
    · rw [Nat.add_assoc, flip_app]
    · rfl

/-- WHAT A CRASH LEAVES: of the bytes that aren't fast n are kept; if they are two, bits of these are turned. -/
def left (l : List UInt8) (f n k t : Nat) : List UInt8 := l.take f ++ (if 2 ≤ n then turn ((l.drop f).take n) k t 16 else (l.drop f).take n)
/-- How many are kept. -/
def kept (l : List UInt8) (f : Nat) (x : Int) : Nat := (min (max x 0) ((l.length : Int) - (f : Int))).toNat
/-- Behind a crash. -/
def crash (l : List UInt8) (f : Nat) (x at0 t : Int) : List UInt8 := left l f (kept l f x) (at0 % (8 * (kept l f x : Int) - 15)).toNat (t % 65536).toNat
theorem kept_le (l : List UInt8) (f : Nat) (x : Int) : kept l f x ≤ l.length - f := by unfold kept; omega
theorem left_length (l : List UInt8) (f n k t : Nat) (hf : f ≤ l.length) (hn : n ≤ l.length - f) : (left l f n k t).length = f + n := by
  rw [left, List.length_append, List.length_take]
  split
  · rw [turn_length, List.length_take, List.length_drop]; omega
  · rw [List.length_take, List.length_drop]; omega
end Go.Proofs.Ythdhnilfkpbmpaa.Dk
