/-
  The check of bytes, by itself: what doubling and bytes do to a number of 16 bits; it is linear, and no step loses anything. No program is named here.
-/
import Derived.WalkKit
namespace Go.Proofs.Ythdhnilfkpbmpaa.Ck

set_option maxRecDepth 100000

def dbl (x : BitVec 16) : BitVec 16 := (x <<< 1) ^^^ (if x.msb then 4129#16 else 0#16)
def rep : Nat → BitVec 16 → BitVec 16
  | 0, x => x
  | k + 1, x => rep k (dbl x)
/-- A byte as the lowest eight bits, and as the highest. -/
def low (c : UInt8) : BitVec 16 := BitVec.ofNat 16 c.toNat
def up (c : UInt8) : BitVec 16 := BitVec.ofNat 16 (c.toNat * 256)
def step (x : BitVec 16) (c : UInt8) : BitVec 16 := rep 8 (x ^^^ up c)
def fold (x : BitVec 16) (l : List UInt8) : BitVec 16 := l.foldl step x
def crc (l : List UInt8) : BitVec 16 := fold 65535#16 l
def hi (x : BitVec 16) : UInt8 := UInt8.ofNat (x.toNat / 256)
def lo (x : BitVec 16) : UInt8 := UInt8.ofNat (x.toNat % 256)
def word (a b : UInt8) : BitVec 16 := BitVec.ofNat 16 (a.toNat * 256 + b.toNat)
def sealed (l : List UInt8) : List UInt8 := l ++ [hi (crc l), lo (crc l)]

theorem shl_xor (x y : BitVec 16) (k : Nat) : (x ^^^ y) <<< k = (x <<< k) ^^^ (y <<< k) := BitVec.shiftLeft_xor_distrib x y k
theorem dbl_xor (x y : BitVec 16) : dbl (x ^^^ y) = dbl x ^^^ dbl y := by
  unfold dbl
  rw [shl_xor, BitVec.msb_xor]
  generalize x <<< 1 = a
  generalize y <<< 1 = b
  cases x.msb <;> cases y.msb <;> simp
  · rw [BitVec.xor_assoc]
  · rw [BitVec.xor_assoc, BitVec.xor_assoc, BitVec.xor_comm b]
  · rw [BitVec.xor_assoc a, ← BitVec.xor_assoc (4129#16), BitVec.xor_comm (4129#16) b, BitVec.xor_assoc b, BitVec.xor_self, BitVec.xor_zero]
theorem dbl_zero : dbl 0#16 = 0#16 := by decide
theorem rep_xor : ∀ (k : Nat) (x y : BitVec 16), rep k (x ^^^ y) = rep k x ^^^ rep k y
  | 0, _, _ => rfl
  | k + 1, x, y => by rw [rep, dbl_xor, rep_xor k]; rfl
theorem rep_zero : ∀ k, rep k 0#16 = 0#16
  | 0 => rfl
  | k + 1 => by rw [rep, dbl_zero, rep_zero k]
theorem rep_add : ∀ (j k : Nat) (x : BitVec 16), rep (j + k) x = rep k (rep j x)
  | 0, k, x => by rw [Nat.zero_add]; rfl
  | j + 1, k, x => by rw [show j + 1 + k = j + k + 1 by omega, rep, rep_add j k]; rfl
theorem rep_succ (k : Nat) (x : BitVec 16) : rep (k + 1) x = dbl (rep k x) := by rw [rep_add k 1]; rfl

theorem dbl_toNat (x : BitVec 16) : (dbl x).toNat = if 32768 ≤ x.toNat then (2 * x.toNat - 65536) ^^^ 4129 else 2 * x.toNat := by
  have hx := x.isLt
  unfold dbl
  rw [BitVec.msb_eq_decide]
  by_cases h : 32768 ≤ x.toNat
  · rw [if_pos h, if_pos (by simpa using h), BitVec.toNat_xor, BitVec.toNat_shiftLeft, Nat.shiftLeft_eq, show x.toNat * 2 ^ 1 % 2 ^ 16 = 2 * x.toNat - 65536 by omega]
    rfl
  · rw [if_neg h, if_neg (by simpa using h), BitVec.xor_zero, BitVec.toNat_shiftLeft, Nat.shiftLeft_eq]
    omega

theorem dbl_eq_zero (x : BitVec 16) (h : dbl x = 0#16) : x = 0#16 := by
  have hx := x.isLt
  have ht : (dbl x).toNat = 0 := by rw [h]; rfl
  rw [dbl_toNat] at ht
  by_cases h1 : 32768 ≤ x.toNat
  · rw [if_pos h1] at ht
    have hb := congrArg (fun n => Nat.testBit n 0) ht
    simp only [Nat.testBit_xor, Nat.zero_testBit] at hb
    have h2 : (2 * x.toNat - 65536).testBit 0 = false := by
      rw [Nat.testBit_zero]; simp; omega
    rw [h2] at hb
    exact absurd hb (by decide)
  · rw [if_neg h1] at ht
    apply BitVec.eq_of_toNat_eq
    rw [show (0#16 : BitVec 16).toNat = 0 from rfl]
    omega
theorem rep_eq_zero : ∀ (k : Nat) (x : BitVec 16), rep k x = 0#16 → x = 0#16
  | 0, _, h => h
  | k + 1, x, h => dbl_eq_zero x (rep_eq_zero k _ h)

theorem xor_eq_zero (x y : BitVec 16) : x ^^^ y = 0#16 ↔ x = y := by
  constructor
  · intro h
    have : (x ^^^ y) ^^^ y = 0#16 ^^^ y := by rw [h]
    rwa [BitVec.xor_assoc, BitVec.xor_self, BitVec.xor_zero, BitVec.zero_xor] at this
  · rintro rfl; exact BitVec.xor_self

theorem up_xor (a b : UInt8) : up (a ^^^ b) = up a ^^^ up b := by
  apply BitVec.eq_of_toNat_eq
  unfold up
  have ha := a.toNat_lt
  have hb := b.toNat_lt
  rw [BitVec.toNat_xor, BitVec.toNat_ofNat, BitVec.toNat_ofNat, BitVec.toNat_ofNat, UInt8.toNat_xor]
  have hx : a.toNat ^^^ b.toNat < 2 ^ 8 := Nat.xor_lt_two_pow ha hb
  rw [Nat.mod_eq_of_lt (by omega), Nat.mod_eq_of_lt (by omega), Nat.mod_eq_of_lt (by omega)]
  rw [show 256 = 2 ^ 8 from rfl, ← Nat.shiftLeft_eq, ← Nat.shiftLeft_eq, ← Nat.shiftLeft_eq, Nat.shiftLeft_xor_distrib]
theorem up_zero : up 0 = 0#16 := by decide

theorem step_xor (x y : BitVec 16) (a b : UInt8) : step (x ^^^ y) (a ^^^ b) = step x a ^^^ step y b := by
  unfold step
  rw [up_xor, ← rep_xor]
  congr 1
  rw [BitVec.xor_assoc, BitVec.xor_assoc, ← BitVec.xor_assoc y, BitVec.xor_comm y, BitVec.xor_assoc]

theorem fold_append (x : BitVec 16) (a b : List UInt8) : fold x (a ++ b) = fold (fold x a) b := List.foldl_append
theorem fold_xor : ∀ (a b : List UInt8) (x y : BitVec 16), a.length = b.length → fold (x ^^^ y) (List.zipWith (· ^^^ ·) a b) = fold x a ^^^ fold y b
  | [], [], _, _, _ => rfl
  | a :: as, b :: bs, x, y, h => by
    have h' : as.length = bs.length := by simpa using h
    show fold (step (x ^^^ y) (a ^^^ b)) (List.zipWith (· ^^^ ·) as bs) = fold (step x a) as ^^^ fold (step y b) bs
    rw [step_xor, fold_xor as bs _ _ h']
  | [], _ :: _, _, _, h => by simp at h
  | _ :: _, [], _, _, h => by simp at h
theorem zip_zero : ∀ (a : List UInt8), List.zipWith (· ^^^ ·) a (List.replicate a.length 0) = a
  | [] => rfl
  | a :: as => by
    rw [List.length_cons, List.replicate_succ, List.zipWith_cons_cons, zip_zero as]
    simp

theorem linear (a b : List UInt8) (h : a.length = b.length) :
    crc (List.zipWith (· ^^^ ·) a b) = crc a ^^^ crc b ^^^ crc (List.replicate a.length 0) := by
  unfold crc
  rw [← fold_xor a b _ _ h]
  have hl : (List.zipWith (· ^^^ ·) a b).length = a.length := by rw [List.length_zipWith, ← h, Nat.min_self]
  have hz := fold_xor (List.zipWith (· ^^^ ·) a b) (List.replicate a.length 0) (65535#16 ^^^ 65535#16) 65535#16 (by rw [hl, List.length_replicate])
  rw [← hz]
  have h1 := zip_zero (List.zipWith (· ^^^ ·) a b)
  rw [hl] at h1
  rw [h1, BitVec.xor_self, BitVec.zero_xor]

theorem fold_shift : ∀ (l : List UInt8) (x y : BitVec 16), fold (x ^^^ y) l = fold x l ^^^ rep (8 * l.length) y
  | [], _, _ => rfl
  | c :: l, x, y => by
    have h := step_xor x y c 0
    rw [UInt8.xor_zero] at h
    show fold (step (x ^^^ y) c) l = fold (step x c) l ^^^ _
    rw [h, fold_shift l, List.length_cons, show 8 * (l.length + 1) = 8 + 8 * l.length by omega, rep_add]
    unfold step
    rw [up_zero, BitVec.xor_zero]

theorem fold_flip (x : BitVec 16) (l : List UInt8) (q : Nat) (d : UInt8) (hq : q < l.length) :
    fold x (l.set q (l[q] ^^^ d)) = fold x l ^^^ rep (8 * (l.length - q)) (up d) := by
  have e1 : l = l.take q ++ l[q] :: l.drop (q + 1) := by
    rw [← List.drop_eq_getElem_cons hq, List.take_append_drop]
  have e2 : l.set q (l[q] ^^^ d) = l.take q ++ (l[q] ^^^ d) :: l.drop (q + 1) := List.set_eq_take_append_cons_drop .. |>.trans (by rw [if_pos hq])
  rw [e2]
  conv => rhs; rw [e1]
  rw [fold_append, fold_append]
  generalize fold x (l.take q) = y
  have hl : (l.take q ++ l[q] :: l.drop (q + 1)).length = l.length := by rw [← e1]
  show fold (step y (l[q] ^^^ d)) _ = fold (step y l[q]) _ ^^^ _
  rw [hl]
  have h := step_xor y 0#16 l[q] d
  rw [BitVec.xor_zero] at h
  rw [h, fold_shift]
  congr 1
  unfold step
  rw [BitVec.zero_xor, ← rep_add, List.length_drop]
  congr 1
  omega

theorem rep_pow : ∀ r : Fin 16, rep r.val (BitVec.ofNat 16 (32768 / 2 ^ r.val)) = 32768#16 := by decide +kernel
theorem up_pow : ∀ r : Fin 8, up (UInt8.ofNat (128 / 2 ^ r.val)) = BitVec.ofNat 16 (32768 / 2 ^ r.val) := by decide +kernel
/-- One bit of a list turned. -/
theorem fold_turn (x : BitVec 16) (l : List UInt8) (k i : Nat) (hi : i < 16) (hk : k + 16 ≤ 8 * l.length) (hq : (k + i) / 8 < l.length) :
    fold x (l.set ((k + i) / 8) (l[(k + i) / 8] ^^^ UInt8.ofNat (128 / 2 ^ ((k + i) % 8)))) = fold x l ^^^ rep (8 * l.length - k) (BitVec.ofNat 16 (32768 / 2 ^ i)) := by
  rw [fold_flip]
  congr 1
  have h1 := up_pow ⟨(k + i) % 8, by omega⟩
  have h2 := rep_pow ⟨(k + i) % 8, by omega⟩
  have h3 := rep_pow ⟨i, hi⟩
  simp only at h1 h2 h3
  rw [h1]
  have e1 : 8 * (l.length - (k + i) / 8) = (k + i) % 8 + (8 * l.length - k - i) := by omega
  have e2 : 8 * l.length - k = i + (8 * l.length - k - i) := by omega
  rw [e1, rep_add, h2, e2, rep_add, h3]
  congr 1
  omega

/-- The highest i bits of a number. -/
def tops (t : BitVec 16) : Nat → BitVec 16
  | 0 => 0#16
  | i + 1 => tops t i ^^^ (if t.toNat / 2 ^ (15 - i) % 2 = 1 then BitVec.ofNat 16 (32768 / 2 ^ i) else 0#16)
theorem pow_bit : ∀ (i j : Fin 16), (BitVec.ofNat 16 (32768 / 2 ^ i.val)).getLsbD j.val = decide (j.val = 15 - i.val) := by decide +kernel
theorem tops_bit (t : BitVec 16) : ∀ (i : Nat), i ≤ 16 → ∀ j, j < 16 → (tops t i).getLsbD j = (decide (16 ≤ i + j) && t.getLsbD j)
  | 0, _, j, hj => by
    rw [tops, decide_eq_false (by omega)]
    simp
  | i + 1, hi, j, hj => by
    rw [tops, BitVec.getLsbD_xor, tops_bit t i (by omega) j hj]
    have hb : t.toNat / 2 ^ (15 - i) % 2 = 1 ↔ t.getLsbD (15 - i) = true := by
      rw [BitVec.getLsbD, Nat.testBit_eq_decide_div_mod_eq]
      simp
    have hp := pow_bit ⟨i, by omega⟩ ⟨j, hj⟩
    simp only at hp
    by_cases hj2 : j = 15 - i
    · subst hj2
      have h1 : ¬ 16 ≤ i + (15 - i) := by omega
      have h2 : 16 ≤ i + 1 + (15 - i) := by omega
      by_cases hc : t.toNat / 2 ^ (15 - i) % 2 = 1
      · rw [if_pos hc, hp, hb.1 hc]; simp [h1, h2]
      · rw [if_neg hc]
        have : t.getLsbD (15 - i) = false := by
          rcases Bool.eq_false_or_eq_true (t.getLsbD (15 - i)) with h | h
          · exact absurd (hb.2 h) hc
          · exact h
        rw [this]; simp
    · have h1 : (decide (16 ≤ i + j)) = decide (16 ≤ i + 1 + j) := by rw [decide_eq_decide]; omega
      by_cases hc : t.toNat / 2 ^ (15 - i) % 2 = 1
      · rw [if_pos hc, hp, h1]; simp [hj2]
      · rw [if_neg hc, h1]; simp
theorem tops_all (t : BitVec 16) : tops t 16 = t := by
  apply BitVec.eq_of_getLsbD_eq
  intro j hj
  rw [tops_bit t 16 (by omega) j hj]
  simp

theorem low_up (c : UInt8) : rep 8 (low c) = up c :=
  (by decide +kernel : ∀ n : Fin 256, rep 8 (BitVec.ofNat 16 n.val) = BitVec.ofNat 16 (n.val * 256)) ⟨c.toNat, c.toNat_lt⟩
theorem word_parts (a b : UInt8) : word a b = up a ^^^ low b := by
  apply BitVec.eq_of_toNat_eq
  unfold word up low
  have ha := a.toNat_lt
  have hb := b.toNat_lt
  rw [BitVec.toNat_xor, BitVec.toNat_ofNat, BitVec.toNat_ofNat, BitVec.toNat_ofNat]
  rw [Nat.mod_eq_of_lt (by omega), Nat.mod_eq_of_lt (by omega), Nat.mod_eq_of_lt (by omega)]
  generalize a.toNat = m at *
  generalize b.toNat = n at *
  apply Nat.eq_of_testBit_eq
  intro i
  rw [Nat.testBit_xor, show m * 256 + n = 2 ^ 8 * m + n by omega, Nat.testBit_two_pow_mul_add _ (by omega), show m * 256 = 2 ^ 8 * m by omega, Nat.testBit_two_pow_mul]
  by_cases h : i < 8
  · rw [if_pos h]
    have : ¬ i ≥ 8 := by omega
    simp [this]
  · rw [if_neg h]
    have h2 : n.testBit i = false := Nat.testBit_lt_two_pow (Nat.lt_of_lt_of_le hb (Nat.pow_le_pow_right (by omega) (by omega : 8 ≤ i)))
    have : i ≥ 8 := by omega
    simp [this, h2]
/-- Just the check behind them turns a number to 0. -/
theorem fold_two (x : BitVec 16) (a b : UInt8) : fold x [a, b] = 0#16 ↔ x = word a b := by
  have e : fold x [a, b] = rep 16 (x ^^^ word a b) := by
    show step (step x a) b = _
    unfold step
    rw [← low_up b, ← rep_xor, word_parts, rep_add 8 8, BitVec.xor_assoc]
  rw [e, ← xor_eq_zero x]
  exact ⟨rep_eq_zero 16 _, fun h => by rw [h, rep_zero]⟩
end Go.Proofs.Ythdhnilfkpbmpaa.Ck
