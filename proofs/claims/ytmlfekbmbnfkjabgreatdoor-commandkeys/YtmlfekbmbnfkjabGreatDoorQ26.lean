/-
  Whole numbers of at most fifteen digits, plainly: just those texts that a number is written as.
-/
import Derived.Test.YtmlfekbmbnfkjabGreatDoorProg
import Derived.Lib.AtoiAll
import Derived.Lib.ItoaNum
namespace Go.Proofs.YtmlfekbmbnfkjabGreatDoor
set_option maxRecDepth 100000
open Go.Lib

def isDig (c : UInt8) : Bool := decide (48 ≤ c.toNat ∧ c.toNat ≤ 57)
def digV (acc : Nat) : List UInt8 → Nat
  | [] => acc
  | c :: r => digV (10 * acc + (c.toNat - 48)) r
def negB (l : List UInt8) : Bool := decide (l.head? = some 45)
def magL (l : List UInt8) : List UInt8 := if negB l then l.tail else l
def numF (neg : Bool) (m : List UInt8) : Option Int :=
  if m = [] ∨ 15 < m.length ∨ (m.head? = some 48 ∧ (1 < m.length ∨ neg = true)) ∨ m.all isDig = false then none
  else some (if neg then -(digV 0 m : Int) else (digV 0 m : Int))
def numTx (l : List UInt8) : Option Int := numF (negB l) (magL l)
theorem digV_snoc (m : List UInt8) (c : UInt8) : ∀ acc, digV acc (m ++ [c]) = 10 * digV acc m + (c.toNat - 48) := by
  induction m with
  | nil => intro acc; rfl
  | cons a m ih => intro acc; exact ih _
theorem digV_ge (m : List UInt8) : ∀ a : Nat, a ≤ digV a m := by
  induction m with
  | nil => exact fun a => Nat.le_refl a
  | cons c m ih => exact fun a => Nat.le_trans (by omega) (ih _)
theorem u8_ofNat_toNat (c : UInt8) (h : isDig c = true) : UInt8.ofNat (48 + (c.toNat - 48)) = c := by
  have := of_decide_eq_true (show decide _ = true from h)
  have e : 48 + (c.toNat - 48) = c.toNat := by omega
  rw [e]
  exact UInt8.ofNat_toNat
theorem dec_small {u : Nat} (h : u < 10) : decDigits u = [UInt8.ofNat (48 + u)] := by rw [decDigits, dif_pos h]
theorem dec_great {u : Nat} (h : ¬ u < 10) : decDigits u = decDigits (u / 10) ++ [UInt8.ofNat (48 + u % 10)] := by
  conv => lhs; rw [decDigits, dif_neg h]
theorem ofNat_dig {d : Nat} (h : d < 10) : (UInt8.ofNat (48 + d)).toNat = 48 + d := by
  rw [UInt8.toNat_ofNat']
  omega
theorem dig_ofNat {d : Nat} (h : d < 10) : isDig (UInt8.ofNat (48 + d)) = true := by
  unfold isDig
  rw [ofNat_dig h]
  exact decide_eq_true (by omega)
theorem dec_ne (u : Nat) : decDigits u ≠ [] := by
  by_cases h : u < 10
  · rw [dec_small h]; simp
  · rw [dec_great h]; simp
/-- What a number's digits are. -/
theorem dec_facts : ∀ (n u : Nat), u < n → digV 0 (decDigits u) = u ∧ (decDigits u).all isDig = true ∧ ((decDigits u).head? = some 48 → (decDigits u).length ≤ 1 ∧ u = 0) ∧ (∀ k, u < 10 ^ (k + 1) → (decDigits u).length ≤ k + 1)
  | 0, u, h => by omega
  | n + 1, u, hn => by
    by_cases h : u < 10
    · rw [dec_small h]
      refine ⟨?_, by simp only [List.all_cons, List.all_nil, dig_ofNat h, Bool.and_true], fun hh => ⟨by simp, ?_⟩, fun k _ => by simp⟩
      · show 10 * 0 + ((UInt8.ofNat (48 + u)).toNat - 48) = u
        rw [ofNat_dig h]; omega
      · simp only [List.head?_cons, Option.some.injEq] at hh
        have h1 := congrArg UInt8.toNat hh
        rw [ofNat_dig h] at h1
        have : (48 : UInt8).toNat = 48 := rfl
        omega
    · obtain ⟨i1, i2, i3, i4⟩ := dec_facts n (u / 10) (by omega)
      have hm : u % 10 < 10 := Nat.mod_lt _ (by decide)
      rw [dec_great h]
      refine ⟨?_, by rw [List.all_append, i2]; simp only [List.all_cons, List.all_nil, dig_ofNat hm, Bool.and_true], fun hh => ?_, fun k hk => ?_⟩
      · rw [digV_snoc, i1, ofNat_dig hm]; omega
      · cases hd : decDigits (u / 10) with
        | nil => exact absurd hd (dec_ne _)
        | cons a m =>
          rw [hd] at hh i3
          have := (i3 (by simpa using hh)).2
          omega
      · cases k with
        | zero => simp at hk; omega
        | succ k =>
          have := i4 k (by rw [Nat.pow_succ] at hk; omega)
          rw [List.length_append]
          simp only [List.length_cons, List.length_nil]
          omega
/-- Digits that begin with no 0 are those of their number. -/
theorem dec_back : ∀ (n : Nat) (m : List UInt8), m.length = n → m ≠ [] → m.all isDig = true → (m.head? = some 48 → m.length ≤ 1) → decDigits (digV 0 m) = m
  | 0, m, hl, hne, _, _ => absurd (List.length_eq_zero_iff.1 hl) hne
  | n + 1, m, hl, hne, hd, hh => by
    obtain ⟨m', c, rfl⟩ : ∃ m' c, m = m' ++ [c] := ⟨m.dropLast, m.getLast hne, (List.dropLast_concat_getLast hne).symm⟩
    rw [List.all_append] at hd
    simp only [List.all_cons, List.all_nil, Bool.and_true, Bool.and_eq_true] at hd
    obtain ⟨hd1, hd2⟩ := hd
    have hc := of_decide_eq_true (show decide _ = true from hd2)
    rw [digV_snoc]
    by_cases hm : m' = []
    · subst hm
      show decDigits (10 * 0 + (c.toNat - 48)) = [c]
      rw [dec_small (by omega), Nat.mul_zero, Nat.zero_add, u8_ofNat_toNat c hd2]
    · have hl' : m'.length = n := by simpa using hl
      have hh' : m'.head? ≠ some 48 := fun e => by
        cases m' with
        | nil => exact hm rfl
        | cons a r =>
          have := hh (by simpa using e)
          simp at this
      have ih := dec_back n m' hl' hm hd1 (fun e => absurd e hh')
      have h1 : 1 ≤ digV 0 m' := by
        cases m' with
        | nil => exact absurd rfl hm
        | cons a r =>
          have ha : isDig a = true := by simp only [List.all_cons, Bool.and_eq_true] at hd1; exact hd1.1
          have ha' := of_decide_eq_true (show decide _ = true from ha)
          have hne48 : a.toNat ≠ 48 := fun e => hh' (by
            simp only [List.head?_cons, Option.some.injEq]
            exact UInt8.toNat_inj.1 e)
          exact Nat.le_trans (by omega) (digV_ge r _)
      rw [dec_great (by omega)]
      have e1 : (10 * digV 0 m' + (c.toNat - 48)) / 10 = digV 0 m' := by omega
      have e2 : (10 * digV 0 m' + (c.toNat - 48)) % 10 = c.toNat - 48 := by omega
      rw [e1, e2, ih, u8_ofNat_toNat c hd2]
theorem parse_dig : ∀ (m : List UInt8) (acc : Nat), m.all isDig = true → (acc + 1) * 10 ^ m.length ≤ 1000000000000000 → parseUint10 acc m = .ok (digV acc m) ∧ digV acc m < 1000000000000000
  | [], acc, _, h => by
    simp only [List.length_nil, Nat.pow_zero, Nat.mul_one] at h
    exact ⟨rfl, by show acc < _; omega⟩
  | c :: r, acc, hd, h => by
    simp only [List.all_cons, Bool.and_eq_true] at hd
    have hc := of_decide_eq_true (show decide _ = true from hd.1)
    rw [List.length_cons, Nat.pow_succ] at h
    have hp : 1 ≤ 10 ^ r.length := Nat.one_le_pow _ _ (by decide)
    have h1 : (acc + 1) * 10 ≤ 1000000000000000 := by
      have h2 : (acc + 1) * (1 * 10) ≤ (acc + 1) * (10 ^ r.length * 10) := Nat.mul_le_mul_left _ (Nat.mul_le_mul_right _ hp)
      omega
    have h3 : (acc * 10 + (c.toNat - 48) + 1) * 10 ^ r.length ≤ 1000000000000000 := by
      have h4 : (acc * 10 + (c.toNat - 48) + 1) * 10 ^ r.length ≤ ((acc + 1) * 10) * 10 ^ r.length := Nat.mul_le_mul_right _ (by omega)
      have h5 : ((acc + 1) * 10) * 10 ^ r.length = (acc + 1) * (10 ^ r.length * 10) := by rw [Nat.mul_assoc, Nat.mul_comm 10]
      omega
    have ih := parse_dig r (acc * 10 + (c.toNat - 48)) hd.2 h3
    simp only [parseUint10]
    rw [if_pos hc, if_neg (by omega), if_neg (by omega)]
    show parseUint10 _ r = .ok (digV (10 * acc + (c.toNat - 48)) r) ∧ digV (10 * acc + (c.toNat - 48)) r < _
    rw [Nat.mul_comm 10 acc]
    exact ih
theorem num_is {neg : Bool} {m : List UInt8} {n : Int} (h : numF neg m = some n) :
    m ≠ [] ∧ m.length ≤ 15 ∧ ¬ (m.head? = some 48 ∧ (1 < m.length ∨ neg = true)) ∧ m.all isDig = true ∧ n = (if neg then -(digV 0 m : Int) else (digV 0 m : Int)) := by
  unfold numF at h
  split at h
  · cases h
  · rename_i hn
    simp only [not_or] at hn
    obtain ⟨h1, h2, h3, h4⟩ := hn
    exact ⟨h1, by omega, h3, by simpa using h4, by simpa using h.symm⟩
theorem head_dig {m : List UInt8} (hne : m ≠ []) (hd : m.all isDig = true) : ∃ c r, m = c :: r ∧ 48 ≤ c.toNat ∧ c.toNat ≤ 57 := by
  cases m with
  | nil => exact absurd rfl hne
  | cons c r =>
    simp only [List.all_cons, Bool.and_eq_true] at hd
    have := of_decide_eq_true (show decide _ = true from hd.1)
    exact ⟨c, r, rfl, this⟩
theorem num_pos {m : List UInt8} (hne : m ≠ []) (hd : m.all isDig = true) (h48 : m.head? ≠ some 48) : 1 ≤ digV 0 m := by
  obtain ⟨c, r, rfl, h1, h2⟩ := head_dig hne hd
  have : c.toNat ≠ 48 := fun e => h48 (by
    simp only [List.head?_cons, Option.some.injEq]
    exact UInt8.toNat_inj.1 e)
  exact Nat.le_trans (by omega) (digV_ge r _)
theorem pow15 {m : List UInt8} (h : m.length ≤ 15) : (0 + 1) * 10 ^ m.length ≤ 1000000000000000 := by
  have : 10 ^ m.length ≤ 10 ^ 15 := Nat.pow_le_pow_right (by decide) h
  omega
/-- Just the texts that a number is written as. -/
theorem whole_iff (l : List UInt8) (n : Int) : numTx l = some n ↔ atoiAll l = .ok n ∧ -999999999999999 ≤ n ∧ n ≤ 999999999999999 ∧ itoa n = l := by
  constructor
  · intro h
    obtain ⟨h1, h2, h3, h4, h5⟩ := num_is h
    obtain ⟨p1, p2⟩ := parse_dig (magL l) 0 h4 (pow15 h2)
    obtain ⟨c, r, hcr, c1, c2⟩ := head_dig h1 h4
    cases l with
    | nil => unfold magL negB at h1; simp at h1
    | cons a t =>
      by_cases hneg : a = 45
      · subst hneg
        have hm : magL (45 :: t) = t := rfl
        have hn : negB (45 :: t) = true := rfl
        rw [hm] at h1 h2 h3 h4 h5 p1 p2 hcr
        rw [hn] at h3 h5
        simp only [or_true, and_true] at h3
        have hpos := num_pos h1 h4 h3
        simp only [if_true] at h5
        refine ⟨?_, by omega, by omega, ?_⟩
        · unfold atoiAll
          have e45 : (45 : UInt8).toNat = 45 := rfl
          simp only [e45, or_true, if_true]
          unfold parseMag
          rw [if_neg h1, p1]
          simp only [not_true_eq_false, false_and, if_false, true_and]
          rw [if_neg (by omega), h5]
        · rw [h5]
          unfold itoa
          rw [if_pos (by omega), Int.natAbs_neg, Int.natAbs_natCast, dec_back _ t rfl h1 h4 (fun e => absurd e h3)]
      · have hn : negB (a :: t) = false := by
          unfold negB
          exact decide_eq_false (by simpa using hneg)
        have hm : magL (a :: t) = a :: t := by unfold magL; rw [hn]; rfl
        rw [hm] at h1 h2 h3 h4 h5 p1 p2 hcr
        rw [hn] at h3 h5
        obtain ⟨rfl, rfl⟩ := List.cons.inj hcr
        simp only [Bool.false_eq_true, or_false, if_false] at h3 h5
        refine ⟨?_, by omega, by omega, ?_⟩
        · unfold atoiAll
          simp only [show ¬ (a.toNat = 43 ∨ a.toNat = 45) by omega, if_false]
          unfold parseMag
          rw [if_neg h1, p1]
          simp only [show ¬ (a.toNat = 45) by omega, not_false_eq_true, true_and, false_and, if_false]
          rw [if_neg (by omega), h5]
        · rw [h5]
          unfold itoa
          rw [if_neg (by omega), Int.toNat_natCast, dec_back _ _ rfl h1 h4 (fun e => by
            rcases Nat.lt_or_ge 1 (a :: t).length with h' | h'
            · exact absurd ⟨e, h'⟩ h3
            · exact h')]
  · rintro ⟨-, h1, h2, rfl⟩
    unfold itoa
    by_cases hn : n < 0
    · rw [if_pos hn]
      have hu : n.natAbs < 1000000000000000 := by omega
      obtain ⟨d1, d2, d3, d4⟩ := dec_facts (n.natAbs + 1) n.natAbs (by omega)
      have d5 := d4 14 (by omega)
      have hm : magL (45 :: decDigits n.natAbs) = decDigits n.natAbs := rfl
      have hb : negB (45 :: decDigits n.natAbs) = true := rfl
      unfold numTx numF
      rw [hm, hb, if_neg, d1]
      · simp only [if_true]
        congr 1
        omega
      · rintro (h | h | h | h)
        · exact dec_ne _ h
        · omega
        · have := (d3 h.1).2; omega
        · rw [d2] at h; cases h
    · rw [if_neg hn]
      have hu : n.toNat < 1000000000000000 := by omega
      obtain ⟨d1, d2, d3, d4⟩ := dec_facts (n.toNat + 1) n.toNat (by omega)
      have d5 := d4 14 (by omega)
      obtain ⟨c, r, hcr, c1, c2⟩ := head_dig (dec_ne n.toNat) d2
      have hb : negB (decDigits n.toNat) = false := by
        rw [hcr]
        unfold negB
        refine decide_eq_false ?_
        simp only [List.head?_cons, Option.some.injEq]
        intro e
        have := congrArg UInt8.toNat e
        have e45 : (45 : UInt8).toNat = 45 := rfl
        omega
      have hm : magL (decDigits n.toNat) = decDigits n.toNat := by unfold magL; rw [hb]; rfl
      unfold numTx numF
      rw [hm, hb, if_neg, d1]
      · simp only [Bool.false_eq_true, if_false]
        congr 1
        omega
      · rintro (h | h | h | h)
        · exact dec_ne _ h
        · omega
        · have := (d3 h.1).1
          rcases h.2 with h5 | h5
          · omega
          · cases h5
        · rw [d2] at h; cases h
end Go.Proofs.YtmlfekbmbnfkjabGreatDoor

