/-
  Whole numbers of at most fifteen digits, plainly: just those texts that a number is written as.
-/
import Derived.Test.YtmlfekbmbnfkjabGreatDoorProg
import Derived.Lib.AtoiAll
import Derived.Lib.ItoaNum
import Derived.Test.YtmlfekbmbnfkjabGreatDoorR10
import Derived.Shelf.Slices.In.SortNone
import Derived.Test.YtmlfekbmbnfkjabGreatDoorR08
import Derived.Sort.OwnSorted
import Derived.Sort.Grow
import Derived.Lib.OwnBridge
import Derived.Sort.EveryDepth
import Derived.Test.YtmlfekbmbnfkjabGreatDoorR09
import Derived.Shelf.Strconv.Itoa3
import Derived.Lib.ItoaLen
import Derived.Below
import Derived.Shelf.Strconv.ErrVarAll
namespace Go.Proofs.YtmlfekbmbnfkjabGreatDoor
set_option maxRecDepth 100000
open Go.Lib

def isDig (c : UInt8) : Bool := decide (48 ≤ c.toNat ∧ c.toNat ≤ 57)
def digV (acc : Nat) : List UInt8 → Nat
  | [] => acc
  | c :: r => digV (10 * acc + (c.toNat - 48)) r
def negB (l : List UInt8) : Bool := decide (l.head? = some 45)
def magL (l : List UInt8) : List UInt8 := if negB l then l.tail else l
def numF (neg : Bool) (m : List UInt8) : Option Int :=
  if m = [] ∨ 15 < m.length ∨ (m.head? = some 48 ∧ (1 < m.length ∨ neg = true)) ∨ m.all isDig = false then none
  else some (if neg then -(digV 0 m : Int) else (digV 0 m : Int))
def numTx (l : List UInt8) : Option Int := numF (negB l) (magL l)
theorem digV_snoc (m : List UInt8) (c : UInt8) : ∀ acc, digV acc (m ++ [c]) = 10 * digV acc m + (c.toNat - 48) := by
  induction m with
  | nil => intro acc; rfl
  | cons a m ih => intro acc; exact ih _
theorem digV_ge (m : List UInt8) : ∀ a : Nat, a ≤ digV a m := by
  induction m with
  | nil => exact fun a => Nat.le_refl a
  | cons c m ih => exact fun a => Nat.le_trans (by omega) (ih _)
theorem u8_ofNat_toNat (c : UInt8) (h : isDig c = true) : UInt8.ofNat (48 + (c.toNat - 48)) = c := by
  have := of_decide_eq_true (show decide _ = true from h)
  have e : 48 + (c.toNat - 48) = c.toNat := by omega
  rw [e]
  exact UInt8.ofNat_toNat
theorem dec_small {u : Nat} (h : u < 10) : decDigits u = [UInt8.ofNat (48 + u)] := by rw [decDigits, dif_pos h]
theorem dec_great {u : Nat} (h : ¬ u < 10) : decDigits u = decDigits (u / 10) ++ [UInt8.ofNat (48 + u % 10)] := by
  conv => lhs; rw [decDigits, dif_neg h]
theorem ofNat_dig {d : Nat} (h : d < 10) : (UInt8.ofNat (48 + d)).toNat = 48 + d := by
  rw [UInt8.toNat_ofNat']
  omega
theorem dig_ofNat {d : Nat} (h : d < 10) : isDig (UInt8.ofNat (48 + d)) = true := by
  unfold isDig
  rw [ofNat_dig h]
  exact decide_eq_true (by omega)
theorem dec_ne (u : Nat) : decDigits u ≠ [] := by
  by_cases h : u < 10
  · rw [dec_small h]; simp
  · rw [dec_great h]; simp
/-- What a number's digits are. -/
theorem dec_facts : ∀ (n u : Nat), u < n → digV 0 (decDigits u) = u ∧ (decDigits u).all isDig = true ∧ ((decDigits u).head? = some 48 → (decDigits u).length ≤ 1 ∧ u = 0) ∧ (∀ k, u < 10 ^ (k + 1) → (decDigits u).length ≤ k + 1)
  | 0, u, h => by omega
  | n + 1, u, hn => by
    by_cases h : u < 10
    · rw [dec_small h]
      refine ⟨?_, by simp only [List.all_cons, List.all_nil, dig_ofNat h, Bool.and_true], fun hh => ⟨by simp, ?_⟩, fun k _ => by simp⟩
      · show 10 * 0 + ((UInt8.ofNat (48 + u)).toNat - 48) = u
        rw [ofNat_dig h]; omega
      · simp only [List.head?_cons, Option.some.injEq] at hh
        have h1 := congrArg UInt8.toNat hh
        rw [ofNat_dig h] at h1
        have : (48 : UInt8).toNat = 48 := rfl
        omega
    · obtain ⟨i1, i2, i3, i4⟩ := dec_facts n (u / 10) (by omega)
      have hm : u % 10 < 10 := Nat.mod_lt _ (by decide)
      rw [dec_great h]
      refine ⟨?_, by rw [List.all_append, i2]; simp only [List.all_cons, List.all_nil, dig_ofNat hm, Bool.and_true], fun hh => ?_, fun k hk => ?_⟩
      · rw [digV_snoc, i1, ofNat_dig hm]; omega
      · cases hd : decDigits (u / 10) with
        | nil => exact absurd hd (dec_ne _)
        | cons a m =>
          rw [hd] at hh i3
          have := (i3 (by simpa using hh)).2
          omega
      · cases k with
        | zero => simp at hk; omega
        | succ k =>
          have := i4 k (by rw [Nat.pow_succ] at hk; omega)
          rw [List.length_append]
          simp only [List.length_cons, List.length_nil]
          omega
/-- Digits that begin with no 0 are those of their number. -/
theorem dec_back : ∀ (n : Nat) (m : List UInt8), m.length = n → m ≠ [] → m.all isDig = true → (m.head? = some 48 → m.length ≤ 1) → decDigits (digV 0 m) = m
  | 0, m, hl, hne, _, _ => absurd (List.length_eq_zero_iff.1 hl) hne
  | n + 1, m, hl, hne, hd, hh => by
    obtain ⟨m', c, rfl⟩ : ∃ m' c, m = m' ++ [c] := ⟨m.dropLast, m.getLast hne, (List.dropLast_concat_getLast hne).symm⟩
    rw [List.all_append] at hd
    simp only [List.all_cons, List.all_nil, Bool.and_true, Bool.and_eq_true] at hd
    obtain ⟨hd1, hd2⟩ := hd
    have hc := of_decide_eq_true (show decide _ = true from hd2)
    rw [digV_snoc]
    by_cases hm : m' = []
    · subst hm
      show decDigits (10 * 0 + (c.toNat - 48)) = [c]
      rw [dec_small (by omega), Nat.mul_zero, Nat.zero_add, u8_ofNat_toNat c hd2]
    · have hl' : m'.length = n := by simpa using hl
      have hh' : m'.head? ≠ some 48 := fun e => by
        cases m' with
        | nil => exact hm rfl
        | cons a r =>
          have := hh (by simpa using e)
          simp at this
      have ih := dec_back n m' hl' hm hd1 (fun e => absurd e hh')
      have h1 : 1 ≤ digV 0 m' := by
        cases m' with
        | nil => exact absurd rfl hm
        | cons a r =>
          have ha : isDig a = true := by simp only [List.all_cons, Bool.and_eq_true] at hd1; exact hd1.1
          have ha' := of_decide_eq_true (show decide _ = true from ha)
          have hne48 : a.toNat ≠ 48 := fun e => hh' (by
            simp only [List.head?_cons, Option.some.injEq]
            exact UInt8.toNat_inj.1 e)
          exact Nat.le_trans (by omega) (digV_ge r _)
      rw [dec_great (by omega)]
      have e1 : (10 * digV 0 m' + (c.toNat - 48)) / 10 = digV 0 m' := by omega
      have e2 : (10 * digV 0 m' + (c.toNat - 48)) % 10 = c.toNat - 48 := by omega
      rw [e1, e2, ih, u8_ofNat_toNat c hd2]
theorem parse_dig : ∀ (m : List UInt8) (acc : Nat), m.all isDig = true → (acc + 1) * 10 ^ m.length ≤ 1000000000000000 → parseUint10 acc m = .ok (digV acc m) ∧ digV acc m < 1000000000000000
  | [], acc, _, h => by
    simp only [List.length_nil, Nat.pow_zero, Nat.mul_one] at h
    exact ⟨rfl, by show acc < _; omega⟩
  | c :: r, acc, hd, h => by
    simp only [List.all_cons, Bool.and_eq_true] at hd
    have hc := of_decide_eq_true (show decide _ = true from hd.1)
    rw [List.length_cons, Nat.pow_succ] at h
    have hp : 1 ≤ 10 ^ r.length := Nat.one_le_pow _ _ (by decide)
    have h1 : (acc + 1) * 10 ≤ 1000000000000000 := by
      have h2 : (acc + 1) * (1 * 10) ≤ (acc + 1) * (10 ^ r.length * 10) := Nat.mul_le_mul_left _ (Nat.mul_le_mul_right _ hp)
      omega
    have h3 : (acc * 10 + (c.toNat - 48) + 1) * 10 ^ r.length ≤ 1000000000000000 := by
      have h4 : (acc * 10 + (c.toNat - 48) + 1) * 10 ^ r.length ≤ ((acc + 1) * 10) * 10 ^ r.length := Nat.mul_le_mul_right _ (by omega)
      have h5 : ((acc + 1) * 10) * 10 ^ r.length = (acc + 1) * (10 ^ r.length * 10) := by rw [Nat.mul_assoc, Nat.mul_comm 10]
      omega
    have ih := parse_dig r (acc * 10 + (c.toNat - 48)) hd.2 h3
    simp only [parseUint10]
    rw [if_pos hc, if_neg (by omega), if_neg (by omega)]
    show parseUint10 _ r = .ok (digV (10 * acc + (c.toNat - 48)) r) ∧ digV (10 * acc + (c.toNat - 48)) r < _
    rw [Nat.mul_comm 10 acc]
    exact ih
theorem num_is {neg : Bool} {m : List UInt8} {n : Int} (h : numF neg m = some n) :
    m ≠ [] ∧ m.length ≤ 15 ∧ ¬ (m.head? = some 48 ∧ (1 < m.length ∨ neg = true)) ∧ m.all isDig = true ∧ n = (if neg then -(digV 0 m : Int) else (digV 0 m : Int)) := by
  unfold numF at h
  split at h
  · cases h
  · rename_i hn
    simp only [not_or] at hn
    obtain ⟨h1, h2, h3, h4⟩ := hn
    exact ⟨h1, by omega, h3, by simpa using h4, by simpa using h.symm⟩
theorem head_dig {m : List UInt8} (hne : m ≠ []) (hd : m.all isDig = true) : ∃ c r, m = c :: r ∧ 48 ≤ c.toNat ∧ c.toNat ≤ 57 := by
  cases m with
  | nil => exact absurd rfl hne
  | cons c r =>
    simp only [List.all_cons, Bool.and_eq_true] at hd
    have := of_decide_eq_true (show decide _ = true from hd.1)
    exact ⟨c, r, rfl, this⟩
theorem num_pos {m : List UInt8} (hne : m ≠ []) (hd : m.all isDig = true) (h48 : m.head? ≠ some 48) : 1 ≤ digV 0 m := by
  obtain ⟨c, r, rfl, h1, h2⟩ := head_dig hne hd
  have : c.toNat ≠ 48 := fun e => h48 (by
    simp only [List.head?_cons, Option.some.injEq]
    exact UInt8.toNat_inj.1 e)
  exact Nat.le_trans (by omega) (digV_ge r _)
theorem pow15 {m : List UInt8} (h : m.length ≤ 15) : (0 + 1) * 10 ^ m.length ≤ 1000000000000000 := by
  have : 10 ^ m.length ≤ 10 ^ 15 := Nat.pow_le_pow_right (by decide) h
  omega
/-- Just the texts that a number is written as. -/
theorem whole_iff (l : List UInt8) (n : Int) : numTx l = some n ↔ atoiAll l = .ok n ∧ -999999999999999 ≤ n ∧ n ≤ 999999999999999 ∧ itoa n = l := by
  constructor
  · intro h
    obtain ⟨h1, h2, h3, h4, h5⟩ := num_is h
    obtain ⟨p1, p2⟩ := parse_dig (magL l) 0 h4 (pow15 h2)
    obtain ⟨c, r, hcr, c1, c2⟩ := head_dig h1 h4
    cases l with
    | nil => unfold magL negB at h1; simp at h1
    | cons a t =>
      by_cases hneg : a = 45
      · subst hneg
        have hm : magL (45 :: t) = t := rfl
        have hn : negB (45 :: t) = true := rfl
        rw [hm] at h1 h2 h3 h4 h5 p1 p2 hcr
        rw [hn] at h3 h5
        simp only [or_true, and_true] at h3
        have hpos := num_pos h1 h4 h3
        simp only [if_true] at h5
        refine ⟨?_, by omega, by omega, ?_⟩
        · unfold atoiAll
          have e45 : (45 : UInt8).toNat = 45 := rfl
          simp only [e45, or_true, if_true]
          unfold parseMag
          rw [if_neg h1, p1]
          simp only [not_true_eq_false, false_and, if_false, true_and]
          rw [if_neg (by omega), h5]
        · rw [h5]
          unfold itoa
          rw [if_pos (by omega), Int.natAbs_neg, Int.natAbs_natCast, dec_back _ t rfl h1 h4 (fun e => absurd e h3)]
      · have hn : negB (a :: t) = false := by
          unfold negB
          exact decide_eq_false (by simpa using hneg)
        have hm : magL (a :: t) = a :: t := by unfold magL; rw [hn]; rfl
        rw [hm] at h1 h2 h3 h4 h5 p1 p2 hcr
        rw [hn] at h3 h5
        obtain ⟨rfl, rfl⟩ := List.cons.inj hcr
        simp only [Bool.false_eq_true, or_false, if_false] at h3 h5
        refine ⟨?_, by omega, by omega, ?_⟩
        · unfold atoiAll
          simp only [show ¬ (a.toNat = 43 ∨ a.toNat = 45) by omega, if_false]
          unfold parseMag
          rw [if_neg h1, p1]
          simp only [show ¬ (a.toNat = 45) by omega, not_false_eq_true, true_and, false_and, if_false]
          rw [if_neg (by omega), h5]
        · rw [h5]
          unfold itoa
          rw [if_neg (by omega), Int.toNat_natCast, dec_back _ _ rfl h1 h4 (fun e => by
            rcases Nat.lt_or_ge 1 (a :: t).length with h' | h'
            · exact absurd ⟨e, h'⟩ h3
            · exact h')]
  · rintro ⟨-, h1, h2, rfl⟩
    unfold itoa
    by_cases hn : n < 0
    · rw [if_pos hn]
      have hu : n.natAbs < 1000000000000000 := by omega
      obtain ⟨d1, d2, d3, d4⟩ := dec_facts (n.natAbs + 1) n.natAbs (by omega)
      have d5 := d4 14 (by omega)
      have hm : magL (45 :: decDigits n.natAbs) = decDigits n.natAbs := rfl
      have hb : negB (45 :: decDigits n.natAbs) = true := rfl
      unfold numTx numF
      rw [hm, hb, if_neg, d1]
      · simp only [if_true]
        congr 1
        omega
      · rintro (h | h | h | h)
        · exact dec_ne _ h
        · omega
        · have := (d3 h.1).2; omega
        · rw [d2] at h; cases h
    · rw [if_neg hn]
      have hu : n.toNat < 1000000000000000 := by omega
      obtain ⟨d1, d2, d3, d4⟩ := dec_facts (n.toNat + 1) n.toNat (by omega)
      have d5 := d4 14 (by omega)
      obtain ⟨c, r, hcr, c1, c2⟩ := head_dig (dec_ne n.toNat) d2
      have hb : negB (decDigits n.toNat) = false := by
        rw [hcr]
        unfold negB
        refine decide_eq_false ?_
        simp only [List.head?_cons, Option.some.injEq]
        intro e
        have := congrArg UInt8.toNat e
        have e45 : (45 : UInt8).toNat = 45 := rfl
        omega
      have hm : magL (decDigits n.toNat) = decDigits n.toNat := by unfold magL; rw [hb]; rfl
      unfold numTx numF
      rw [hm, hb, if_neg, d1]
      · simp only [Bool.false_eq_true, if_false]
        congr 1
        omega
      · rintro (h | h | h | h)
        · exact dec_ne _ h
        · omega
        · have := (d3 h.1).1
          rcases h.2 with h5 | h5
          · omega
          · cases h5
        · rw [d2] at h; cases h
end Go.Proofs.YtmlfekbmbnfkjabGreatDoor

/-
  What a command's arguments are, plainly: the call, or the error's number.
-/
namespace Go.Proofs.YtmlfekbmbnfkjabGreatDoor
set_option maxRecDepth 100000
open Go.RowKit

/-- A call. -/
structure Cl where
  name : List UInt8
  key : List UInt8
  field : List UInt8
  value : List UInt8
  n : Int
  m : Int
deriving DecidableEq
def clz : Cl := ⟨[], [], [], [], 0, 0⟩
def clc (c : Cl) : Array Value := #[.string (sb c.name), .string (sb c.key), .string (sb c.field), .string (sb c.value), .int .i64 c.n, .int .i64 c.m]
/-- A text as a part of a call: the error's number, and the call. -/
def textE (s : List UInt8) : Int := if 64 < s.length then 4 else 0
def keyTE (s : List UInt8) : Int := if s = [] then 1 else textE s
def numTE (s : List UInt8) : Int := if (numTx s).isSome then 0 else 13
def takeE (p : UInt8) (s : List UInt8) : Int := if p = 107 then keyTE s else if p = 102 ∨ p = 118 then textE s else numTE s
def takeC (c : Cl) (p : UInt8) (s : List UInt8) : Cl :=
  if p = 107 then { c with key := s } else if p = 102 then { c with field := s } else if p = 118 then { c with value := s } else if p = 110 then { c with n := (numTx s).getD 0 } else { c with m := (numTx s).getD 0 }
/-- The parts from the left. -/
def takesE : Cl → List UInt8 → List (List UInt8) → Cl × Int
  | c, p :: ps, s :: ss => if takeE p s = 0 then takesE (takeC c p s) ps ss else (clz, takeE p s)
  | c, _, _ => (c, 0)
def parseE : List (List UInt8) → Cl × Int
  | [] => (clz, 12)
  | a :: r => match rowN (upE a) with
    | none => (clz, 14)
    | some w => if r.length = w.takes.length then takesE { clz with name := w.name } w.takes r else (clz, 12)
theorem takesE_step {c : Cl} {ps : List UInt8} {ss : List (List UInt8)} {i : Nat} {p : UInt8} {s : List UInt8} (hp : ps[i]? = some p) (hs : ss[i]? = some s) :
    takesE c (ps.drop i) (ss.drop i) = if takeE p s = 0 then takesE (takeC c p s) (ps.drop (i + 1)) (ss.drop (i + 1)) else (clz, takeE p s) := by
  obtain ⟨h1, e1⟩ := List.getElem?_eq_some_iff.1 hp
  obtain ⟨h2, e2⟩ := List.getElem?_eq_some_iff.1 hs
  rw [List.drop_eq_getElem_cons h1, List.drop_eq_getElem_cons h2, e1, e2]
  rfl
theorem takesE_end {c : Cl} {ps : List UInt8} {ss : List (List UInt8)} {i : Nat} (h : ps.length ≤ i) : takesE c (ps.drop i) (ss.drop i) = (c, 0) := by
  rw [List.drop_eq_nil_of_le h]
  cases ss.drop i <;> rfl
end Go.Proofs.YtmlfekbmbnfkjabGreatDoor

/-
  Where the functions and types of slices.Sort of texts stand in this program.
-/
namespace Go.Proofs.YtmlfekbmbnfkjabGreatDoor
set_option maxRecDepth 100000

end Go.Proofs.YtmlfekbmbnfkjabGreatDoor

/-
  What slices.Sort and slices.Compact of texts come to; what Keys comes to.
-/
namespace Go.Proofs.YtmlfekbmbnfkjabGreatDoor
set_option maxRecDepth 100000
set_option maxRecDepth 100000
open Go.RowKit Go.Shelf Go.Sort

abbrev TRow (w : World) (base : Nat) (v : Value) (S : List (List UInt8)) : Prop := w.ownsRow base 9 1 v S.length (S.map encStr)
/-! Appending a text. -/
theorem infoT : (Tryz.prog.info? 9).map (fun i => (i.zero, i.size, i.bytes)) = some (some (.string ByteArray.empty), 1, 16) := by kernel_rfl
theorem new_one (w : World) (a : Value) (t : TypeId) : ∀ j u, [a][j]? = some u → (w.alloc (Obj.cells #[a] t)).cell? ((⟨w.heap.size, 0, none⟩ : Addr).add j) = some u := by
  intro j u hu
  rw [Addr.add_lit, Nat.zero_add, World.cell?_alloc_mark]
  simpa using hu
theorem TRow.below {w w' : World} {base B : Nat} {v : Value} {S : List (List UInt8)} (h : TRow w base v S) (hb : Below B w w') (hB : w.heap.size ≤ B) : TRow w' base v S := by
  refine ⟨h.1, ?_⟩
  rcases h.2 with hn | ⟨g, cap, cur, e, hbg, hg, rest⟩
  · exact .inl hn
  · have hlt := (Array.getElem?_eq_some_iff.1 hg).1
    exact .inr ⟨g, cap, cur, e, hbg, by rw [hb.block g (by omega)]; exact hg, rest⟩
theorem TRow.lower {w : World} {base b : Nat} {v : Value} {S : List (List UInt8)} (h : TRow w base v S) (hb : b ≤ base) : TRow w b v S := by
  refine ⟨h.1, ?_⟩
  rcases h.2 with hn | ⟨g, cap, cur, e, hbg, rest⟩
  · exact .inl hn
  · exact .inr ⟨g, cap, cur, e, Nat.le_trans hb hbg, rest⟩
theorem TRow.own {w : World} {base : Nat} {v : Value} {S : List (List UInt8)} (h : TRow w base v S) : ∀ k, v.ownBlock = some k → base ≤ k := by
  rcases h.2 with ⟨rfl, -⟩ | ⟨g, cap, cur, rfl, hb, -⟩
  · intro k hk; cases hk
  · intro k hk; cases hk; exact hb
theorem wpList_appT {t : ByteArray} {ops : Array Oper} {rest : List Oper} {o : Oper} {a : Act} {w : World} {Q : Exit → Act → World → Prop} (hw : Region.wanted o (yielded ops a.tmps) = true) (s x : Operand)
    (ho : o.op = .call { callee := .builtin .append, args := #[s, x], argTypes := #[28, 28] })
    (base : Nat) (v : Value) (S : List (List UInt8)) (hs : a.eval s = v) (hown : TRow (w.alloc (Obj.cells #[Value.string t] 9)) base v S) (t' : List UInt8) (ht : t = sb t')
    (hx : a.eval x = .slice (some ⟨w.heap.size, 0, none⟩) 1 1) (hnm : S.length ≤ 1048575) (hbase : base ≤ w.heap.size)
    (h : ∀ v' w', TRow w' base v' (S ++ [t']) → (w.alloc (Obj.cells #[Value.string t] 9)).grownBy w' v.ownBlock → wpList Tryz.prog ops Q rest (a.put o.dst v') w') : wpList Tryz.prog ops Q (o :: rest) a (w.alloc (Obj.cells #[Value.string t] 9)) := by
  obtain ⟨i0, hi, hz0, hz1, hz2⟩ := info_parts infoT
  refine wpList_step fun K hK => ?_
  rw [if_pos hw]
  refine wp_append_own _ s x 28 ho base 9 i0 (.string ByteArray.empty) 1 16 Tryz.underlying28 hi hz0 hz1 hz2 rfl (by omega) v S.length _ hs hown ⟨w.heap.size, 0, none⟩ 1 1 [Value.string t] hx rfl (new_one w (Value.string t) 9) (by simp [Value.oneCell']) (by unfold maxLen; omega) (by omega) (by simp; omega) fun v' w' h2 h3 _ => hK _ _ (h v' w' ?_ h3)
  rw [TRow, List.length_append, List.map_append]
  subst ht
  exact h2
end Go.Proofs.YtmlfekbmbnfkjabGreatDoor

/-
  Texts: two lists of texts that are alike.
-/
namespace Go.Proofs.YtmlfekbmbnfkjabGreatDoor
set_option maxRecDepth 100000
set_option maxRecDepth 100000
open Go.RowKit Go.Shelf Go.Sort

/-- A list of texts, as it is read. -/
def TL (w : World) (ao : Option Addr) (S : List (List UInt8)) : Prop := ∀ j t, S[j]? = some t → ∃ g, ao = some ⟨g, 0, none⟩ ∧ w.cell? ⟨g, j, none⟩ = some (.string (sb t))
theorem TRow.tl {w : World} {base : Nat} {v : Value} {S : List (List UInt8)} (h : TRow w base v S) : ∃ ao c, v = .slice ao S.length c ∧ TL w ao S := by
  rcases h.2 with ⟨rfl, h0⟩ | ⟨g, cap, cur, rfl, hb, hg, hnc, hcm, hcs, htake⟩
  · have : S = [] := List.eq_nil_of_length_eq_zero h0
    subst this
    exact ⟨none, 0, rfl, fun j t h => by cases h⟩
  · refine ⟨some ⟨g, 0, none⟩, cap, rfl, fun j t ht => ⟨g, rfl, ?_⟩⟩
    have h1 := h.cells (g := g) rfl j (encStr t) (by rw [List.getElem?_map, ht]; rfl)
    rw [Addr.add_mid, Nat.zero_add] at h1
    exact h1
theorem TL.below {w w' : World} {ao : Option Addr} {S : List (List UInt8)} {B : Nat} (h : TL w ao S) (hb : Below B w w') (hB : w.heap.size ≤ B) : TL w' ao S := fun j t ht => by
  obtain ⟨g, hg, hc⟩ := h j t ht
  exact ⟨g, hg, (hb.cell (Nat.lt_of_lt_of_le (World.block_lt_of_cell? w _ hc) hB)).trans hc⟩
end Go.Proofs.YtmlfekbmbnfkjabGreatDoor

/-
  What the reference's Refuse comes to; a reply held against the reference's; calls held against one another.
-/
namespace Go.Proofs.YtmlfekbmbnfkjabGreatDoor
set_option maxRecDepth 100000
open Go.RowKit

end Go.Proofs.YtmlfekbmbnfkjabGreatDoor

/-
  Where strconv.Itoa's functions and types stand in this program; what Itoa comes to.
-/
namespace Go.Proofs.YtmlfekbmbnfkjabGreatDoor
set_option maxRecDepth 100000
open Go.Shelf Go.RowKit

def itoaRen : Go.Shelf.Ren := ⟨fun
   
    | 171 => 87
    | 243 => 128
    | 246 => 165
    | 283 => 203
    | 284 => 204
    | 285 => 205
    | 286 => 206
    | 129 => 231
    | 317 => 230
    | 318 => 232
    | 319 => 233
    | 320 => 234
    | 337 => 270
    | 338 => 271
    | n => n, fun
   
    | 3 => 3
    | 9 => 9
    | 2 => 2
    | 4 => 4
    | 171 => 243
    | 0 => 0
    | 53 => 236
    | 37 => 91
    | 5 => 5
    | 173 => 246
    | 212 => 269
    | 51 => 270
    | 20 => 20
    | 213 => 271
    | 46 => 239
    | 232 => 312
    | 233 => 313
    | n => n, fun
   
    | 17 => 2
    | 18 => 3
    | 19 => 4
    | n => n⟩
theorem itoaLaid : Go.Proofs.LaysM.n171 Tryz.prog itoaRen :=
  {
    mixed := by kernel_rfl,
    f129 := Tryz.func231.trans (congrArg some (by kernel_rfl)),
    f171 := Tryz.func87.trans (congrArg some (by kernel_rfl)),
    f243 := Tryz.func128.trans (congrArg some (by kernel_rfl)),
    f246 := Tryz.func165.trans (congrArg some (by kernel_rfl)),
    f283 := Tryz.func203.trans (congrArg some (by kernel_rfl)),
    f284 := Tryz.func204.trans (congrArg some (by kernel_rfl)),
    f285 := Tryz.func205.trans (congrArg some (by kernel_rfl)),
    f286 := Tryz.func206.trans (congrArg some (by kernel_rfl)),
    f317 := Tryz.func230.trans (congrArg some (by kernel_rfl)),
    f318 := Tryz.func232.trans (congrArg some (by kernel_rfl)),
    f319 := Tryz.func233.trans (congrArg some (by kernel_rfl)),
    f320 := Tryz.func234.trans (congrArg some (by kernel_rfl)),
    f337 := Tryz.func270.trans (congrArg some (by kernel_rfl)),
    f338 := Tryz.func271.trans (congrArg some (by kernel_rfl)),
    t0 := Tryz.underlying0,
    a0 := Tryz.isAgg0,
    z0 := Tryz.sizeOf0,
    v0 := Tryz.zeroValue0,
    t2 := Tryz.underlying2,
    a2 := Tryz.isAgg2,
    z2 := Tryz.sizeOf2,
    v2 := Tryz.zeroValue2,
    t3 := Tryz.underlying3,
    a3 := Tryz.isAgg3,
    z3 := Tryz.sizeOf3,
    v3 := Tryz.zeroValue3,
    t4 := Tryz.underlying4,
    a4 := Tryz.isAgg4,
    z4 := Tryz.sizeOf4,
    v4 := Tryz.zeroValue4,
    t5 := Tryz.underlying5,
    a5 := Tryz.isAgg5,
    z5 := Tryz.sizeOf5,
    v5 := Tryz.zeroValue5,
    t9 := Tryz.underlying9,
    a9 := Tryz.isAgg9,
    z9 := Tryz.sizeOf9,
    v9 := Tryz.zeroValue9,
    t20 := Tryz.underlying20,
    a20 := Tryz.isAgg20,
    z20 := Tryz.sizeOf20,
    v20 := Tryz.zeroValue20,
    t37 := Tryz.underlying91,
    a37 := Tryz.isAgg91,
    z37 := Tryz.sizeOf91,
    v37 := Tryz.zeroValue91,
    t46 := Tryz.underlying239,
    a46 := Tryz.isAgg239,
    z46 := Tryz.sizeOf239,
    v46 := Tryz.zeroValue239,
    t51 := Tryz.underlying270,
    a51 := Tryz.isAgg270,
    z51 := Tryz.sizeOf270,
    v51 := Tryz.zeroValue270,
    t53 := Tryz.underlying236,
    a53 := Tryz.isAgg236,
    z53 := Tryz.sizeOf236,
    v53 := Tryz.zeroValue236,
    t171 := Tryz.underlying243,
    a171 := Tryz.isAgg243,
    z171 := Tryz.sizeOf243,
    v171 := Tryz.zeroValue243,
    t173 := Tryz.underlying246,
    a173 := Tryz.isAgg246,
    z173 := Tryz.sizeOf246,
    v173 := Tryz.zeroValue246,
    t212 := Tryz.underlying269,
    a212 := Tryz.isAgg269,
    z212 := Tryz.sizeOf269,
    v212 := Tryz.zeroValue269,
    t213 := Tryz.underlying271,
    a213 := Tryz.isAgg271,
    z213 := Tryz.sizeOf271,
    t232 := Tryz.underlying312,
    a232 := Tryz.isAgg312,
    z232 := Tryz.sizeOf312,
    v232 := Tryz.zeroValue312,
    t233 := Tryz.underlying313,
    a233 := Tryz.isAgg313,
    z233 := Tryz.sizeOf313,
    v233 := Tryz.zeroValue313,
    g17 := by kernel_rfl,
    g18 := by kernel_rfl,
    g19 := by kernel_rfl,
    i0 := by kernel_rfl,
    i2 := by kernel_rfl,
    i3 := by kernel_rfl,
    i4 := by kernel_rfl,
    i5 := by kernel_rfl,
    i9 := by kernel_rfl,
    i20 := by kernel_rfl,
    i37 := by kernel_rfl,
    i46 := by kernel_rfl,
    i51 := by kernel_rfl,
    i53 := by kernel_rfl,
    i171 := by kernel_rfl,
    i173 := by kernel_rfl,
    i212 := by kernel_rfl,
    i232 := by kernel_rfl,
    i233 := by kernel_rfl,
    m17 := by kernel_rfl,
    m18 := by kernel_rfl,
    m19 := by kernel_rfl }
/-- The table that Itoa reads. -/
def Tab (w : World) : Prop := Lib.TabIs Tryz.prog w "internal/strconv.uint64pow10" .u64 Lib.pow10Tab
theorem grow_below (w : World) (k : Nat) (os : Array Obj) : Below w.heap.size w (Sort.grow (w.drewN k) os) :=
  ⟨rfl, rfl, rfl, by show w.heap.size ≤ (w.heap ++ os).size; rw [Array.size_append]; omega, fun j hj => by show (w.heap ++ os)[j]? = _; rw [Array.getElem?_append_left hj]⟩
theorem Tab.below {w w' : World} (h : Tab w) (hb : Below w.heap.size w w') : Tab w' := by
  unfold Tab Lib.TabIs World.var? at h ⊢
  cases hg : Tryz.prog.globalNamed "internal/strconv.uint64pow10" with
  | none => rw [hg] at h; cases h
  | some g =>
    rw [hg, Option.bind_some] at h
    rw [Option.bind_some, hb.block g ?_]
    · exact h
    · rcases Nat.lt_or_ge g w.heap.size with h1 | h1
      · exact h1
      · rw [Array.getElem?_eq_none h1] at h; cases h
theorem itoa_any (n : Int) (h0 : -9223372036854775808 ≤ n) (h1 : n ≤ 9223372036854775807) (w : World) (ht : Tab w) :
    Calls Tryz.prog 87 #[.int .i64 n] w fun e w' => e = .returned (.string ⟨(Lib.itoa n).toArray⟩) ∧ Below w.heap.size w w' :=
  (Any.strconv_Itoa itoaLaid n h0 h1 w ht).mono fun e w' ⟨he, k, os, hw⟩ => ⟨he, by rw [hw]; exact grow_below w k os⟩
end Go.Proofs.YtmlfekbmbnfkjabGreatDoor

/-
  Where strconv.Atoi's functions and types stand in this program; what Atoi comes to.
-/
namespace Go.Proofs.YtmlfekbmbnfkjabGreatDoor
set_option maxRecDepth 100000
open Go.Shelf Go.RowKit

def atoiRen : Go.Shelf.Ren := ⟨fun
   
    | 172 => 86
    | 244 => 126
    | 245 => 127
    | 247 => 160
    | 279 => 161
    | 280 => 162
    | 281 => 163
    | 282 => 164
    | 287 => 200
    | 316 => 201
    | 171 => 87
    | 205 => 202
    | 321 => 228
    | 322 => 229
    | 243 => 128
    | 246 => 165
    | 283 => 203
    | 284 => 204
    | 285 => 205
    | 286 => 206
    | 129 => 231
    | 317 => 230
    | 318 => 232
    | 319 => 233
    | 320 => 234
    | 337 => 270
    | 338 => 271
    | n => n, fun
   
    | 9 => 9
    | 3 => 3
    | 75 => 114
    | 76 => 115
    | 4 => 4
    | 5 => 5
    | 167 => 194
    | 37 => 91
    | 0 => 0
    | 85 => 195
    | 2 => 2
    | 168 => 197
    | 53 => 236
    | 175 => 237
    | 46 => 239
    | 210 => 241
    | 127 => 264
    | 145 => 267
    | 143 => 265
    | 21 => 21
    | 171 => 243
    | 173 => 246
    | 212 => 269
    | 51 => 270
    | 20 => 20
    | 213 => 271
    | 232 => 312
    | 233 => 313
    | 80 => 323
    | n => n, fun
   
    | 15 => 0
    | 16 => 1
    | 17 => 2
    | 18 => 3
    | 19 => 4
    | n => n⟩
theorem atoiLaid : Go.Proofs.LaysC.n172 Tryz.prog atoiRen :=
  {
    mixed := by kernel_rfl,
    f129 := Tryz.func231.trans (congrArg some (by kernel_rfl)),
    f171 := Tryz.func87.trans (congrArg some (by kernel_rfl)),
    f172 := Tryz.func86.trans (congrArg some (by kernel_rfl)),
    f205 := Tryz.func202.trans (congrArg some (by kernel_rfl)),
    f243 := Tryz.func128.trans (congrArg some (by kernel_rfl)),
    f244 := Tryz.func126.trans (congrArg some (by kernel_rfl)),
    f245 := Tryz.func127.trans (congrArg some (by kernel_rfl)),
    f246 := Tryz.func165.trans (congrArg some (by kernel_rfl)),
    f247 := Tryz.func160.trans (congrArg some (by kernel_rfl)),
    f279 := Tryz.func161.trans (congrArg some (by kernel_rfl)),
    f280 := Tryz.func162.trans (congrArg some (by kernel_rfl)),
    f281 := Tryz.func163.trans (congrArg some (by kernel_rfl)),
    f282 := Tryz.func164.trans (congrArg some (by kernel_rfl)),
    f283 := Tryz.func203.trans (congrArg some (by kernel_rfl)),
    f284 := Tryz.func204.trans (congrArg some (by kernel_rfl)),
    f285 := Tryz.func205.trans (congrArg some (by kernel_rfl)),
    f286 := Tryz.func206.trans (congrArg some (by kernel_rfl)),
    f287 := Tryz.func200.trans (congrArg some (by kernel_rfl)),
    f316 := Tryz.func201.trans (congrArg some (by kernel_rfl)),
    f317 := Tryz.func230.trans (congrArg some (by kernel_rfl)),
    f318 := Tryz.func232.trans (congrArg some (by kernel_rfl)),
    f319 := Tryz.func233.trans (congrArg some (by kernel_rfl)),
    f320 := Tryz.func234.trans (congrArg some (by kernel_rfl)),
    f321 := Tryz.func228.trans (congrArg some (by kernel_rfl)),
    f322 := Tryz.func229.trans (congrArg some (by kernel_rfl)),
    f337 := Tryz.func270.trans (congrArg some (by kernel_rfl)),
    f338 := Tryz.func271.trans (congrArg some (by kernel_rfl)),
    t0 := Tryz.underlying0,
    a0 := Tryz.isAgg0,
    z0 := Tryz.sizeOf0,
    v0 := Tryz.zeroValue0,
    t2 := Tryz.underlying2,
    a2 := Tryz.isAgg2,
    z2 := Tryz.sizeOf2,
    v2 := Tryz.zeroValue2,
    t3 := Tryz.underlying3,
    a3 := Tryz.isAgg3,
    z3 := Tryz.sizeOf3,
    v3 := Tryz.zeroValue3,
    t4 := Tryz.underlying4,
    a4 := Tryz.isAgg4,
    z4 := Tryz.sizeOf4,
    v4 := Tryz.zeroValue4,
    t5 := Tryz.underlying5,
    a5 := Tryz.isAgg5,
    z5 := Tryz.sizeOf5,
    v5 := Tryz.zeroValue5,
    t9 := Tryz.underlying9,
    a9 := Tryz.isAgg9,
    z9 := Tryz.sizeOf9,
    v9 := Tryz.zeroValue9,
    t20 := Tryz.underlying20,
    a20 := Tryz.isAgg20,
    z20 := Tryz.sizeOf20,
    v20 := Tryz.zeroValue20,
    t21 := Tryz.underlying21,
    a21 := Tryz.isAgg21,
    z21 := Tryz.sizeOf21,
    v21 := Tryz.zeroValue21,
    t37 := Tryz.underlying91,
    a37 := Tryz.isAgg91,
    z37 := Tryz.sizeOf91,
    v37 := Tryz.zeroValue91,
    t46 := Tryz.underlying239,
    a46 := Tryz.isAgg239,
    z46 := Tryz.sizeOf239,
    v46 := Tryz.zeroValue239,
    t51 := Tryz.underlying270,
    a51 := Tryz.isAgg270,
    z51 := Tryz.sizeOf270,
    v51 := Tryz.zeroValue270,
    t53 := Tryz.underlying236,
    a53 := Tryz.isAgg236,
    z53 := Tryz.sizeOf236,
    v53 := Tryz.zeroValue236,
    t75 := Tryz.underlying114,
    a75 := Tryz.isAgg114,
    z75 := Tryz.sizeOf114,
    v75 := Tryz.zeroValue114,
    t76 := Tryz.underlying115,
    a76 := Tryz.isAgg115,
    z76 := Tryz.sizeOf115,
    v76 := Tryz.zeroValue115,
    t85 := Tryz.underlying195,
    a85 := Tryz.isAgg195,
    z85 := Tryz.sizeOf195,
    v85 := Tryz.zeroValue195,
    t127 := Tryz.underlying264,
    a127 := Tryz.isAgg264,
    z127 := Tryz.sizeOf264,
    v127 := Tryz.zeroValue264,
    t143 := Tryz.underlying265,
    a143 := Tryz.isAgg265,
    z143 := Tryz.sizeOf265,
    v143 := Tryz.zeroValue265,
    t145 := Tryz.underlying267,
    a145 := Tryz.isAgg267,
    z145 := Tryz.sizeOf267,
    v145 := Tryz.zeroValue267,
    t167 := Tryz.underlying194,
    a167 := Tryz.isAgg194,
    z167 := Tryz.sizeOf194,
    v167 := Tryz.zeroValue194,
    t168 := Tryz.underlying197,
    a168 := Tryz.isAgg197,
    z168 := Tryz.sizeOf197,
    v168 := Tryz.zeroValue197,
    t171 := Tryz.underlying243,
    a171 := Tryz.isAgg243,
    z171 := Tryz.sizeOf243,
    v171 := Tryz.zeroValue243,
    t173 := Tryz.underlying246,
    a173 := Tryz.isAgg246,
    z173 := Tryz.sizeOf246,
    v173 := Tryz.zeroValue246,
    t175 := Tryz.underlying237,
    a175 := Tryz.isAgg237,
    z175 := Tryz.sizeOf237,
    v175 := Tryz.zeroValue237,
    t210 := Tryz.underlying241,
    a210 := Tryz.isAgg241,
    z210 := Tryz.sizeOf241,
    v210 := Tryz.zeroValue241,
    t212 := Tryz.underlying269,
    a212 := Tryz.isAgg269,
    z212 := Tryz.sizeOf269,
    v212 := Tryz.zeroValue269,
    t213 := Tryz.underlying271,
    a213 := Tryz.isAgg271,
    z213 := Tryz.sizeOf271,
    t232 := Tryz.underlying312,
    a232 := Tryz.isAgg312,
    z232 := Tryz.sizeOf312,
    v232 := Tryz.zeroValue312,
    t233 := Tryz.underlying313,
    a233 := Tryz.isAgg313,
    z233 := Tryz.sizeOf313,
    v233 := Tryz.zeroValue313,
    g15 := by kernel_rfl,
    g16 := by kernel_rfl,
    g17 := by kernel_rfl,
    g18 := by kernel_rfl,
    g19 := by kernel_rfl,
    t80 := Tryz.underlying323,
    a80 := Tryz.isAgg323,
    z80 := Tryz.sizeOf323,
    v80 := Tryz.zeroValue323,
    i0 := by kernel_rfl,
    i2 := by kernel_rfl,
    i3 := by kernel_rfl,
    i4 := by kernel_rfl,
    i5 := by kernel_rfl,
    i9 := by kernel_rfl,
    i20 := by kernel_rfl,
    i21 := by kernel_rfl,
    i37 := by kernel_rfl,
    i46 := by kernel_rfl,
    i51 := by kernel_rfl,
    i53 := by kernel_rfl,
    i75 := by kernel_rfl,
    i76 := by kernel_rfl,
    i80 := by kernel_rfl,
    i85 := by kernel_rfl,
    i127 := by kernel_rfl,
    i143 := by kernel_rfl,
    i145 := by kernel_rfl,
    i167 := by kernel_rfl,
    i168 := by kernel_rfl,
    i171 := by kernel_rfl,
    i173 := by kernel_rfl,
    i175 := by kernel_rfl,
    i210 := by kernel_rfl,
    i212 := by kernel_rfl,
    i232 := by kernel_rfl,
    i233 := by kernel_rfl,
    m15 := by kernel_rfl,
    m16 := by kernel_rfl,
    m17 := by kernel_rfl,
    m18 := by kernel_rfl,
    m19 := by kernel_rfl,
    c0 := by kernel_rfl,
    c2 := by kernel_rfl,
    c3 := by kernel_rfl,
    c4 := by kernel_rfl,
    c5 := by kernel_rfl,
    c9 := by kernel_rfl,
    c20 := by kernel_rfl,
    c21 := by kernel_rfl,
    c37 := by kernel_rfl,
    c46 := by kernel_rfl,
    c51 := by kernel_rfl,
    c53 := by kernel_rfl,
    c75 := by kernel_rfl,
    c76 := by kernel_rfl,
    c80 := by kernel_rfl,
    c85 := by kernel_rfl,
    c127 := by kernel_rfl,
    c143 := by kernel_rfl,
    c145 := by kernel_rfl,
    c167 := by kernel_rfl,
    c168 := by kernel_rfl,
    c171 := by kernel_rfl,
    c173 := by kernel_rfl,
    c175 := by kernel_rfl,
    c210 := by kernel_rfl,
    c212 := by kernel_rfl,
    c213 := by kernel_rfl,
    c232 := by kernel_rfl,
    c233 := by kernel_rfl }
end Go.Proofs.YtmlfekbmbnfkjabGreatDoor

/-
  What Atoi comes to, of any text; the library's variables that it reads.
-/
namespace Go.Proofs.YtmlfekbmbnfkjabGreatDoor
set_option maxRecDepth 100000
open Go.Shelf Go.RowKit

theorem var_below {nm : String} {cs : Array Value} {w w' : World} (h : w.var? Tryz.prog nm = some cs) (hb : Below w.heap.size w w') : w'.var? Tryz.prog nm = some cs := by
  unfold World.var? at h ⊢
  cases hg : Tryz.prog.globalNamed nm with
  | none => rw [hg] at h; cases h
  | some g =>
    rw [hg, Option.bind_some] at h
    rw [Option.bind_some, hb.block g ?_]
    · exact h
    · rcases Nat.lt_or_ge g w.heap.size with h1 | h1
      · exact h1
      · rw [Array.getElem?_eq_none h1] at h; cases h
/-- The library's variables that a walk may read. -/
structure Tb (w : World) : Prop where
  tab : Tab w
  syn : ∃ tp p, w.var? Tryz.prog "strconv.ErrSyntax" = some #[.iface tp p]
  rng : ∃ tp p, w.var? Tryz.prog "strconv.ErrRange" = some #[.iface tp p]
theorem Tb.below {w w' : World} (h : Tb w) (hb : Below w.heap.size w w') : Tb w' :=
  ⟨h.tab.below hb, by obtain ⟨tp, p, h1⟩ := h.syn; exact ⟨tp, p, var_below h1 hb⟩, by obtain ⟨tp, p, h1⟩ := h.rng; exact ⟨tp, p, var_below h1 hb⟩⟩
theorem data_sb' (l : List UInt8) : (sb l).data.toList = l := by simp [sb]
theorem size_sb' (l : List UInt8) : (sb l).size = l.length := by simp [sb, ByteArray.size]
theorem atoi_ok (l : List UInt8) (n : Int) (h : Lib.atoiAll l = .ok n) (hl : l.length ≤ 1000000) (w : World) :
    Calls Tryz.prog 86 #[.string (sb l)] w fun e w' => e = .returned (.tuple #[.int .i64 n, .nilIface]) ∧ Below w.heap.size w w' :=
  (Any.strconv_Atoi_ok atoiLaid (sb l) (by rw [size_sb']; omega) n (by rw [data_sb']; exact h) w).mono fun e w' ⟨he, hw⟩ => ⟨he, by
    rcases hw with rfl | ⟨t, rfl⟩
    · exact Below.refl _ _
    · exact Lib.bytesWorld_below _ _ _⟩
theorem atoi_bad (l : List UInt8) (h : ∀ n, Lib.atoiAll l ≠ .ok n) (hl : l.length ≤ 1000000) (w : World) (ht : Tb w) :
    Calls Tryz.prog 86 #[.string (sb l)] w fun e w' => (∃ n t N, e = .returned (.tuple #[.int .i64 n, .iface t (.pointer (some ⟨N, 0, none⟩))])) ∧ Below w.heap.size w w' := by
  cases hh : Lib.atoiAll l with
  | ok n => exact absurd hh (h n)
  | «syntax» =>
    obtain ⟨tp, p, hv⟩ := ht.syn
    exact (Any.strconv_Atoi_syntax_var atoiLaid (sb l) (by rw [size_sb']; omega) (by rw [data_sb']; exact hh) tp p w hv).mono fun e w' ⟨N, he, _, _, hb⟩ => ⟨⟨_, _, N, he⟩, hb⟩
  | range =>
    obtain ⟨tp, p, hv⟩ := ht.rng
    exact (Any.strconv_Atoi_range_var atoiLaid (sb l) (by rw [size_sb']; omega) (by rw [data_sb']; exact hh) tp p w hv).mono fun e w' ⟨N, he, _, _, hb⟩ => ⟨⟨_, _, N, he⟩, hb⟩
end Go.Proofs.YtmlfekbmbnfkjabGreatDoor

