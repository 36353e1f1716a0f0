/-
  Tallies, plain: what an event adds, what a list's events add, all together and each replica's.
-/
import Derived.Test.YtojaphoonaoppaaGba
namespace Go.Proofs.Ytojaphoonaoppaa

/-- What an event adds. -/
def oneE (e : Ev) : Int := if e.kind = 2 then max (-1099511627776) (min e.num 1099511627776) else 0
theorem oneE_lo (e : Ev) : -1099511627776 ≤ oneE e := by unfold oneE; split <;> omega
theorem oneE_hi (e : Ev) : oneE e ≤ 1099511627776 := by unfold oneE; split <;> omega
theorem oneE_not {e : Ev} (h : e.kind ≠ 2) : oneE e = 0 := by simp [oneE, h]
theorem oneE_is {e : Ev} (h : e.kind = 2) : oneE e = max (-1099511627776) (min e.num 1099511627776) := by simp [oneE, h]

/-- What all add. -/
def sumE : List Ev → Int
  | [] => 0
  | e :: E => oneE e + sumE E
theorem sumE_append (A B : List Ev) : sumE (A ++ B) = sumE A + sumE B := by
  induction A with
  | nil => simp [sumE]
  | cons a A ih => simp [sumE, ih]; omega
theorem sumE_take {E : List Ev} {i : Nat} {u : Ev} (h : E[i]? = some u) : sumE (E.take (i + 1)) = sumE (E.take i) + oneE u := by
  rw [take_snoc h, sumE_append]; simp [sumE]
theorem sumE_bound (E : List Ev) : -(1099511627776 * (E.length : Int)) ≤ sumE E ∧ sumE E ≤ 1099511627776 * (E.length : Int) := by
  induction E with
  | nil => simp [sumE]
  | cons a A ih =>
    have h1 := oneE_lo a
    have h2 := oneE_hi a
    simp only [sumE, List.length_cons, Int.natCast_add]
    omega
theorem sumE_reverse (E : List Ev) : sumE E.reverse = sumE E := by
  induction E with
  | nil => rfl
  | cons a A ih => rw [List.reverse_cons, sumE_append, ih]; simp [sumE]; omega

/-- What a replica's add. -/
def ofE (r : Int) : List Ev → Int
  | [] => 0
  | e :: E => (if e.r = r then oneE e else 0) + ofE r E
theorem ofE_append (r : Int) (A B : List Ev) : ofE r (A ++ B) = ofE r A + ofE r B := by
  induction A with
  | nil => simp [ofE]
  | cons a A ih => simp [ofE, ih]; omega
theorem ofE_take {r : Int} {E : List Ev} {i : Nat} {u : Ev} (h : E[i]? = some u) : ofE r (E.take (i + 1)) = ofE r (E.take i) + (if u.r = r then oneE u else 0) := by
  rw [take_snoc h, ofE_append]; simp [ofE]
theorem ofE_bound (r : Int) (E : List Ev) : -(1099511627776 * (E.length : Int)) ≤ ofE r E ∧ ofE r E ≤ 1099511627776 * (E.length : Int) := by
  induction E with
  | nil => simp [ofE]
  | cons a A ih =>
    have h1 := oneE_lo a
    have h2 := oneE_hi a
    simp only [ofE, List.length_cons, Int.natCast_add]
    split <;> omega
theorem ofE_reverse (r : Int) (E : List Ev) : ofE r E.reverse = ofE r E := by
  induction E with
  | nil => rfl
  | cons a A ih => rw [List.reverse_cons, ofE_append, ih]; simp [ofE]; omega

/-- What each replica's add. -/
def byE (E : List Ev) : List Int := (List.range 16).map fun r : Nat => ofE (r : Int) E
theorem byE_length (E : List Ev) : (byE E).length = 16 := by simp [byE]
theorem byE_getD (E : List Ev) {k : Nat} (hk : k < 16) : (byE E).getD k 0 = ofE (k : Int) E := by
  simp [byE, List.getD, List.getElem?_map, List.getElem?_range hk]
theorem byE_nil : byE [] = zeros := by simp [byE, ofE, zeros]; decide
theorem byE_step {E : List Ev} {i k : Nat} {u : Ev} (h : E[i]? = some u) (hr : u.r = (k : Int)) : (byE (E.take i)).set k (ofE (k : Int) (E.take i) + oneE u) = byE (E.take (i + 1)) := by
  apply List.ext_getElem
  · simp [byE]
  · intro j h1 h2
    rw [List.getElem_set]
    simp only [byE, List.getElem_map, List.getElem_range]
    rw [ofE_take h]
    by_cases hj : k = j
    · subst hj; simp [hr]
    · rw [if_neg hj, if_neg (by omega)]; omega
theorem byE_skip {E : List Ev} {i : Nat} {u : Ev} (h : E[i]? = some u) (hr : ¬ (0 ≤ u.r ∧ u.r < 16)) : byE (E.take (i + 1)) = byE (E.take i) := by
  apply List.ext_getElem
  · simp [byE]
  · intro j h1 h2
    have hj : j < 16 := by simpa [byE] using h1
    simp only [byE, List.getElem_map, List.getElem_range]
    rw [ofE_take h, if_neg (by omega)]; omega
theorem byE_comm (A B : List Ev) : byE (A ++ B) = byE (B ++ A) := by
  unfold byE
  apply List.map_congr_left
  intro r _
  rw [ofE_append, ofE_append]; omega
theorem byE_reverse (E : List Ev) : byE E.reverse = byE E := by
  unfold byE
  apply List.map_congr_left
  intro r _
  rw [ofE_reverse]

/-- What the first replicas' add. -/
def allTo (E : List Ev) : Nat → Int
  | 0 => 0
  | k + 1 => allTo E k + ofE (k : Int) E
theorem allTo_bound (E : List Ev) : ∀ k : Nat, -(1099511627776 * (E.length : Int) * (k : Int)) ≤ allTo E k ∧ allTo E k ≤ 1099511627776 * (E.length : Int) * (k : Int)
  | 0 => by simp [allTo]
  | k + 1 => by
    have ih := allTo_bound E k
    have h := ofE_bound (k : Int) E
    rw [allTo, Int.natCast_add, Int.mul_add]
    omega
theorem allTo_nil : ∀ k, allTo [] k = 0
  | 0 => rfl
  | k + 1 => by rw [allTo, allTo_nil k]; rfl
theorem allTo_cons (e : Ev) (E : List Ev) : ∀ k : Nat, allTo (e :: E) k = (if 0 ≤ e.r ∧ e.r < (k : Int) then oneE e else 0) + allTo E k
  | 0 => by rw [if_neg (by omega)]; rfl
  | k + 1 => by
    rw [allTo, allTo, allTo_cons e E k, ofE]
    by_cases h : e.r = (k : Int)
    · rw [if_neg (by omega), if_pos h, if_pos (by omega)]; omega
    · by_cases h2 : 0 ≤ e.r ∧ e.r < (k : Int)
      · rw [if_pos h2, if_neg h, if_pos (by omega)]; omega
      · rw [if_neg h2, if_neg h, if_neg (by omega)]; omega
theorem allTo_sum : ∀ (E : List Ev), (∀ e ∈ E, 0 ≤ e.r ∧ e.r < 16) → allTo E 16 = sumE E
  | [], _ => allTo_nil 16
  | e :: E, h => by
    rw [allTo_cons, allTo_sum E (fun x hx => h x (List.mem_cons_of_mem _ hx)), if_pos (show 0 ≤ e.r ∧ e.r < ((16 : Nat) : Int) from h e (List.mem_cons_self ..))]
    rfl

/-- May a number be added. -/
def checkE (E : List Ev) (n : Int) : Int := if (-1099511627776 ≤ n ∧ n ≤ 1099511627776) ∧ (-1125899906842624 ≤ sumE E + n ∧ sumE E + n ≤ 1125899906842624) then 0 else 6
end Go.Proofs.Ytojaphoonaoppaa
