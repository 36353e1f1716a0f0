/-
  Plain facts: the members that events tell, and their dots.
-/
import Derived.Test.YtlbjdokfnammfaaMtx
import Derived.Test.YtlbjdokfnammfaaMcp
namespace Go.Proofs.Ytlbjdokfnammfaa
set_option maxRecDepth 100000
open Go.RowKit Go.Lib

def isAddE (e : Ev) : Bool := decide (e.kind = 3)
def addE (s : List UInt8) (e : Ev) : Bool := decide (e.kind = 3) && decide (e.field = s)
/-- The Fields of those that add. -/
def fldE (E : List Ev) : List (List UInt8) := (E.filter isAddE).map (·.field)
def hasE (E : List Ev) (s : List UInt8) : Bool := E.any (addE s)
/-- The dots of those that add it. -/
def dtE (E : List Ev) (s : List UInt8) : List Dt := (E.filter (addE s)).map fun e => (e.r, e.n)
theorem fldE_take {E : List Ev} {i : Nat} {u : Ev} (h : E[i]? = some u) : fldE (E.take (i + 1)) = if isAddE u then fldE (E.take i) ++ [u.field] else fldE (E.take i) := by
  unfold fldE
  rw [take_snoc h, List.filter_append, List.map_append]
  by_cases hu : isAddE u = true
  · simp [hu]
  · simp [hu]
theorem dtE_take {E : List Ev} {i : Nat} {u : Ev} {s : List UInt8} (h : E[i]? = some u) : dtE (E.take (i + 1)) s = if addE s u then dtE (E.take i) s ++ [(u.r, u.n)] else dtE (E.take i) s := by
  unfold dtE
  rw [take_snoc h, List.filter_append, List.map_append]
  by_cases hu : addE s u = true
  · simp [hu]
  · simp [hu]
theorem hasE_take {E : List Ev} {i : Nat} {u : Ev} {s : List UInt8} (h : E[i]? = some u) : hasE (E.take (i + 1)) s = (hasE (E.take i) s || addE s u) := by
  unfold hasE
  rw [take_snoc h, List.any_append]
  simp
theorem fldE_len (E : List Ev) : (fldE E).length ≤ E.length := by
  unfold fldE
  rw [List.length_map]
  exact List.length_filter_le _ _
theorem dtE_len (E : List Ev) (s : List UInt8) : (dtE E s).length ≤ E.length := by
  unfold dtE
  rw [List.length_map]
  exact List.length_filter_le _ _
theorem hasE_iff (E : List Ev) (s : List UInt8) : hasE E s = true ↔ s ∈ fldE E := by
  unfold hasE fldE addE isAddE
  simp only [List.any_eq_true, List.mem_map, List.mem_filter, Bool.and_eq_true, decide_eq_true_eq]
  exact ⟨fun ⟨e, h1, h2, h3⟩ => ⟨e, ⟨h1, h2⟩, h3⟩, fun ⟨e, ⟨h1, h2⟩, h3⟩ => ⟨e, h1, h2, h3⟩⟩
theorem fldE_append (A B : List Ev) : fldE (A ++ B) = fldE A ++ fldE B := by simp [fldE]
theorem dtE_append (A B : List Ev) (s : List UInt8) : dtE (A ++ B) s = dtE A s ++ dtE B s := by simp [dtE]
theorem hasE_append (A B : List Ev) (s : List UInt8) : hasE (A ++ B) s = (hasE A s || hasE B s) := by simp [hasE]

/-- In order, each once. -/
def StrD (R : List Dt) : Prop := R.Pairwise fun a b => befD a b = true
theorem befD_asymm {a b : Dt} (h : befD a b = true) : befD b a = false := by
  rw [befD_iff] at h
  rw [befD_false]
  omega
theorem strD_one : ∀ X Y : List Dt, StrD X → StrD Y → (∀ z, z ∈ X ↔ z ∈ Y) → X = Y
  | [], [], _, _, _ => rfl
  | [], y :: Y, _, _, h => by have := (h y).2 (by simp); cases this
  | x :: X, [], _, _, h => by have := (h x).1 (by simp); cases this
  | x :: X, y :: Y, hx, hy, h => by
    obtain ⟨x1, x2⟩ := List.pairwise_cons.1 hx
    obtain ⟨y1, y2⟩ := List.pairwise_cons.1 hy
    have e : x = y := by
      rcases List.mem_cons.1 ((h x).1 (by simp)) with e | e
      · exact e
      · rcases List.mem_cons.1 ((h y).2 (by simp)) with e' | e'
        · exact e'.symm
        · have h1 := befD_asymm (y1 x e)
          rw [x1 y e'] at h1
          cases h1
    subst e
    rw [strD_one X Y x2 y2 fun z => ⟨fun hz => ?_, fun hz => ?_⟩]
    · rcases List.mem_cons.1 ((h z).1 (List.mem_cons_of_mem _ hz)) with e | e
      · subst e
        have := x1 z hz
        rw [befD_irrefl] at this
        cases this
      · exact e
    · rcases List.mem_cons.1 ((h z).2 (List.mem_cons_of_mem _ hz)) with e | e
      · subst e
        have := y1 z hz
        rw [befD_irrefl] at this
        cases this
      · exact e
theorem befD_le_lt {a b c : Dt} (h : befD b a = false) (k : befD b c = true) : befD a c = true := by
  rw [befD_false] at h
  rw [befD_iff] at *
  omega
theorem dcompact_to (Z : List Dt) (hZ : UpD Z) : ∀ m, m ≤ Z.length → StrD (compactUpTo Z.toArray m) ∧ (∀ z, z ∈ compactUpTo Z.toArray m ↔ ∃ j, j < m ∧ Z.toArray[j]! = z)
  | 0, _ => by simp [compactUpTo, StrD]
  | m + 1, hm => by
    obtain ⟨h1, h2⟩ := dcompact_to Z hZ m (by omega)
    have up : ∀ i j, i ≤ j → j < Z.length → befD Z.toArray[j]! Z.toArray[i]! = false := fun i j hij hj => by
      rw [getElem!_pos Z.toArray j (by simpa using hj), getElem!_pos Z.toArray i (by simpa using by omega)]
      rcases Nat.lt_or_ge i j with h | h
      · simpa using hZ i j (by omega) hj h
      · obtain rfl : i = j := by omega
        exact befD_irrefl _
    rw [compactUpTo_succ]
    by_cases hk : keeps Z.toArray m = true
    · rw [if_pos hk]
      refine ⟨List.pairwise_append.2 ⟨h1, by simp, fun a ha b hb => ?_⟩, fun z => ?_⟩
      · rw [List.mem_singleton.1 hb]
        obtain ⟨j, hj, rfl⟩ := (h2 a).1 ha
        have hne : Z.toArray[m]! ≠ Z.toArray[m - 1]! := by
          have := of_decide_eq_true hk
          rcases this with h | h
          · omega
          · exact h
        have hlt : befD Z.toArray[m - 1]! Z.toArray[m]! = true := by
          cases hb : befD Z.toArray[m - 1]! Z.toArray[m]!
          · exact absurd (befD_eq (up (m - 1) m (by omega) (by omega)) hb) hne
          · rfl
        exact befD_le_lt (up j (m - 1) (by omega) (by omega)) hlt
      · rw [List.mem_append, h2, List.mem_singleton]
        constructor
        · rintro (⟨j, hj, e⟩ | e)
          · exact ⟨j, by omega, e⟩
          · exact ⟨m, by omega, e.symm⟩
        · rintro ⟨j, hj, e⟩
          rcases Nat.lt_or_ge j m with h | h
          · exact .inl ⟨j, h, e⟩
          · exact .inr (by rw [← e, show j = m by omega])
    · rw [if_neg hk, List.append_nil]
      refine ⟨h1, fun z => ?_⟩
      rw [h2]
      have hne : m ≠ 0 ∧ Z.toArray[m]! = Z.toArray[m - 1]! := by
        simp only [keeps, decide_eq_true_eq] at hk
        exact ⟨fun h => hk (.inl h), Classical.byContradiction fun h => hk (.inr h)⟩
      constructor
      · rintro ⟨j, hj, e⟩
        exact ⟨j, by omega, e⟩
      · rintro ⟨j, hj, e⟩
        rcases Nat.lt_or_ge j m with h | h
        · exact ⟨j, h, e⟩
        · exact ⟨m - 1, by omega, by rw [← hne.2, ← e, show j = m by omega]⟩
theorem dcompact_is {L Z : List Dt} (hp : L.Perm Z) (hZ : UpD Z) : StrD (Lib.compact Z) ∧ ∀ z, z ∈ Lib.compact Z ↔ z ∈ L := by
  obtain ⟨h1, h2⟩ := dcompact_to Z hZ Z.length (Nat.le_refl _)
  refine ⟨h1, fun z => ?_⟩
  rw [Lib.compact, h2, hp.mem_iff, List.mem_iff_getElem]
  constructor
  · rintro ⟨j, hj, rfl⟩
    exact ⟨j, hj, by rw [getElem!_pos _ j (by simpa using hj)]; simp⟩
  · rintro ⟨j, hj, rfl⟩
    exact ⟨j, hj, by rw [getElem!_pos _ j (by simpa using hj)]; simp⟩
/-- Texts that are unlike, sorted: they rise. -/
theorem tsort_strict {S : List (List UInt8)} (h : S.Nodup) : (tsort S).Pairwise (· < ·) := by
  have hp : (tsort S).Pairwise (fun a b => decide (a ≤ b) = true) := List.pairwise_mergeSort (fun a b c h1 h2 => by simp only [decide_eq_true_eq] at *; exact List.le_trans h1 h2) (fun a b => by simp only [Bool.or_eq_true, decide_eq_true_eq]; exact List.le_total a b) S
  have hn : (tsort S).Nodup := (List.mergeSort_perm S _).nodup_iff.2 h
  exact (hp.and hn).imp fun {a b} hab => lt_of_le_ne (of_decide_eq_true hab.1) hab.2
theorem tsort_mem {S : List (List UInt8)} {z : List UInt8} : z ∈ tsort S ↔ z ∈ S := (List.mergeSort_perm S _).mem_iff
end Go.Proofs.Ytlbjdokfnammfaa
