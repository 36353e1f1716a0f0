/-
  The plain side of LiveTwice: a list that is laid twice.
-/
import Derived.Test.YtmnhbkehicpohaaLks
namespace Go.Proofs.Ytmnhbkehicpohaa
set_option maxRecDepth 100000
open Go.RowKit Go.Shelf Go.Sort

theorem last_filter {S : List Ev} {x : Ev} {p : Ev → Bool} (h : S.getLast? = some x) (hp : p x = true) : (S.filter p).getLast? = some x := by
  obtain ⟨A, rfl⟩ := List.getLast?_eq_some_iff.1 h
  rw [List.filter_append, List.filter_cons, if_pos hp]
  simp
theorem last_most {S : List Ev} {x y : Ev} (h : S.getLast? = some x) (ho : S.Pairwise fun a b => ltE b a = false) (hy : y ∈ S) : ltE x y = false := by
  obtain ⟨A, rfl⟩ := List.getLast?_eq_some_iff.1 h
  rcases List.mem_append.1 hy with hy | hy
  · exact (List.pairwise_append.1 ho).2.2 y hy x (by simp)
  · rw [List.mem_singleton.1 hy]
    exact ltE_swo.irrefl x
theorem last_twice (a : List Ev) : (srtE (a ++ a)).getLast? = (srtE a).getLast? := by
  rcases hS : (srtE (a ++ a)).getLast? with _ | x
  · have h1 : srtE (a ++ a) = [] := List.getLast?_eq_none_iff.1 hS
    have h2 := srt_length (a ++ a)
    rw [h1] at h2
    have h3 : a = [] := List.eq_nil_of_length_eq_zero (by simp at h2; omega)
    subst h3
    rfl
  · have hxm : x ∈ a := by
      have := srt_mem.1 (List.mem_of_getLast? hS)
      simpa using this
    rcases hT : (srtE a).getLast? with _ | y
    · have h1 : srtE a = [] := List.getLast?_eq_none_iff.1 hT
      have := srt_mem.2 hxm
      rw [h1] at this
      cases this
    · have hym : y ∈ a := srt_mem.1 (List.mem_of_getLast? hT)
      have e1 : ltE x y = false := last_most hS (srt_st _).ord (srt_mem.2 (by simp [hym]))
      have e2 : ltE y x = false := last_most hT (srt_st _).ord (srt_mem.2 hxm)
      have f1 := last_filter hS (p := eqv ltE x) (eqv_self ltE_swo x)
      have f2 := last_filter hT (p := eqv ltE x) (eqv_iff.2 ⟨e1, e2⟩)
      rw [(srt_st _).same x, List.filter_append] at f1
      rw [(srt_st _).same x] at f2
      rw [List.getLast?_append, f2] at f1
      simpa using f1.symm
theorem all_two (E : List Ev) : allE (E ++ E) = srtE (liveE E ++ liveE E) := by
  unfold allE
  rw [live_twice]
theorem type_twice (E : List Ev) (key : List UInt8) : typeE (E ++ E) key = typeE E key := by
  unfold typeE lastE ofKeyE
  rw [all_two, ← srt_filter, List.filter_append, last_twice, srt_filter]
  rfl
theorem all_two_len (E : List Ev) : (allE (E ++ E)).length = 2 * (allE E).length := by
  rw [(all_twice E).length_eq, List.length_append]
  omega
theorem of_two_len (E : List Ev) (key : List UInt8) : (ofE (E ++ E) key).length = 2 * (ofE E key).length := by
  unfold ofE ofKeyE
  rw [type_twice, (((all_twice E).filter _).filter _).length_eq, List.filter_append, List.filter_append, List.length_append]
  omega
/-! Keys. -/
theorem lt_of_le_ne {x y : List UInt8} (h : x ≤ y) (h2 : x ≠ y) : x < y := by
  rcases Classical.em (x < y) with h3 | h3
  · exact h3
  · exact absurd (List.le_antisymm h (List.not_lt.1 h3)) h2
theorem strict_one : ∀ X Y : List (List UInt8), X.Pairwise (· < ·) → Y.Pairwise (· < ·) → (∀ z, z ∈ X ↔ z ∈ Y) → X = Y
  | [], [], _, _, _ => rfl
  | [], y :: Y, _, _, h => by have := (h y).2 (by simp); cases this
  | x :: X, [], _, _, h => by have := (h x).1 (by simp); cases this
  | x :: X, y :: Y, hx, hy, h => by
    obtain ⟨x1, x2⟩ := List.pairwise_cons.1 hx
    obtain ⟨y1, y2⟩ := List.pairwise_cons.1 hy
    have e : x = y := by
      rcases List.mem_cons.1 ((h x).1 (by simp)) with e | e
      · exact e
      · rcases List.mem_cons.1 ((h y).2 (by simp)) with e' | e'
        · exact e'.symm
        · exact absurd (y1 x e) (List.lt_asymm (x1 y e'))
    subst e
    rw [strict_one X Y x2 y2 fun z => ⟨fun hz => ?_, fun hz => ?_⟩]
    · rcases List.mem_cons.1 ((h z).1 (List.mem_cons_of_mem _ hz)) with e | e
      · subst e
        exact absurd (x1 z hz) (List.lt_irrefl z)
      · exact e
    · rcases List.mem_cons.1 ((h z).2 (List.mem_cons_of_mem _ hz)) with e | e
      · subst e
        exact absurd (y1 z hz) (List.lt_irrefl z)
      · exact e
theorem compact_to (Z : List (List UInt8)) (hZ : ∀ i j, i ≤ j → j < Z.length → Z.toArray[i]! ≤ Z.toArray[j]!) : ∀ m, m ≤ Z.length → (Lib.compactUpTo Z.toArray m).Pairwise (· < ·) ∧ (∀ z, z ∈ Lib.compactUpTo Z.toArray m ↔ ∃ j, j < m ∧ Z.toArray[j]! = z)
  | 0, _ => by simp [Lib.compactUpTo]
  | m + 1, hm => by
    obtain ⟨h1, h2⟩ := compact_to Z hZ m (by omega)
    rw [Lib.compactUpTo_succ]
    by_cases hk : Lib.keeps Z.toArray m = true
    · rw [if_pos hk]
      refine ⟨List.pairwise_append.2 ⟨h1, by simp, fun a ha b hb => ?_⟩, fun z => ?_⟩
      · rw [List.mem_singleton.1 hb]
        obtain ⟨j, hj, rfl⟩ := (h2 a).1 ha
        have hne : Z.toArray[m]! ≠ Z.toArray[m - 1]! := by
          have := of_decide_eq_true hk
          rcases this with h | h
          · omega
          · exact h
        exact List.lt_of_le_of_lt (hZ j (m - 1) (by omega) (by omega)) (lt_of_le_ne (hZ (m - 1) m (by omega) (by omega)) (Ne.symm hne))
      · rw [List.mem_append, h2, List.mem_singleton]
        constructor
        · rintro (⟨j, hj, e⟩ | e)
          · exact ⟨j, by omega, e⟩
          · exact ⟨m, by omega, e.symm⟩
        · rintro ⟨j, hj, e⟩
          rcases Nat.lt_or_ge j m with h | h
          · exact .inl ⟨j, h, e⟩
          · exact .inr (by rw [← e, show j = m by omega])
    · rw [if_neg hk, List.append_nil]
      refine ⟨h1, fun z => ?_⟩
      rw [h2]
      have hne : m ≠ 0 ∧ Z.toArray[m]! = Z.toArray[m - 1]! := by
        simp only [Lib.keeps, decide_eq_true_eq] at hk
        exact ⟨fun h => hk (.inl h), Classical.byContradiction fun h => hk (.inr h)⟩
      constructor
      · rintro ⟨j, hj, e⟩
        exact ⟨j, by omega, e⟩
      · rintro ⟨j, hj, e⟩
        rcases Nat.lt_or_ge j m with h | h
        · exact ⟨j, h, e⟩
        · exact ⟨m - 1, by omega, by rw [← hne.2, ← e, show j = m by omega]⟩
theorem tsort_sorted (S : List (List UInt8)) : ∀ i j, i ≤ j → j < (tsort S).length → (tsort S).toArray[i]! ≤ (tsort S).toArray[j]! := by
  intro i j hij hj
  have hp : (tsort S).Pairwise (fun a b => decide (a ≤ b) = true) := List.pairwise_mergeSort (fun a b c h1 h2 => by simp only [decide_eq_true_eq] at *; exact List.le_trans h1 h2) (fun a b => by simp only [Bool.or_eq_true, decide_eq_true_eq]; exact List.le_total a b) S
  rw [getElem!_pos _ i (by simpa using by omega), getElem!_pos _ j (by simpa using hj)]
  rcases Nat.lt_or_ge i j with h | h
  · have := List.pairwise_iff_getElem.1 hp i j (by omega) hj h
    simpa using this
  · obtain rfl : i = j := by omega
    exact List.le_refl _
theorem compact_mem (S : List (List UInt8)) (z : List UInt8) : z ∈ Lib.compact (tsort S) ↔ z ∈ S := by
  rw [Lib.compact, (compact_to (tsort S) (tsort_sorted S) _ (Nat.le_refl _)).2]
  have e : z ∈ S ↔ z ∈ tsort S := (List.mergeSort_perm S _).mem_iff.symm
  rw [e, List.mem_iff_getElem]
  constructor
  · rintro ⟨j, hj, rfl⟩
    exact ⟨j, hj, by rw [getElem!_pos _ j (by simpa using hj)]; simp⟩
  · rintro ⟨j, hj, rfl⟩
    exact ⟨j, hj, by rw [getElem!_pos _ j (by simpa using hj)]; simp⟩
theorem keys_same {S T : List (List UInt8)} (h : ∀ z, z ∈ S ↔ z ∈ T) : Lib.compact (tsort S) = Lib.compact (tsort T) :=
  strict_one _ _ (compact_to _ (tsort_sorted S) _ (Nat.le_refl _)).1 (compact_to _ (tsort_sorted T) _ (Nat.le_refl _)).1 fun z => by rw [compact_mem, compact_mem, h]
theorem keys_two (E : List Ev) : keysE (E ++ E) = keysE E := by
  unfold keysE
  refine keys_same fun z => ?_
  rw [List.mem_map, List.mem_map]
  constructor
  · rintro ⟨e, he, rfl⟩
    exact ⟨e, by simpa using (all_twice E).mem_iff.1 he, rfl⟩
  · rintro ⟨e, he, rfl⟩
    exact ⟨e, (all_twice E).mem_iff.2 (by simp [he]), rfl⟩
end Go.Proofs.Ytmnhbkehicpohaa
