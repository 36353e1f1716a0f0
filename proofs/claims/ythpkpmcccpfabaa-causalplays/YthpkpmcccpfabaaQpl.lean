/-
  Plain: what may be seen next, what is told one behind the other, what a buffer keeps.
-/
import Derived.Test.YthpkpmcccpfabaaRig
import Derived.Test.YthpkpmcccpfabaaJoi
import Derived.Test.YthpkpmcccpfabaaHpu
namespace Go.Proofs.Ythpkpmcccpfabaa
set_option maxRecDepth 100000

theorem okev_dot {e : Ev} (h : okev e = true) : okdot e.r e.n = true := by
  unfold okev placeE at h
  simp only [Bool.and_eq_true, decide_eq_true_eq] at h
  have h1 := h.1
  unfold withE at h1
  rcases Bool.eq_false_or_eq_true (okdot e.r e.n) with h2 | h2
  · exact h2
  · rw [h2, Bool.and_false] at h1
    simp at h1
/-- May it be seen next? -/
def mayE (e : Ev) (v : List Int) : Bool := decide (e.n = v.getD e.r.toNat 0 + 1) && decide (each max e.deps v = v)
def seeV (v : List Int) (e : Ev) : List Int := v.set e.r.toNat e.n
def vs (T : List Ev) (v : List Int) : List Int := T.foldl seeV v
theorem vs_snoc (T : List Ev) (e : Ev) (v : List Int) : vs (T ++ [e]) v = seeV (vs T v) e := by simp [vs]
theorem vs_append (T U : List Ev) (v : List Int) : vs (T ++ U) v = vs U (vs T v) := by simp [vs]
theorem seeV_length (v : List Int) (e : Ev) : (seeV v e).length = v.length := by simp [seeV]
theorem vs_length : ∀ (T : List Ev) (v : List Int), (vs T v).length = v.length
  | [], _ => rfl
  | e :: T, v => by
    have := vs_length T (seeV v e)
    rw [seeV_length] at this
    exact this
/-- The first that may be seen, what waits then, and what is seen then. -/
def stepQ (S : List Ev) (v : List Int) : Option (Ev × List Ev × List Int) := match S.findIdx? (fun e => mayE e v) with
  | none => none
  | some k => match S[k]? with
    | none => none
    | some e => some (e, S.eraseIdx k, seeV v e)
def runQ : Nat → List Ev → List Int → List Ev × List Ev × List Int
  | 0, S, v => ([], S, v)
  | n + 1, S, v => match stepQ (runQ n S v).2.1 (runQ n S v).2.2 with
    | none => runQ n S v
    | some q => ((runQ n S v).1 ++ [q.1], q.2.1, q.2.2)
theorem stepQ_none {S : List Ev} {v : List Int} : stepQ S v = none ↔ ∀ e ∈ S, mayE e v = false := by
  unfold stepQ
  cases h : S.findIdx? (fun e => mayE e v) with
  | none =>
    rw [List.findIdx?_eq_none_iff] at h
    simp only [true_iff]
    exact h
  | some k =>
    rw [List.findIdx?_eq_some_iff_getElem] at h
    obtain ⟨h1, h2, -⟩ := h
    simp only [List.getElem?_eq_getElem h1, reduceCtorEq, false_iff]
    intro hh
    rw [hh _ (List.getElem_mem h1)] at h2
    cases h2
theorem stepQ_some {S : List Ev} {v : List Int} {q : Ev × List Ev × List Int} (h : stepQ S v = some q) : ∃ k, S[k]? = some q.1 ∧ S.findIdx? (fun e => mayE e v) = some k ∧ mayE q.1 v = true ∧ q.2.1 = S.eraseIdx k ∧ q.2.2 = seeV v q.1 := by
  unfold stepQ at h
  cases hf : S.findIdx? (fun e => mayE e v) with
  | none => rw [hf] at h; cases h
  | some k =>
    have hf' := hf
    rw [List.findIdx?_eq_some_iff_getElem] at hf'
    obtain ⟨h1, h2, -⟩ := hf'
    rw [hf] at h
    simp only [List.getElem?_eq_getElem h1, Option.some.injEq] at h
    subst h
    exact ⟨k, List.getElem?_eq_getElem h1, rfl, h2, rfl, rfl⟩
theorem run_stop {S : List Ev} {v : List Int} {n : Nat} (h : stepQ (runQ n S v).2.1 (runQ n S v).2.2 = none) : ∀ d, runQ (n + d) S v = runQ n S v
  | 0 => rfl
  | d + 1 => by
    have ih := run_stop h d
    show runQ (n + d + 1) S v = _
    rw [runQ, ih, h]
/-- There is one end. -/
theorem run_one {S : List Ev} {v : List Int} {n m : Nat} (h : stepQ (runQ n S v).2.1 (runQ n S v).2.2 = none) (k : stepQ (runQ m S v).2.1 (runQ m S v).2.2 = none) : runQ n S v = runQ m S v := by
  have h1 := run_stop h m
  have h2 := run_stop k n
  rw [Nat.add_comm] at h2
  rw [← h1, h2]
theorem run_vs (S : List Ev) (v : List Int) : ∀ n, (runQ n S v).2.2 = vs (runQ n S v).1 v
  | 0 => rfl
  | n + 1 => by
    have ih := run_vs S v n
    rw [runQ]
    cases h : stepQ (runQ n S v).2.1 (runQ n S v).2.2 with
    | none => exact ih
    | some q =>
      obtain ⟨k, -, -, -, -, h5⟩ := stepQ_some h
      simp only [h5, vs_snoc, ih]
theorem run_may (S : List Ev) (v : List Int) : ∀ (n k : Nat) (e : Ev), (runQ n S v).1[k]? = some e → mayE e (vs ((runQ n S v).1.take k) v) = true
  | 0, k, e, h => by simp [runQ] at h
  | n + 1, k, e, h => by
    have ih := run_may S v n k e
    rw [runQ] at h ⊢
    cases hs : stepQ (runQ n S v).2.1 (runQ n S v).2.2 with
    | none => rw [hs] at h; simp only [] at h ⊢; exact ih h
    | some q =>
      rw [hs] at h
      simp only [] at h ⊢
      obtain ⟨k', -, -, h4, -, -⟩ := stepQ_some hs
      by_cases hk : k < (runQ n S v).1.length
      · rw [List.getElem?_append_left hk] at h
        rw [List.take_append_of_le_length (by omega)]
        exact ih h
      · have hk2 : k = (runQ n S v).1.length := by
          have := (List.getElem?_eq_some_iff.1 h).1
          simp at this; omega
        subst hk2
        simp only [List.getElem?_append_right (Nat.le_refl _), Nat.sub_self, List.getElem?_cons_zero, Option.some.injEq] at h
        subst h
        rw [List.take_left, ← run_vs]
        exact h4
theorem erase_perm {S : List Ev} {k : Nat} {e : Ev} (h : S[k]? = some e) : (e :: S.eraseIdx k).Perm S := by
  obtain ⟨h1, h2⟩ := List.getElem?_eq_some_iff.1 h
  rw [← h2, List.eraseIdx_eq_take_drop_succ]
  have : S = S.take k ++ S[k] :: S.drop (k + 1) := by
    rw [← List.drop_eq_getElem_cons h1, List.take_append_drop]
  refine List.Perm.trans ?_ (List.Perm.of_eq this.symm)
  exact List.perm_middle.symm
theorem run_perm (S : List Ev) (v : List Int) : ∀ n, ((runQ n S v).1 ++ (runQ n S v).2.1).Perm S
  | 0 => by simp [runQ]
  | n + 1 => by
    have ih := run_perm S v n
    rw [runQ]
    cases hs : stepQ (runQ n S v).2.1 (runQ n S v).2.2 with
    | none => exact ih
    | some q =>
      obtain ⟨k, h1, -, -, h4, -⟩ := stepQ_some hs
      simp only [h4, List.append_assoc]
      exact ((erase_perm h1).append_left _).trans ih
/-- Of these, that wait, where v was seen: T is told, L waits then, and v' is seen. -/
def Told (S : List Ev) (v : List Int) (T L : List Ev) (v' : List Int) : Prop := ∃ n, runQ n S v = (T, L, v') ∧ stepQ L v' = none
theorem Told.one {S T L T' L' : List Ev} {v u u' : List Int} (h : Told S v T L u) (k : Told S v T' L' u') : T = T' ∧ L = L' ∧ u = u' := by
  obtain ⟨n, h1, h2⟩ := h
  obtain ⟨m, k1, k2⟩ := k
  have := run_one (n := n) (m := m) (S := S) (v := v) (by rw [h1]; exact h2) (by rw [k1]; exact k2)
  rw [h1, k1] at this
  simpa using this
theorem Told.perm {S T L : List Ev} {v u : List Int} (h : Told S v T L u) : (T ++ L).Perm S := by
  obtain ⟨n, h1, -⟩ := h
  have := run_perm S v n
  rwa [h1] at this
theorem Told.vs {S T L : List Ev} {v u : List Int} (h : Told S v T L u) : u = vs T v := by
  obtain ⟨n, h1, -⟩ := h
  have := run_vs S v n
  rwa [h1] at this
theorem Told.may {S T L : List Ev} {v u : List Int} (h : Told S v T L u) {k : Nat} {e : Ev} (hk : T[k]? = some e) : mayE e (Proofs.Ythpkpmcccpfabaa.vs (T.take k) v) = true := by
  obtain ⟨n, h1, -⟩ := h
  have := run_may S v n k e
  rw [h1] at this
  exact this hk
theorem Told.none {S T L : List Ev} {v u : List Int} (h : Told S v T L u) : ∀ e ∈ L, mayE e u = false := by
  obtain ⟨n, -, h2⟩ := h
  exact stepQ_none.1 h2
/-- Each may be seen behind those ahead of it. -/
def Chain (T : List Ev) (v : List Int) : Prop := ∀ k e, T[k]? = some e → mayE e (vs (T.take k) v) = true
theorem Chain.nil (v : List Int) : Chain [] v := fun k e h => by simp at h
theorem Chain.snoc {T : List Ev} {v : List Int} (h : Chain T v) {e : Ev} (he : mayE e (vs T v) = true) : Chain (T ++ [e]) v := by
  intro k x hx
  by_cases hk : k < T.length
  · rw [List.getElem?_append_left hk] at hx
    rw [List.take_append_of_le_length (by omega)]
    exact h k x hx
  · have hk2 : k = T.length := by
      have := (List.getElem?_eq_some_iff.1 hx).1
      simp at this; omega
    subst hk2
    simp only [List.getElem?_append_right (Nat.le_refl _), Nat.sub_self, List.getElem?_cons_zero, Option.some.injEq] at hx
    subst hx
    rw [List.take_left]
    exact he
theorem Chain.append {T U : List Ev} {v : List Int} (h : Chain T v) (k : Chain U (vs T v)) : Chain (T ++ U) v := by
  intro i x hx
  by_cases hi : i < T.length
  · rw [List.getElem?_append_left hi] at hx
    rw [List.take_append_of_le_length (by omega)]
    exact h i x hx
  · rw [List.getElem?_append_right (by omega)] at hx
    rw [List.take_append, List.take_of_length_le (by omega), vs_append]
    exact k _ x hx
theorem Told.chain {S T L : List Ev} {v u : List Int} (h : Told S v T L u) : Chain T v := fun _ _ hk => h.may hk
theorem mayE_num {e : Ev} {v : List Int} (h : mayE e v = true) : e.n = v.getD e.r.toNat 0 + 1 := by
  simp only [mayE, Bool.and_eq_true, decide_eq_true_eq] at h
  exact h.1
theorem seeV_getD {v : List Int} {e : Ev} {j : Nat} : (seeV v e).getD j 0 = if e.r.toNat = j ∧ j < v.length then e.n else v.getD j 0 := by
  unfold seeV
  simp only [List.getD_eq_getElem?_getD, List.getElem?_set]
  by_cases h : e.r.toNat = j
  · subst h
    by_cases h2 : e.r.toNat < v.length
    · simp [h2]
    · simp [h2]
  · simp [h]
theorem see_mono {v : List Int} {e : Ev} (h : mayE e v = true) (j : Nat) : v.getD j 0 ≤ (seeV v e).getD j 0 := by
  rw [seeV_getD]
  have := mayE_num h
  split
  · rename_i hh
    rw [hh.1] at this; omega
  · exact Int.le_refl _
theorem Chain.init {T : List Ev} {e : Ev} {v : List Int} (h : Chain (T ++ [e]) v) : Chain T v ∧ mayE e (Proofs.Ythpkpmcccpfabaa.vs T v) = true := by
  refine ⟨fun k x hx => ?_, ?_⟩
  · have hk := (List.getElem?_eq_some_iff.1 hx).1
    have := h k x (by rw [List.getElem?_append_left hk]; exact hx)
    rwa [List.take_append_of_le_length (by omega)] at this
  · have := h T.length e (by simp)
    rwa [List.take_left] at this
theorem rev_ind {P : List Ev → Prop} (h0 : P []) (h1 : ∀ T e, P T → P (T ++ [e])) : ∀ T, P T := by
  intro T
  have : ∀ U : List Ev, P U.reverse := fun U => by
    induction U with
    | nil => exact h0
    | cons a U ih => rw [List.reverse_cons]; exact h1 _ _ ih
  have h := this T.reverse
  rwa [List.reverse_reverse] at h
theorem Chain.mono {v : List Int} : ∀ T : List Ev, Chain T v → ∀ j, v.getD j 0 ≤ (vs T v).getD j 0 := by
  refine rev_ind (fun _ j => Int.le_refl _) fun T e ih h j => ?_
  obtain ⟨h1, h2⟩ := h.init
  rw [vs_snoc]
  exact Int.le_trans (ih h1 j) (see_mono h2 j)
/-- What is told is had then, and just that more. -/
theorem Chain.has {v : List Int} (hv : v.length = 16) : ∀ T : List Ev, Chain T v → (∀ e ∈ T, okdot e.r e.n = true) → ∀ r n, hasv (vs T v) r n = true ↔ hasv v r n = true ∨ ∃ e ∈ T, e.r = r ∧ e.n = n := by
  refine rev_ind (fun _ _ r n => by simp [vs]) fun T e ih h hok r n => ?_
  obtain ⟨h1, h2⟩ := h.init
  have ih' := ih h1 (fun x hx => hok x (List.mem_append_left _ hx)) r n
  have hd := hok e (by simp)
  simp only [okdot, decide_eq_true_eq] at hd
  have hnum := mayE_num h2
  rw [vs_snoc]
  have hl : e.r.toNat < (Proofs.Ythpkpmcccpfabaa.vs T v).length := by rw [vs_length, hv]; omega
  constructor
  · intro hh
    simp only [hasv, Bool.and_eq_true, decide_eq_true_eq] at hh
    obtain ⟨q1, q2⟩ := hh
    have q3 := q1
    simp only [okdot, decide_eq_true_eq] at q3
    by_cases hr : e.r = r
    · by_cases hn : e.n = n
      · exact .inr ⟨e, by simp, hr, hn⟩
      · rw [seeV_getD, if_pos ⟨by rw [hr], by rw [← hr]; exact hl⟩] at q2
        have : hasv (Proofs.Ythpkpmcccpfabaa.vs T v) r n = true := by
          simp only [hasv, Bool.and_eq_true, decide_eq_true_eq]
          refine ⟨q1, ?_⟩
          rw [← hr]; omega
        rcases ih'.1 this with h3 | ⟨x, hx, h3⟩
        · exact .inl h3
        · exact .inr ⟨x, List.mem_append_left _ hx, h3⟩
    · rw [seeV_getD, if_neg (by intro hh; omega)] at q2
      have : hasv (Proofs.Ythpkpmcccpfabaa.vs T v) r n = true := by
        simp only [hasv, Bool.and_eq_true, decide_eq_true_eq]
        exact ⟨q1, q2⟩
      rcases ih'.1 this with h3 | ⟨x, hx, h3⟩
      · exact .inl h3
      · exact .inr ⟨x, List.mem_append_left _ hx, h3⟩
  · intro hh
    have up : hasv (Proofs.Ythpkpmcccpfabaa.vs T v) r n = true → hasv (seeV (Proofs.Ythpkpmcccpfabaa.vs T v) e) r n = true := fun hp => by
      simp only [hasv, Bool.and_eq_true, decide_eq_true_eq] at hp ⊢
      exact ⟨hp.1, Int.le_trans hp.2 (see_mono h2 _)⟩
    rcases hh with h3 | ⟨x, hx, h3, h4⟩
    · exact up (ih'.2 (.inl h3))
    · rcases List.mem_append.1 hx with hx | hx
      · exact up (ih'.2 (.inr ⟨x, hx, h3, h4⟩))
      · rw [List.mem_singleton.1 hx] at h3 h4
        subst h3 h4
        simp only [hasv, Bool.and_eq_true, decide_eq_true_eq]
        refine ⟨by simp only [okdot, decide_eq_true_eq]; exact hd, ?_⟩
        rw [seeV_getD, if_pos ⟨rfl, hl⟩]
        exact Int.le_refl _
/-- Is an event of its dot there? -/
def hasE (S : List Ev) (e : Ev) : Bool := S.any fun x => decide (x.r = e.r ∧ x.n = e.n)
def takesE (S : List Ev) (e : Ev) (v : List Int) : Bool := okev e && (!hasv v e.r e.n && (!hasE S e && decide (S.length < 64)))
def offS (S : List Ev) (e : Ev) (v : List Int) : List Ev := if takesE S e v then putE S e else S
/-- What Offer tells, what it keeps, and what is seen then. -/
def Off (S : List Ev) (e : Ev) (v : List Int) (T S' : List Ev) (v' : List Int) : Prop := ∃ L, Told (offS S e v) v T L v' ∧ S' = (offS S e v).filter (fun x => !hasv v' x.r x.n)
/-- What a buffer has. -/
structure Buf (S : List Ev) : Prop where
  srt : SrE S
  ok : ∀ x ∈ S, okev x = true
  len : S.length ≤ 64
theorem mem_putE {S : List Ev} {e x : Ev} (h : x ∈ putE S e) : x = e ∨ x ∈ S := by
  unfold putE at h
  rcases List.mem_append.1 h with h | h
  · exact .inr (List.mem_filter.1 h).1
  · rcases List.mem_cons.1 h with h | h
    · exact .inl h
    · exact .inr (List.mem_filter.1 h).1
theorem putE_sub {S : List Ev} {e x : Ev} (hx : x ∈ S) (hn : hasE S e = false) : x ∈ putE S e := by
  unfold putE
  have hne : ¬ (x.r = e.r ∧ x.n = e.n) := fun h => by
    have : hasE S e = true := List.any_eq_true.2 ⟨x, hx, by simpa using h⟩
    rw [hn] at this; cases this
  by_cases hb : befE x e = true
  · exact List.mem_append_left _ (List.mem_filter.2 ⟨hx, hb⟩)
  · refine List.mem_append_right _ (List.mem_cons_of_mem _ (List.mem_filter.2 ⟨hx, ?_⟩))
    rw [befE_iff] at hb ⊢
    omega
theorem putE_self (S : List Ev) (e : Ev) : e ∈ putE S e := by simp [putE]
theorem SrE.put {S : List Ev} (h : SrE S) (e : Ev) : SrE (putE S e) := by
  unfold SrE putE
  rw [List.pairwise_append]
  refine ⟨List.Pairwise.filter _ h, List.pairwise_cons.2 ⟨fun a ha => (List.mem_filter.1 ha).2, List.Pairwise.filter _ h⟩, fun a ha b hb => ?_⟩
  have h1 := (List.mem_filter.1 ha).2
  rcases List.mem_cons.1 hb with rfl | hb
  · exact h1
  · have h2 := (List.mem_filter.1 hb).2
    rw [befE_iff] at *; omega
theorem filters_le {α : Type} (p q : α → Bool) : ∀ S : List α, (∀ i ∈ S, ¬ (p i = true ∧ q i = true)) → (S.filter p).length + (S.filter q).length ≤ S.length
  | [], _ => by simp
  | a :: S, h => by
    have ih := filters_le p q S (fun i hi => h i (by simp [hi]))
    have ha := h a (by simp)
    simp only [List.filter_cons, List.length_cons]
    cases hp : p a <;> cases hq : q a <;> simp_all <;> omega
theorem putE_length (S : List Ev) (e : Ev) : (putE S e).length ≤ S.length + 1 := by
  have := filters_le (fun a => befE a e) (fun a => befE e a) S (fun i _ h => by
    have h1 := h.1; have h2 := h.2
    rw [befE_iff] at h1 h2; omega)
  unfold putE
  rw [List.length_append, List.length_cons]
  omega
theorem Buf.off {S : List Ev} (h : Buf S) (e : Ev) (v : List Int) : Buf (offS S e v) := by
  unfold offS
  split
  · rename_i ht
    simp only [takesE, Bool.and_eq_true, decide_eq_true_eq] at ht
    refine ⟨h.srt.put e, fun x hx => ?_, ?_⟩
    · rcases mem_putE hx with rfl | hx
      · exact ht.1
      · exact h.ok x hx
    · have := putE_length S e
      omega
  · exact h
theorem Buf.nil : Buf [] := ⟨List.Pairwise.nil, fun _ h => by simp at h, by simp⟩
theorem Buf.filter {S : List Ev} (h : Buf S) (p : Ev → Bool) : Buf (S.filter p) :=
  ⟨List.Pairwise.filter _ h.srt, fun x hx => h.ok x (List.mem_filter.1 hx).1, Nat.le_trans (List.length_filter_le _ _) h.len⟩
theorem Off.buf {S T S' : List Ev} {e : Ev} {v v' : List Int} (h : Off S e v T S' v') (hB : Buf S) : Buf S' := by
  obtain ⟨L, -, rfl⟩ := h
  exact (hB.off e v).filter _
theorem Off.ok {S T S' : List Ev} {e : Ev} {v v' : List Int} (h : Off S e v T S' v') (hB : Buf S) : ∀ x ∈ T, okev x = true := by
  obtain ⟨L, hT, -⟩ := h
  exact fun x hx => (hB.off e v).ok x (hT.perm.mem_iff.1 (List.mem_append_left _ hx))
theorem Off.len {S T S' : List Ev} {e : Ev} {v v' : List Int} (h : Off S e v T S' v') (hB : Buf S) : T.length ≤ 64 := by
  obtain ⟨L, hT, -⟩ := h
  have := hT.perm.length_eq
  have := (hB.off e v).len
  rw [List.length_append] at *
  omega
theorem Off.vs {S T S' : List Ev} {e : Ev} {v v' : List Int} (h : Off S e v T S' v') : v' = vs T v := by
  obtain ⟨L, hT, -⟩ := h
  exact hT.vs
theorem Off.chain {S T S' : List Ev} {e : Ev} {v v' : List Int} (h : Off S e v T S' v') : Chain T v := by
  obtain ⟨L, hT, -⟩ := h
  exact hT.chain
/-- What waits can neither be seen nor was it. -/
def Rest (S : List Ev) (v : List Int) : Prop := ∀ x ∈ S, hasv v x.r x.n = false ∧ mayE x v = false
theorem Off.rest {S T S' : List Ev} {e : Ev} {v v' : List Int} (h : Off S e v T S' v') (hB : Buf S) (hv : v.length = 16) : Rest S' v' := by
  have hok := h.ok hB
  have hc := h.chain
  have hvs := h.vs
  obtain ⟨L, hT, rfl⟩ := h
  intro x hx
  obtain ⟨hx1, hx2⟩ := List.mem_filter.1 hx
  have hn : hasv v' x.r x.n = false := by simpa using hx2
  refine ⟨hn, ?_⟩
  rcases List.mem_append.1 (hT.perm.mem_iff.2 hx1) with hx | hx
  · have := (Chain.has hv T hc (fun y hy => okev_dot (hok y hy)) x.r x.n).2 (.inr ⟨x, hx, rfl, rfl⟩)
    rw [← hvs, hn] at this; cases this
  · exact hT.none x hx
/-- What was seen is told no more. -/
theorem Off.again {S T S' : List Ev} {e : Ev} {v v' : List Int} (h : Off S e v T S' v') (hR : Rest S v) (he : hasv v e.r e.n = true) : T = [] ∧ S' = S ∧ v' = v := by
  have ho : offS S e v = S := by
    unfold offS takesE
    rw [he]; simp
  obtain ⟨L, hT, hS⟩ := h
  rw [ho] at hT hS
  have h0 : Told S v [] S v := ⟨0, rfl, stepQ_none.2 fun x hx => (hR x hx).2⟩
  obtain ⟨rfl, rfl, rfl⟩ := hT.one h0
  refine ⟨rfl, ?_, rfl⟩
  rw [hS]
  exact List.filter_eq_self.2 fun x hx => by rw [(hR x hx).1]; rfl
theorem Chain.apart {v : List Int} (hv : v.length = 16) : ∀ T : List Ev, Chain T v → (∀ e ∈ T, okdot e.r e.n = true) → T.Pairwise fun a b => ¬ (a.r = b.r ∧ a.n = b.n) := by
  refine rev_ind (fun _ _ => List.Pairwise.nil) fun T e ih h hok => ?_
  obtain ⟨h1, h2⟩ := h.init
  have hok1 := fun x hx => hok x (List.mem_append_left [e] hx)
  rw [List.pairwise_append]
  refine ⟨ih h1 hok1, List.pairwise_singleton _ _, fun a ha b hb hh => ?_⟩
  rw [List.mem_singleton.1 hb] at hh
  have := (Chain.has hv T h1 hok1 a.r a.n).2 (.inr ⟨a, ha, rfl, rfl⟩)
  simp only [hasv, Bool.and_eq_true, decide_eq_true_eq] at this
  have hn := mayE_num h2
  rw [← hh.1] at hn
  omega
theorem Chain.at' {v : List Int} : ∀ T : List Ev, Chain T v → (∀ e ∈ T, okdot e.r e.n = true) → ∀ j : Nat, (vs T v).getD j 0 = v.getD j 0 ∨ ∃ e ∈ T, e.r = (j : Int) ∧ e.n = (vs T v).getD j 0 := by
  refine rev_ind (fun _ _ j => .inl rfl) fun T e ih h hok j => ?_
  obtain ⟨h1, h2⟩ := h.init
  have hd := hok e (by simp)
  simp only [okdot, decide_eq_true_eq] at hd
  rw [vs_snoc, seeV_getD]
  split
  · rename_i hh
    exact .inr ⟨e, by simp, by omega, rfl⟩
  · rcases ih h1 (fun x hx => hok x (List.mem_append_left _ hx)) j with h3 | ⟨x, hx, h3⟩
    · exact .inl h3
    · exact .inr ⟨x, List.mem_append_left _ hx, h3⟩
theorem sub_len : ∀ (A E : List Ev), A.Pairwise (fun a b => ¬ (a.r = b.r ∧ a.n = b.n)) → (∀ a ∈ A, a ∈ E) → A.length ≤ E.length
  | [], E, _, _ => Nat.zero_le _
  | a :: A, E, h, hs => by
    obtain ⟨h1, h2⟩ := List.pairwise_cons.1 h
    obtain ⟨k, hk⟩ := List.getElem?_of_mem (hs a (by simp))
    have hp := erase_perm hk
    have := sub_len A (E.eraseIdx k) h2 (fun b hb => by
      rcases List.mem_cons.1 (hp.mem_iff.2 (hs b (by simp [hb]))) with e | e
      · exact absurd (by rw [e]; exact ⟨rfl, rfl⟩) (h1 b hb)
      · exact e)
    have hl := hp.length_eq
    simp only [List.length_cons] at *
    omega
theorem apart_same {E : List Ev} (h : E.Pairwise fun a b => ¬ (a.r = b.r ∧ a.n = b.n)) {a b : Ev} (ha : a ∈ E) (hb : b ∈ E) (hr : a.r = b.r) (hn : a.n = b.n) : a = b := by
  induction E with
  | nil => simp at ha
  | cons x E ih =>
    obtain ⟨h1, h2⟩ := List.pairwise_cons.1 h
    rcases List.mem_cons.1 ha with e1 | ha'
    · rcases List.mem_cons.1 hb with e2 | hb'
      · rw [e1, e2]
      · exact absurd ⟨by rw [← e1]; exact hr, by rw [← e1]; exact hn⟩ (h1 b hb')
    · rcases List.mem_cons.1 hb with e2 | hb'
      · exact absurd ⟨by rw [← e2]; exact hr.symm, by rw [← e2]; exact hn.symm⟩ (h1 a ha')
      · exact ih h2 ha' hb'
theorem max_le {a b : List Int} (ha : a.length = 16) (hb : b.length = 16) : each max a b = b ↔ ∀ j : Nat, j < 16 → a.getD j 0 ≤ b.getD j 0 := by
  constructor
  · intro h j hj
    have : (each max a b).getD j 0 = b.getD j 0 := by rw [h]
    simp only [each, List.getD_eq_getElem?_getD, List.getElem?_zipWith, List.getElem?_eq_getElem (show j < a.length by omega), List.getElem?_eq_getElem (show j < b.length by omega), Option.getD_some] at this ⊢
    omega
  · intro h
    refine List.ext_getElem (by simp [each]; omega) fun j h1 h2 => ?_
    have := h j (by omega)
    simp only [List.getD_eq_getElem?_getD, List.getElem?_eq_getElem (show j < a.length by omega), List.getElem?_eq_getElem (show j < b.length by omega), Option.getD_some] at this
    simp only [each, List.getElem_zipWith]
    omega
theorem zeros_getD (j : Nat) : zeros.getD j 0 = 0 := by
  simp only [zeros, List.getD_eq_getElem?_getD, List.getElem?_replicate]
  split <;> rfl
theorem SrE.apart {S : List Ev} (h : SrE S) : S.Pairwise fun a b => ¬ (a.r = b.r ∧ a.n = b.n) := h.imp fun {a b} hb => by
  rw [befE_iff] at hb; omega
/-- Events that may be seen one behind the other. -/
structure Good (E : List Ev) : Prop where
  chain : Chain E zeros
  ok : ∀ e ∈ E, okev e = true
  deps : ∀ e ∈ E, e.deps.length = 16
  len : E.length ≤ 64
theorem Good.dots {E : List Ev} (h : Good E) : ∀ e ∈ E, okdot e.r e.n = true := fun e he => okev_dot (h.ok e he)
theorem Good.apart {E : List Ev} (h : Good E) : E.Pairwise fun a b => ¬ (a.r = b.r ∧ a.n = b.n) := Chain.apart rfl E h.chain h.dots
/-- What was told, what waits, when those of C have come. -/
structure Come (E C T S : List Ev) (v : List Int) : Prop where
  told : ∀ x ∈ T, x ∈ E
  kept : ∀ x ∈ S, x ∈ E
  chain : Chain T zeros
  vs : v = vs T zeros
  buf : Buf S
  rest : Rest S v
  come : ∀ x ∈ C, x ∈ T ∨ x ∈ S
theorem Come.start (E : List Ev) : Come E [] [] [] zeros := ⟨fun _ h => by simp at h, fun _ h => by simp at h, Chain.nil _, rfl, Buf.nil, fun _ h => by simp at h, fun _ h => by simp at h⟩
theorem Come.vlen {E C T S : List Ev} {v : List Int} (h : Come E C T S v) : v.length = 16 := by rw [h.vs, vs_length]; rfl
theorem Come.had {E C T S : List Ev} {v : List Int} (h : Come E C T S v) (hE : Good E) {x : Ev} (hx : x ∈ E) (hh : hasv v x.r x.n = true) : x ∈ T := by
  rw [h.vs] at hh
  rcases (Chain.has (v := zeros) rfl T h.chain (fun e he => hE.dots e (h.told e he)) x.r x.n).1 hh with h1 | ⟨z, hz, h1, h2⟩
  · simp only [hasv, okdot, zeros_getD, Bool.and_eq_true, decide_eq_true_eq] at h1
    omega
  · rw [← apart_same hE.apart (h.told z hz) hx h1 h2]
    exact hz
theorem Come.step {E C T S : List Ev} {v : List Int} (h : Come E C T S v) (hE : Good E) {x : Ev} (hx : x ∈ E) {T' S' : List Ev} {v' : List Int} (ho : Off S x v T' S' v') : Come E (C ++ [x]) (T ++ T') S' v' := by
  have hsub : ∀ y ∈ offS S x v, y ∈ E := fun y hy => by
    unfold offS at hy
    split at hy
    · rcases mem_putE hy with rfl | hy
      · exact hx
      · exact h.kept y hy
    · exact h.kept y hy
  have hT' : ∀ y ∈ T', y ∈ E := fun y hy => by
    obtain ⟨L, hT, -⟩ := ho
    exact hsub y (hT.perm.mem_iff.1 (List.mem_append_left _ hy))
  have hS' : S' = (offS S x v).filter (fun x => !hasv v' x.r x.n) := by
    obtain ⟨L, -, hS⟩ := ho
    exact hS
  have hk : ∀ y ∈ S, y ∈ offS S x v := fun y hy => by
    unfold offS
    split
    · rename_i ht
      simp only [takesE, Bool.and_eq_true, Bool.not_eq_true'] at ht
      exact putE_sub hy ht.2.2.1
    · exact hy
  have h1 : Come E C (T ++ T') S' v' → ∀ y ∈ offS S x v, y ∈ T ++ T' ∨ y ∈ S' := fun hc y hy => by
    rcases Bool.eq_false_or_eq_true (hasv v' y.r y.n) with hh | hh
    · exact .inl (hc.had hE (hsub y hy) hh)
    · exact .inr (by rw [hS']; exact List.mem_filter.2 ⟨hy, by rw [hh]; rfl⟩)
  have hc0 : Come E [] (T ++ T') S' v' := ⟨fun y hy => by
      rcases List.mem_append.1 hy with hy | hy
      · exact h.told y hy
      · exact hT' y hy, fun y hy => hsub y (by rw [hS'] at hy; exact (List.mem_filter.1 hy).1), h.chain.append (by rw [← h.vs]; exact ho.chain), by rw [ho.vs, h.vs, vs_append], ho.buf h.buf, ho.rest h.buf h.vlen, fun _ hy => by simp at hy⟩
  have h2 : ∀ y ∈ offS S x v, y ∈ T ++ T' ∨ y ∈ S' := fun y hy => by
    rcases Bool.eq_false_or_eq_true (hasv v' y.r y.n) with hh | hh
    · exact .inl (hc0.had hE (hsub y hy) hh)
    · exact .inr (by rw [hS']; exact List.mem_filter.2 ⟨hy, by rw [hh]; rfl⟩)
  have h3 : ∀ y, y ∈ T ∨ y ∈ S → y ∈ T ++ T' ∨ y ∈ S' := fun y hy => by
    rcases hy with hy | hy
    · exact .inl (List.mem_append_left _ hy)
    · exact h2 y (hk y hy)
  refine ⟨hc0.told, hc0.kept, hc0.chain, hc0.vs, hc0.buf, hc0.rest, fun y hy => ?_⟩
  rcases List.mem_append.1 hy with hy | hy
  · exact h3 y (h.come y hy)
  · rw [List.mem_singleton.1 hy]
    rcases Bool.eq_false_or_eq_true (takesE S x v) with ht | ht
    · exact h2 x (by unfold offS; rw [if_pos ht]; exact putE_self S x)
    · apply h3
      rcases Bool.eq_false_or_eq_true (hasv v x.r x.n) with hh | hh
      · exact .inl (h.had hE hx hh)
      · rcases Bool.eq_false_or_eq_true (hasE S x) with hs | hs
        · obtain ⟨z, hz, hzz⟩ := List.any_eq_true.1 hs
          simp only [decide_eq_true_eq] at hzz
          rw [← apart_same hE.apart (h.kept z hz) hx hzz.1 hzz.2]
          exact .inr hz
        · exfalso
          unfold takesE at ht
          rw [hE.ok x hx, hh, hs] at ht
          simp only [Bool.not_false, Bool.true_and, decide_eq_false_iff_not, Nat.not_lt] at ht
          have hap : ∀ b ∈ S, ¬ (x.r = b.r ∧ x.n = b.n) := fun b hb hbb => by
            have h9 : hasE S x = true := List.any_eq_true.2 ⟨b, hb, by simp only [decide_eq_true_eq]; exact ⟨hbb.1.symm, hbb.2.symm⟩⟩
            rw [hs] at h9
            exact Bool.noConfusion h9
          have := sub_len (x :: S) E (List.pairwise_cons.2 ⟨hap, h.buf.srt.apart⟩) (fun a ha => by
            rcases List.mem_cons.1 ha with e1 | ha
            · rw [e1]; exact hx
            · exact h.kept a ha)
          have := hE.len
          simp only [List.length_cons] at *
          omega
theorem vs_le {T U : List Ev} (hT : Chain T zeros) (kT : ∀ e ∈ T, okdot e.r e.n = true) (hU : Chain U zeros) (kU : ∀ e ∈ U, okdot e.r e.n = true) (hs : ∀ e ∈ T, e ∈ U) (j : Nat) : (vs T zeros).getD j 0 ≤ (vs U zeros).getD j 0 := by
  rcases Chain.at' T hT kT j with h1 | ⟨e, he, h1, h2⟩
  · rw [h1]; exact Chain.mono U hU j
  · have := (Chain.has (v := zeros) rfl U hU kU e.r e.n).2 (.inr ⟨e, hs e he, rfl, rfl⟩)
    simp only [hasv, Bool.and_eq_true, decide_eq_true_eq] at this
    have hj : e.r.toNat = j := by omega
    rw [hj] at this
    omega
theorem Come.all {E C T S : List Ev} {v : List Int} (h : Come E C T S v) (hE : Good E) (hC : ∀ x ∈ E, x ∈ C) : v = Proofs.Ythpkpmcccpfabaa.vs E zeros ∧ T.length = E.length ∧ S = [] := by
  have kT : ∀ e ∈ T, okdot e.r e.n = true := fun e he => hE.dots e (h.told e he)
  have key : ∀ i, ∀ e, E[i]? = some e → (∀ k x, k < i → E[k]? = some x → x ∈ T) → e ∈ T := fun i e he hi => by
    have hm : e ∈ E := List.mem_of_getElem? he
    rcases h.come e (hC e hm) with h1 | h1
    · exact h1
    · exfalso
      obtain ⟨h2, h3⟩ := h.rest e h1
      have h4 := hE.chain i e he
      have hil := (List.getElem?_eq_some_iff.1 he).1
      have hcu : Chain (E.take i) zeros := fun k x hx => by
        have hk : k < i := by have := (List.getElem?_eq_some_iff.1 hx).1; rw [List.length_take] at this; omega
        rw [List.getElem?_take_of_lt hk] at hx
        rw [List.take_take, Nat.min_eq_left (by omega)]
        exact hE.chain k x hx
      have hle := vs_le hcu (fun x hx => hE.dots x (List.mem_of_mem_take hx)) h.chain kT (fun x hx => by
        obtain ⟨k, hk⟩ := List.getElem?_of_mem hx
        have hki : k < i := by have := (List.getElem?_eq_some_iff.1 hk).1; rw [List.length_take] at this; omega
        rw [List.getElem?_take_of_lt hki] at hk
        exact hi k x hki hk)
      rw [← h.vs] at hle
      simp only [mayE, Bool.and_eq_true, decide_eq_true_eq] at h4
      have hul : (Proofs.Ythpkpmcccpfabaa.vs (E.take i) zeros).length = 16 := by rw [vs_length]; rfl
      have h5 := (max_le (hE.deps e hm) hul).1 h4.2
      have h6 : each max e.deps v = v := (max_le (hE.deps e hm) h.vlen).2 fun j hj => Int.le_trans (h5 j hj) (hle j)
      have h7 : e.n = v.getD e.r.toNat 0 + 1 := by
        have := hle e.r.toNat
        have hd := hE.dots e hm
        simp only [hasv, hd, Bool.true_and, decide_eq_false_iff_not] at h2
        omega
      unfold mayE at h3
      rw [decide_eq_true h7, decide_eq_true h6] at h3
      cases h3
  have all : ∀ i : Nat, ∀ (k : Nat) (x : Ev), k < i → E[k]? = some x → x ∈ T := fun i => by
    induction i with
    | zero => intro k x hk; omega
    | succ i ih =>
      intro k x hk hx
      exact key k x hx (fun k' x' hk' hx' => ih k' x' (by omega) hx')
  have hET : ∀ x ∈ E, x ∈ T := fun x hx => by
    obtain ⟨k, hk⟩ := List.getElem?_of_mem hx
    exact all (k + 1) k x (by omega) hk
  have hvl := h.vlen
  refine ⟨?_, ?_, ?_⟩
  · refine List.ext_getElem (by rw [hvl, vs_length]; rfl) fun j h1 h2 => ?_
    have q1 := vs_le h.chain kT hE.chain hE.dots h.told j
    have q2 := vs_le hE.chain hE.dots h.chain kT hET j
    rw [← h.vs] at q1 q2
    simp only [List.getD_eq_getElem?_getD, List.getElem?_eq_getElem h1, List.getElem?_eq_getElem h2, Option.getD_some] at q1 q2
    omega
  · have q1 := sub_len T E (Chain.apart rfl T h.chain kT) h.told
    have q2 := sub_len E T hE.apart hET
    omega
  · cases S with
    | nil => rfl
    | cons x S =>
      exfalso
      have hx := hET x (h.kept x (by simp))
      have := (Chain.has (v := zeros) rfl T h.chain kT x.r x.n).2 (.inr ⟨x, hx, rfl, rfl⟩)
      rw [← h.vs, (h.rest x (by simp)).1] at this
      cases this
theorem find_idx {S : List Ev} {p : Ev → Bool} {k : Nat} {e : Ev} (h : S.findIdx? p = some k) (he : S[k]? = some e) : S.find? p = some e := by
  rw [List.findIdx?_eq_some_iff_getElem] at h
  obtain ⟨h1, h2, h3⟩ := h
  obtain ⟨hk, h4⟩ := List.getElem?_eq_some_iff.1 he
  subst h4
  rw [List.find?_eq_some_iff_getElem]
  exact ⟨h2, k, h1, rfl, fun j hj => by simpa using h3 j hj⟩
theorem may_not {e : Ev} {v : List Int} (h : mayE e v = true) : hasv v e.r e.n = false := by
  have := mayE_num h
  unfold hasv
  have h2 : decide (e.n ≤ v.getD e.r.toNat 0) = false := by simp only [decide_eq_false_iff_not]; omega
  rw [h2, Bool.and_false]
theorem find_fresh (S : List Ev) (v : List Int) : (S.filter (fun x => !hasv v x.r x.n)).find? (fun e => mayE e v) = S.find? (fun e => mayE e v) := by
  rw [List.find?_filter]
  congr 1
  funext e
  rcases Bool.eq_false_or_eq_true (mayE e v) with h | h
  · simp [h, may_not h]
  · simp [h]
theorem filter_erase {S : List Ev} {k : Nat} {e : Ev} (p : Ev → Bool) (h : S[k]? = some e) (hp : p e = false) : (S.eraseIdx k).filter p = S.filter p := by
  obtain ⟨h1, h2⟩ := List.getElem?_eq_some_iff.1 h
  rw [List.eraseIdx_eq_take_drop_succ, List.filter_append]
  conv => rhs; rw [← List.take_append_drop k S, List.filter_append, List.drop_eq_getElem_cons h1, List.filter_cons, h2, hp]
  simp
theorem seeV_has {v : List Int} {e : Ev} (hv : v.length = 16) (hd : okdot e.r e.n = true) : hasv (seeV v e) e.r e.n = true := by
  have hd2 := hd
  simp only [okdot, decide_eq_true_eq] at hd2
  unfold hasv
  rw [hd, seeV_getD, if_pos ⟨rfl, by omega⟩]
  simp
theorem seeV_up {v : List Int} {e : Ev} (h : mayE e v = true) {r n : Int} (hh : hasv v r n = true) : hasv (seeV v e) r n = true := by
  simp only [hasv, Bool.and_eq_true, decide_eq_true_eq] at hh ⊢
  exact ⟨hh.1, Int.le_trans hh.2 (see_mono h _)⟩
/-- What the document's answer has told, and keeps: by what was taken from S. -/
structure Ref (S : List Ev) (v : List Int) (T M : List Ev) (u : List Int) : Prop where
  run : ∃ n L, runQ n S v = (T, L, u) ∧ L.filter (fun x => !hasv u x.r x.n) = M.filter (fun x => !hasv u x.r x.n)
  all : M.filter (fun x => !hasv u x.r x.n) = S.filter (fun x => !hasv u x.r x.n)
  len : u.length = 16
theorem Ref.start {S : List Ev} {v : List Int} (hv : v.length = 16) : Ref S v [] S v := ⟨⟨0, S, rfl, rfl⟩, rfl, hv⟩
theorem Ref.stop {S T M : List Ev} {v u : List Int} (h : Ref S v T M u) (hn : (M.filter (fun x => !hasv u x.r x.n)).find? (fun e => mayE e u) = none) : ∃ L, Told S v T L u := by
  obtain ⟨⟨n, L, h1, h2⟩, -, -⟩ := h
  refine ⟨L, n, h1, stepQ_none.2 fun e he => ?_⟩
  rw [← h2, find_fresh] at hn
  simpa using List.find?_eq_none.1 hn e he
theorem Ref.step {S T M : List Ev} {v u : List Int} (h : Ref S v T M u) (hS : ∀ x ∈ S, okdot x.r x.n = true) {e : Ev} (he : (M.filter (fun x => !hasv u x.r x.n)).find? (fun e => mayE e u) = some e) : Ref S v (T ++ [e]) (M.filter (fun x => !hasv u x.r x.n)) (seeV u e) ∧ mayE e u = true ∧ e ∈ S := by
  have hmay : mayE e u = true := by simpa using List.find?_some he
  have hem : e ∈ S := by
    have h1 := List.mem_of_find?_eq_some he
    rw [h.all] at h1
    exact (List.mem_filter.1 h1).1
  obtain ⟨⟨n, L, h1, h2⟩, h3, h4⟩ := h
  have hL : L.find? (fun e => mayE e u) = some e := by rw [← find_fresh, h2]; exact he
  have hs : ∃ k, L[k]? = some e ∧ stepQ L u = some (e, L.eraseIdx k, seeV u e) := by
    cases hq : stepQ L u with
    | none =>
      have := stepQ_none.1 hq e (List.mem_of_find?_eq_some hL)
      rw [hmay] at this; cases this
    | some q =>
      obtain ⟨k, k1, k2, k3, k4, k5⟩ := stepQ_some hq
      have := find_idx k2 k1
      rw [hL] at this
      have e1 : e = q.1 := by simpa using this
      subst e1
      refine ⟨k, k1, ?_⟩
      rw [← k4, ← k5]
  obtain ⟨k, hk, hq⟩ := hs
  have hd := hS e hem
  have hup : ∀ X : List Ev, (X.filter (fun x => !hasv u x.r x.n)).filter (fun x => !hasv (seeV u e) x.r x.n) = X.filter (fun x => !hasv (seeV u e) x.r x.n) := fun X => by
    rw [List.filter_filter]
    congr 1
    funext x
    rcases Bool.eq_false_or_eq_true (hasv u x.r x.n) with hh | hh
    · rw [hh, seeV_up hmay hh]; rfl
    · rw [hh]; simp
  refine ⟨⟨⟨n + 1, L.eraseIdx k, ?_, ?_⟩, ?_, by rw [seeV_length]; exact h4⟩, hmay, hem⟩
  · rw [runQ, h1]
    simp only [hq]
  · rw [filter_erase _ hk (by rw [seeV_has h4 hd]; rfl), hup, ← hup L, h2, hup]
  · rw [hup, ← hup M, h3, hup]
end Go.Proofs.Ythpkpmcccpfabaa
