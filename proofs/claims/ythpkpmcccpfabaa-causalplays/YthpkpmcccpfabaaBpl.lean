/-
  Plain facts: things under dots, in these' order.
-/
namespace Go.Proofs.Ythpkpmcccpfabaa
set_option maxRecDepth 100000

/-- A thing under a dot. -/
structure It (α : Type) where
  r : Int
  n : Int
  x : α

section
variable {α β : Type}

/-- Stands a ahead of b? -/
def bef (a b : It α) : Bool := decide (a.r < b.r ∨ (a.r = b.r ∧ a.n < b.n))
/-- Lies it under that dot? -/
def isAt (r n : Int) (i : It α) : Bool := decide (i.r = r ∧ i.n = n)
/-- In their dots' order. -/
def Srt (S : List (It α)) : Prop := S.Pairwise fun a b => bef a b = true
def del (S : List (It α)) (r n : Int) : List (It α) := S.filter fun i => !isAt r n i
def put (S : List (It α)) (d : It α) : List (It α) := S.filter (fun i => bef i d) ++ d :: S.filter (fun i => bef d i)
def find (S : List (It α)) (r n : Int) : Option (It α) := S.find? (isAt r n)
def hasD (S : List (It α)) (r n : Int) : Bool := S.any (isAt r n)

theorem bef_iff {a b : It α} : bef a b = true ↔ (a.r < b.r ∨ (a.r = b.r ∧ a.n < b.n)) := by simp [bef]
theorem isAt_iff {r n : Int} {i : It α} : isAt r n i = true ↔ (i.r = r ∧ i.n = n) := by simp [isAt]
theorem bef_irrefl (a : It α) : bef a a = false := by simp [bef]
theorem bef_trans {a b c : It α} (h : bef a b = true) (k : bef b c = true) : bef a c = true := by rw [bef_iff] at *; omega
theorem bef_asymm {a b : It α} (h : bef a b = true) : bef b a = false := by
  rw [bef_iff] at h
  cases hb : bef b a
  · rfl
  · rw [bef_iff] at hb; omega
theorem bef_tri (a d : It α) : isAt d.r d.n a = true ∨ bef a d = true ∨ bef d a = true := by rw [bef_iff, bef_iff, isAt_iff]; omega
theorem isAt_bef {a d : It α} (h : isAt d.r d.n a = true) : bef a d = false ∧ bef d a = false := by
  rw [isAt_iff] at h
  constructor
  · cases hb : bef a d
    · rfl
    · rw [bef_iff] at hb; omega
  · cases hb : bef d a
    · rfl
    · rw [bef_iff] at hb; omega
theorem bef_ne {a b : It α} (h : bef a b = true) : ¬ (a.r = b.r ∧ a.n = b.n) := by rw [bef_iff] at h; omega

theorem Srt.nil : Srt ([] : List (It α)) := List.Pairwise.nil
theorem Srt.filter {S : List (It α)} (h : Srt S) (p : It α → Bool) : Srt (S.filter p) := List.Pairwise.filter p h
theorem Srt.del {S : List (It α)} (h : Srt S) (r n : Int) : Srt (del S r n) := h.filter _
theorem Srt.put {S : List (It α)} (h : Srt S) (d : It α) : Srt (put S d) := by
  unfold Srt Proofs.Ythpkpmcccpfabaa.put
  rw [List.pairwise_append]
  refine ⟨h.filter _, List.pairwise_cons.2 ⟨fun a ha => (List.mem_filter.1 ha).2, h.filter _⟩, fun a ha b hb => ?_⟩
  have h1 := (List.mem_filter.1 ha).2
  rcases List.mem_cons.1 hb with rfl | hb
  · exact h1
  · exact bef_trans h1 (List.mem_filter.1 hb).2
theorem Srt.apart {S : List (It α)} (h : Srt S) : S.Pairwise fun a b => ¬ (a.r = b.r ∧ a.n = b.n) := h.imp bef_ne
/-- Two lists in order with the same things are one. -/
theorem Srt.eq_of_perm : ∀ {S T : List (It α)}, Srt S → Srt T → S.Perm T → S = T
  | [], T, _, _, hp => (List.Perm.nil_eq hp)
  | a :: S, [], _, _, hp => absurd hp.length_eq (by simp)
  | a :: S, b :: T, hS, hT, hp => by
    obtain ⟨h1, h2⟩ := List.pairwise_cons.1 hS
    obtain ⟨k1, k2⟩ := List.pairwise_cons.1 hT
    have e : a = b := by
      have ha : a ∈ b :: T := hp.mem_iff.1 (by simp)
      have hb : b ∈ a :: S := hp.mem_iff.2 (by simp)
      rcases List.mem_cons.1 ha with e | ha
      · exact e
      · rcases List.mem_cons.1 hb with e | hb
        · exact e.symm
        · have := bef_asymm (h1 b hb); rw [k1 a ha] at this; cases this
    subst e
    rw [Srt.eq_of_perm h2 k2 (List.perm_cons a |>.1 hp)]
theorem filter_or_perm {β : Type} (p q : β → Bool) : ∀ S : List β, (∀ i ∈ S, ¬ (p i = true ∧ q i = true)) → (S.filter p ++ S.filter q).Perm (S.filter fun i => p i || q i)
  | [], _ => by simp
  | a :: S, h => by
    have ih := filter_or_perm p q S (fun i hi => h i (by simp [hi]))
    have ha := h a (by simp)
    simp only [List.filter_cons]
    cases hp : p a <;> cases hq : q a
    · simpa using ih
    · simp only [Bool.false_eq_true, if_false, if_true, Bool.or_true]
      exact (List.perm_middle).trans (ih.cons a)
    · simp only [Bool.false_eq_true, if_false, if_true, Bool.true_or, List.cons_append]
      exact ih.cons a
    · exact absurd ⟨hp, hq⟩ ha
theorem put_perm (S : List (It α)) (d : It α) : (put S d).Perm (d :: del S d.r d.n) := by
  unfold put del
  refine (List.perm_middle).trans (List.Perm.cons d ?_)
  refine (filter_or_perm _ _ S (fun i _ h => by have := bef_asymm h.1; rw [h.2] at this; cases this)).trans ?_
  refine List.Perm.of_eq (List.filter_congr fun i _ => ?_)
  rcases bef_tri i d with h | h | h
  · obtain ⟨h1, h2⟩ := isAt_bef h
    rw [h, h1, h2]; rfl
  · have : isAt d.r d.n i = false := by
      cases hh : isAt d.r d.n i
      · rfl
      · rw [(isAt_bef hh).1] at h; cases h
    rw [h, this]; rfl
  · have : isAt d.r d.n i = false := by
      cases hh : isAt d.r d.n i
      · rfl
      · rw [(isAt_bef hh).2] at h; cases h
    rw [h, this]; simp
theorem mem_put {S : List (It α)} {d i : It α} : i ∈ put S d ↔ i = d ∨ (i ∈ S ∧ isAt d.r d.n i = false) := by
  rw [(put_perm S d).mem_iff, List.mem_cons]
  simp [del]
theorem hasD_iff {S : List (It α)} {r n : Int} : hasD S r n = true ↔ ∃ i ∈ S, i.r = r ∧ i.n = n := by
  simp [hasD, isAt]
theorem del_of_not {S : List (It α)} {r n : Int} (h : hasD S r n = false) : del S r n = S := by
  unfold del
  refine List.filter_eq_self.2 fun i hi => ?_
  cases hh : isAt r n i
  · rfl
  · have : hasD S r n = true := List.any_eq_true.2 ⟨i, hi, hh⟩
    rw [h] at this; cases this
theorem del_length_of {S : List (It α)} (hS : Srt S) {r n : Int} (h : hasD S r n = true) : (del S r n).length + 1 = S.length := by
  induction S with
  | nil => simp [hasD] at h
  | cons a S ih =>
    obtain ⟨h1, h2⟩ := List.pairwise_cons.1 hS
    unfold del
    simp only [List.filter_cons]
    cases ha : isAt r n a
    · simp only [Bool.not_false, if_true, List.length_cons]
      have : hasD S r n = true := by simpa [hasD, ha] using h
      have := ih h2 this
      unfold del at this
      omega
    · simp only [Bool.not_true, Bool.false_eq_true, if_false, List.length_cons]
      have : S.filter (fun i => !isAt r n i) = S := List.filter_eq_self.2 fun i hi => by
        have hb := bef_ne (h1 i hi)
        rw [isAt_iff] at ha
        cases hh : isAt r n i
        · rfl
        · rw [isAt_iff] at hh; omega
      rw [this]
theorem put_length_new {S : List (It α)} {d : It α} (h : hasD S d.r d.n = false) : (put S d).length = S.length + 1 := by
  rw [(put_perm S d).length_eq, List.length_cons, del_of_not h]
theorem put_length_old {S : List (It α)} (hS : Srt S) {d : It α} (h : hasD S d.r d.n = true) : (put S d).length = S.length := by
  rw [(put_perm S d).length_eq, List.length_cons, del_length_of hS h]
theorem put_length_le (S : List (It α)) (d : It α) : (put S d).length ≤ S.length + 1 := by
  rw [(put_perm S d).length_eq, List.length_cons]
  have := List.length_filter_le (fun i => !isAt d.r d.n i) S
  unfold del; omega
/-- What is found there is the one thing that lies there. -/
theorem find_mem {S : List (It α)} {r n : Int} {i : It α} (h : find S r n = some i) : i ∈ S ∧ i.r = r ∧ i.n = n :=
  ⟨List.mem_of_find?_eq_some h, isAt_iff.1 (List.find?_some h)⟩
theorem find_none {S : List (It α)} {r n : Int} : find S r n = none ↔ hasD S r n = false := by
  simp [find, hasD]
theorem find_some {S : List (It α)} (hS : Srt S) {i : It α} (h : i ∈ S) : find S i.r i.n = some i := by
  unfold find
  cases hf : S.find? (isAt i.r i.n) with
  | none =>
    have := List.find?_eq_none.1 hf i h
    rw [isAt_iff] at this
    exact absurd ⟨rfl, rfl⟩ this
  | some j =>
    obtain ⟨hj, h1, h2⟩ := find_mem (S := S) (r := i.r) (n := i.n) hf
    congr 1
    have ap := hS.apart
    clear hf
    induction S with
    | nil => simp at h
    | cons a S ih =>
      obtain ⟨p1, p2⟩ := List.pairwise_cons.1 ap
      rcases List.mem_cons.1 h with e | h'
      · rcases List.mem_cons.1 hj with e' | hj'
        · rw [e, e']
        · exact absurd ⟨e ▸ h1.symm, e ▸ h2.symm⟩ (p1 j hj')
      · rcases List.mem_cons.1 hj with e' | hj'
        · exact absurd ⟨e' ▸ h1, e' ▸ h2⟩ (p1 i h')
        · exact ih (List.pairwise_cons.1 hS).2 h' hj' p2
theorem hasD_find {S : List (It α)} {r n : Int} : hasD S r n = (find S r n).isSome := by
  cases h : find S r n with
  | none => rw [find_none] at h; rw [h]; rfl
  | some i => obtain ⟨h1, h2, h3⟩ := find_mem h; exact hasD_iff.2 ⟨i, h1, h2, h3⟩
/-- What is put is found; nothing else changes. -/
theorem find_put_same {S : List (It α)} (hS : Srt S) (d : It α) : find (put S d) d.r d.n = some d :=
  find_some (hS.put d) (mem_put.2 (.inl rfl))
theorem find_put_other {S : List (It α)} (hS : Srt S) {d : It α} {r n : Int} (h : ¬ (r = d.r ∧ n = d.n)) : find (put S d) r n = find S r n := by
  cases hf : find S r n with
  | none =>
    rw [find_none] at hf ⊢
    cases hp : hasD (put S d) r n
    · rfl
    · obtain ⟨i, hi, h1, h2⟩ := hasD_iff.1 hp
      rcases mem_put.1 hi with rfl | ⟨hi, -⟩
      · exact absurd ⟨h1.symm, h2.symm⟩ h
      · have : hasD S r n = true := hasD_iff.2 ⟨i, hi, h1, h2⟩
        rw [hf] at this; cases this
  | some i =>
    obtain ⟨hi, rfl, rfl⟩ := find_mem hf
    refine find_some (hS.put d) (mem_put.2 (.inr ⟨hi, ?_⟩))
    cases hh : isAt d.r d.n i
    · rfl
    · exact absurd (isAt_iff.1 hh) h
theorem hasD_del (S : List (It α)) (r n : Int) : hasD (del S r n) r n = false := by
  cases hp : hasD (del S r n) r n
  · rfl
  · obtain ⟨i, hi, h1, h2⟩ := hasD_iff.1 hp
    have := (List.mem_filter.1 hi).2
    simp [isAt, h1, h2] at this
/-- How the things come one behind the other. -/
def puts (l : List (It α)) : List (It α) := l.foldl put []
theorem puts_snoc (l : List (It α)) (i : It α) : puts (l ++ [i]) = put (puts l) i := by simp [puts]
theorem puts_take {E : List (It α)} {k : Nat} {i : It α} (hi : E[k]? = some i) : puts (E.take (k + 1)) = put (puts (E.take k)) i := by
  rw [List.take_add_one, hi]
  exact puts_snoc _ _
theorem Srt.puts : ∀ l : List (It α), Srt (puts l) := by
  intro l
  unfold Proofs.Ythpkpmcccpfabaa.puts
  suffices h : ∀ (l S : List (It α)), Srt S → Srt (l.foldl Proofs.Ythpkpmcccpfabaa.put S) from h l [] Srt.nil
  intro l
  induction l with
  | nil => exact fun S h => h
  | cons a l ih => exact fun S h => ih _ (h.put a)
theorem puts_length (l : List (It α)) : (puts l).length ≤ l.length := by
  unfold puts
  suffices h : ∀ (l S : List (It α)), (l.foldl put S).length ≤ S.length + l.length from by simpa using h l []
  intro l
  induction l with
  | nil => intro S; simp
  | cons a l ih =>
    intro S
    have := ih (put S a)
    have := put_length_le S a
    simp only [List.foldl_cons, List.length_cons]
    omega
theorem perm_erase {γ : Type} : ∀ {L : List γ} {j : Nat} {i : γ}, L[j]? = some i → L.Perm (i :: L.eraseIdx j)
  | [], j, i, h => by simp at h
  | a :: L, 0, i, h => by
    obtain rfl : a = i := by simpa using h
    exact List.Perm.refl _
  | a :: L, j + 1, i, h => by
    have ih := perm_erase (L := L) (j := j) (i := i) (by simpa using h)
    simp only [List.eraseIdx_cons_succ]
    exact (ih.cons a).trans (List.Perm.swap i a _)
theorem perm_set {γ : Type} : ∀ {L : List γ} {j : Nat} {i x : γ}, L[j]? = some i → (L.set j x).Perm (x :: L.eraseIdx j)
  | [], j, i, x, h => by simp at h
  | a :: L, 0, i, x, h => List.Perm.refl _
  | a :: L, j + 1, i, x, h => by
    have ih := perm_set (L := L) (j := j) (i := i) (x := x) (by simpa using h)
    simp only [List.eraseIdx_cons_succ, List.set_cons_succ]
    exact (ih.cons a).trans (List.Perm.swap x a _)
theorem map_erase {γ δ : Type} (f : γ → δ) : ∀ (L : List γ) (j : Nat), (L.eraseIdx j).map f = (L.map f).eraseIdx j
  | [], j => by simp
  | a :: L, 0 => by simp
  | a :: L, j + 1 => by simp [map_erase f L j]
end
end Go.Proofs.Ythpkpmcccpfabaa
