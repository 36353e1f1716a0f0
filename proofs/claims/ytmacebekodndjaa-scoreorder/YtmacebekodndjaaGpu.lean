/-
  The latest one of events, plainly.
-/
import Derived.Test.YtmacebekodndjaaGba
namespace Go.Proofs.Ytmacebekodndjaa
set_option maxRecDepth 100000

theorem lt_iff (b a : Ev) : laterE b a = true ↔ a.t < b.t ∨ (a.t = b.t ∧ (a.r < b.r ∨ (a.r = b.r ∧ a.n < b.n))) := by
  unfold laterE
  split
  · simp; omega
  · split
    · simp; omega
    · simp; omega
theorem lt_no (b a : Ev) : laterE b a = false ↔ ¬ (a.t < b.t ∨ (a.t = b.t ∧ (a.r < b.r ∨ (a.r = b.r ∧ a.n < b.n)))) := by
  rw [← lt_iff]; cases laterE b a <;> simp
theorem lt_tr {a b c : Ev} (h1 : laterE a b = true) (h2 : laterE b c = true) : laterE a c = true := by
  rw [lt_iff] at *; omega
theorem lt_ntr {a b c : Ev} (h1 : laterE a b = false) (h2 : laterE b c = false) : laterE a c = false := by
  rw [lt_no] at *; omega
theorem lt_self (a : Ev) : laterE a a = false := by rw [lt_no]; omega

/-- One more is seen. -/
def stepL (p : Ev → Bool) (o : Option Ev) (e : Ev) : Option Ev :=
  match p e, o with
  | false, o => o
  | true, none => some e
  | true, some a => if laterE e a then some e else some a
/-- The latest one of those that count. -/
def latL (p : Ev → Bool) (E : List Ev) : Option Ev := E.foldl (stepL p) none
theorem latL_snoc (p : Ev → Bool) (E : List Ev) (u : Ev) : latL p (E ++ [u]) = stepL p (latL p E) u := by
  unfold latL; rw [List.foldl_append]; rfl
theorem latL_take {p : Ev → Bool} {E : List Ev} {i : Nat} {u : Ev} (h : E[i]? = some u) : latL p (E.take (i + 1)) = stepL p (latL p (E.take i)) u := by
  rw [take_snoc h, latL_snoc]
theorem snoc_ind {α : Type} {P : List α → Prop} (h0 : P []) (h1 : ∀ l a, P l → P (l ++ [a])) (l : List α) : P l := by
  have : ∀ r : List α, P r.reverse := fun r => by
    induction r with
    | nil => exact h0
    | cons a r ih => rw [List.reverse_cons]; exact h1 _ _ ih
  have h := this l.reverse
  rwa [List.reverse_reverse] at h
/-- What it is: the first of those than which none is later. -/
def IsLat (p : Ev → Bool) (E : List Ev) : Option Ev → Prop
  | none => ∀ e ∈ E, p e = false
  | some a => ∃ A B, E = A ++ a :: B ∧ p a = true ∧ (∀ x ∈ A, p x = true → laterE a x = true) ∧ (∀ x ∈ B, p x = true → laterE x a = false)
theorem latL_is (p : Ev → Bool) (E : List Ev) : IsLat p E (latL p E) := by
  induction E using snoc_ind with
  | h0 => intro e he; cases he
  | h1 E u ih =>
    rw [latL_snoc]
    cases hp : p u with
    | false =>
      have e1 : stepL p (latL p E) u = latL p E := by simp [stepL, hp]
      rw [e1]
      cases ho : latL p E with
      | none =>
        rw [ho] at ih
        intro e he
        rcases List.mem_append.1 he with h | h
        · exact ih e h
        · rw [List.mem_singleton.1 h]; exact hp
      | some a =>
        rw [ho] at ih
        obtain ⟨A, B, h1, h2, h3, h4⟩ := ih
        refine ⟨A, B ++ [u], by rw [h1]; simp, h2, h3, fun x hx hpx => ?_⟩
        rcases List.mem_append.1 hx with h | h
        · exact h4 x h hpx
        · rw [List.mem_singleton.1 h, hp] at hpx; cases hpx
    | true =>
      cases ho : latL p E with
      | none =>
        have e1 : stepL p none u = some u := by simp [stepL, hp]
        rw [ho] at ih
        rw [e1]
        refine ⟨E, [], rfl, hp, fun x hx hpx => ?_, by simp⟩
        rw [ih x hx] at hpx
        cases hpx
      | some a =>
        rw [ho] at ih
        obtain ⟨A, B, h1, h2, h3, h4⟩ := ih
        cases hl : laterE u a with
        | true =>
          have e1 : stepL p (some a) u = some u := by simp [stepL, hp, hl]
          rw [e1]
          refine ⟨E, [], rfl, hp, fun x hx hpx => ?_, by simp⟩
          rw [h1] at hx
          rcases List.mem_append.1 hx with h | h
          · exact lt_tr hl (h3 x h hpx)
          · rcases List.mem_cons.1 h with rfl | h
            · exact hl
            · have := h4 x h hpx
              rw [lt_no] at this; rw [lt_iff] at *; omega
        | false =>
          have e1 : stepL p (some a) u = some a := by simp [stepL, hp, hl]
          rw [e1]
          refine ⟨A, B ++ [u], by rw [h1]; simp, h2, h3, fun x hx hpx => ?_⟩
          rcases List.mem_append.1 hx with h | h
          · exact h4 x h hpx
          · rw [List.mem_singleton.1 h]; exact hl
/-- All others are no later. -/
theorem IsLat.top {p : Ev → Bool} {E : List Ev} {a : Ev} (h : IsLat p E (some a)) : a ∈ E ∧ p a = true ∧ ∀ x ∈ E, p x = true → laterE x a = false := by
  obtain ⟨A, B, rfl, h2, h3, h4⟩ := h
  refine ⟨by simp, h2, fun x hx hpx => ?_⟩
  rcases List.mem_append.1 hx with h | h
  · have := h3 x h hpx
    rw [lt_no]; rw [lt_iff] at this; omega
  · rcases List.mem_cons.1 h with rfl | h
    · exact lt_self x
    · exact h4 x h hpx
theorem lat_mem {p : Ev → Bool} {E : List Ev} {a : Ev} (h : latL p E = some a) : a ∈ E := by
  have := latL_is p E
  rw [h] at this
  exact this.top.1
theorem lat_top {p : Ev → Bool} {E : List Ev} {a : Ev} (h : latL p E = some a) : p a = true ∧ ∀ x ∈ E, p x = true → laterE x a = false := by
  have := latL_is p E
  rw [h] at this
  exact this.top.2
theorem lat_none {p : Ev → Bool} {E : List Ev} (h : latL p E = none) : ∀ x ∈ E, p x = false := by
  have := latL_is p E
  rw [h] at this
  exact this
/-- The event that is told. -/
def orz (o : Option Ev) : Ev := o.getD zv
theorem zv_wide : Wide zv := ⟨rfl, ⟨by simp [zv], by simp [zv], by simp [zv]⟩⟩
theorem orz_wide {p : Ev → Bool} {E : List Ev} (h : ∀ e ∈ E, Wide e) : Wide (orz (latL p E)) := by
  cases ho : latL p E with
  | none => exact zv_wide
  | some a => exact h a (lat_mem ho)
def anyE (_ : Ev) : Bool := true
def setE (e : Ev) : Bool := decide (e.kind = 1)

/-- By those that count alone. -/
theorem foldl_filter (p : Ev → Bool) : ∀ (E : List Ev) (o : Option Ev), E.foldl (stepL p) o = (E.filter p).foldl (stepL anyE) o
  | [], _ => rfl
  | e :: E, o => by
    rw [List.foldl_cons, List.filter_cons]
    cases hp : p e with
    | false =>
      have e1 : stepL p o e = o := by simp [stepL, hp]
      rw [e1, if_neg (by simp)]
      exact foldl_filter p E o
    | true =>
      have e1 : stepL p o e = stepL anyE o e := by simp [stepL, hp, anyE]
      rw [e1, if_pos rfl, List.foldl_cons]
      exact foldl_filter p E _
theorem latL_filter (p : Ev → Bool) (E : List Ev) : latL p E = latL anyE (E.filter p) := foldl_filter p E none

/-- The document's: the first than which none is later. -/
def topE (E : List Ev) (a : Ev) : Bool := E.all fun b => !laterE b a
def rlat (E : List Ev) : Option Ev := E.find? (topE E)
theorem topE_iff {E : List Ev} {a : Ev} : topE E a = true ↔ ∀ b ∈ E, laterE b a = false := by
  simp [topE]
theorem rlat_eq (E : List Ev) : rlat E = latL anyE E := by
  have h := latL_is anyE E
  cases ho : latL anyE E with
  | none =>
    rw [ho] at h
    cases E with
    | nil => rfl
    | cons e E => have := h e (by simp); cases this
  | some a =>
    rw [ho] at h
    have ht := h.top
    obtain ⟨A, B, h1, h2, h3, h4⟩ := h
    have hA : ∀ x ∈ A, topE E x = false := fun x hx => by
      rw [Bool.eq_false_iff]
      intro hc
      have := topE_iff.1 hc a ht.1
      rw [h3 x hx rfl] at this
      cases this
    have ha : topE E a = true := topE_iff.2 fun b hb => ht.2.2 b hb rfl
    unfold rlat
    have e1 : E.find? (topE E) = (A ++ a :: B).find? (topE E) := congrArg _ h1
    rw [e1, List.find?_append, List.find?_eq_none.2 (fun x hx => by rw [hA x hx]; simp), List.find?_cons_of_pos ha]
    rfl

/-- Members alone count where dots are unlike. -/
def sameDot (x y : Ev) : Prop := x.r = y.r ∧ x.n = y.n
def Unlike (l : List Ev) : Prop := l.Pairwise fun x y => ¬ sameDot x y
theorem unlike_one {E : List Ev} (h : Unlike E) {x y : Ev} (hx : x ∈ E) (hy : y ∈ E) (hd : sameDot x y) : x = y := by
  induction E with
  | nil => cases hx
  | cons e E ih =>
    obtain ⟨h1, h2⟩ := List.pairwise_cons.1 h
    rcases List.mem_cons.1 hx with ex | hx'
    · rcases List.mem_cons.1 hy with ey | hy'
      · rw [ex, ey]
      · subst ex; exact absurd hd (h1 y hy')
    · rcases List.mem_cons.1 hy with ey | hy'
      · subst ey; exact absurd ⟨hd.1.symm, hd.2.symm⟩ (h1 x hx')
      · exact ih h2 hx' hy'
theorem lat_same {p : Ev → Bool} {E M : List Ev} (hu : Unlike E) (hm : ∀ x, x ∈ M ↔ x ∈ E) : latL p M = latL p E := by
  cases h1 : latL p E with
  | none =>
    cases h2 : latL p M with
    | none => rfl
    | some b =>
      have := lat_none h1 b ((hm b).1 (lat_mem h2))
      rw [(lat_top h2).1] at this
      cases this
  | some a =>
    cases h2 : latL p M with
    | none =>
      have := lat_none h2 a ((hm a).2 (lat_mem h1))
      rw [(lat_top h1).1] at this
      cases this
    | some b =>
      have ha := lat_top h1
      have hb := lat_top h2
      have c1 := ha.2 b ((hm b).1 (lat_mem h2)) hb.1
      have c2 := hb.2 a ((hm a).2 (lat_mem h1)) ha.1
      rw [lt_no] at c1 c2
      rw [unlike_one hu (lat_mem h1) ((hm b).1 (lat_mem h2)) ⟨by omega, by omega⟩]

/-- One behind the other. -/
theorem fold_some (p : Ev → Bool) (x : Ev) (B : List Ev) : B.foldl (stepL p) (some x) = match latL p B with
    | none => some x
    | some y => if laterE y x then some y else some x := by
  induction B using snoc_ind with
  | h0 => rfl
  | h1 B e ih =>
    rw [List.foldl_append, ih, latL_snoc]
    show stepL p _ e = _
    cases hp : p e with
    | false =>
      have e1 : ∀ o, stepL p o e = o := fun o => by simp [stepL, hp]
      rw [e1, e1]
    | true =>
      cases ho : latL p B with
      | none => simp [stepL, hp]
      | some y =>
        cases h1 : laterE y x with
        | true =>
          cases h2 : laterE e y with
          | true => simp [stepL, hp, h1, h2, lt_tr h2 h1]
          | false => simp [stepL, hp, h1, h2]
        | false =>
          cases h2 : laterE e y with
          | true => cases h3 : laterE e x <;> simp [stepL, hp, h1, h2, h3]
          | false => simp [stepL, hp, h1, h2, lt_ntr h2 h1]
theorem lat_append (A B : List Ev) : latL anyE (A ++ B) = latL anyE ((latL anyE A).toList ++ (latL anyE B).toList) := by
  have e1 : latL anyE (A ++ B) = B.foldl (stepL anyE) (latL anyE A) := by unfold latL; rw [List.foldl_append]
  rw [e1]
  cases h1 : latL anyE A with
  | none =>
    cases h2 : latL anyE B with
    | none => exact h2
    | some y => exact h2
  | some x =>
    rw [fold_some]
    cases h2 : latL anyE B with
    | none => rfl
    | some y => rfl
theorem lat_some_iff (A B : List Ev) : (latL anyE (A ++ B)).isSome = ((latL anyE A).isSome || (latL anyE B).isSome) := by
  rw [lat_append]
  cases h1 : latL anyE A <;> cases h2 : latL anyE B <;> simp [latL, stepL, anyE]
  split <;> rfl
end Go.Proofs.Ytmacebekodndjaa
