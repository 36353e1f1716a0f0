/-
  Members and their scores, plainly.
-/
import Derived.Test.YtmacebekodndjaaGrf
namespace Go.Proofs.Ytmacebekodndjaa
set_option maxRecDepth 100000

/-- It gives a member its score. -/
def zsE (u : Ev) : Bool := decide (u.kind = 7)
/-- It gives this one its score. -/
def selZ (s : List UInt8) (u : Ev) : Bool := zsE u && decide (u.field = s)
def ofZ (E : List Ev) (s : List UInt8) : List Ev := E.filter (selZ s)
def fldZ (E : List Ev) : List (List UInt8) := (E.filter zsE).map fun e => e.field
def lastZ (E : List Ev) (s : List UInt8) : Option Ev := latL (selZ s) E
def numZ (E : List Ev) (s : List UInt8) : Int := (orz (lastZ E s)).num
def okZ (E : List Ev) (s : List UInt8) : Bool := (lastZ E s).isSome

theorem ofZ_take {E : List Ev} {i : Nat} {u : Ev} (h : E[i]? = some u) (s : List UInt8) : ofZ (E.take (i + 1)) s = if selZ s u then ofZ (E.take i) s ++ [u] else ofZ (E.take i) s := by
  unfold ofZ
  rw [take_snoc h, List.filter_append]
  by_cases hu : selZ s u = true
  · simp [hu]
  · simp [hu]
theorem ofZ_len (E : List Ev) (s : List UInt8) : (ofZ E s).length ≤ E.length := List.length_filter_le _ _
theorem ofZ_wide {E : List Ev} (h : ∀ e ∈ E, Wide e) (s : List UInt8) : ∀ e ∈ ofZ E s, Wide e := fun e he => h e (List.mem_filter.1 he).1
theorem fldZ_take {E : List Ev} {i : Nat} {u : Ev} (h : E[i]? = some u) : fldZ (E.take (i + 1)) = if zsE u then fldZ (E.take i) ++ [u.field] else fldZ (E.take i) := by
  unfold fldZ
  rw [take_snoc h, List.filter_append, List.map_append]
  by_cases hu : zsE u = true
  · simp [hu]
  · simp [hu]
theorem fldZ_len (E : List Ev) : (fldZ E).length ≤ E.length := by
  unfold fldZ
  rw [List.length_map]
  exact List.length_filter_le _ _
theorem fldZ_mem {E : List Ev} {s : List UInt8} : s ∈ fldZ E ↔ ∃ e ∈ E, selZ s e = true := by
  unfold fldZ selZ
  simp only [List.mem_map, List.mem_filter, Bool.and_eq_true, decide_eq_true_eq]
  exact ⟨fun ⟨e, ⟨h1, h2⟩, h3⟩ => ⟨e, h1, h2, h3⟩, fun ⟨e, h1, h2, h3⟩ => ⟨e, ⟨h1, h2⟩, h3⟩⟩
theorem lastZ_eq (E : List Ev) (s : List UInt8) : lastZ E s = latL anyE (ofZ E s) := latL_filter _ _
theorem okZ_iff (E : List Ev) (s : List UInt8) : okZ E s = true ↔ s ∈ fldZ E := by
  unfold okZ lastZ
  rw [fldZ_mem]
  cases h : latL (selZ s) E with
  | none =>
    have hn := lat_none h
    refine ⟨fun hh => (by cases hh), fun ⟨e, he, hs⟩ => ?_⟩
    rw [hn e he] at hs
    cases hs
  | some a => exact ⟨fun _ => ⟨a, lat_mem h, (lat_top h).1⟩, fun _ => rfl⟩
theorem okZ_no {E : List Ev} {s : List UInt8} (h : okZ E s = false) : lastZ E s = none := by
  unfold okZ at h
  cases h1 : lastZ E s with
  | none => rfl
  | some a => rw [h1] at h; cases h
theorem okZ_yes {E : List Ev} {s : List UInt8} (h : okZ E s = true) : lastZ E s = some (orz (lastZ E s)) := by
  unfold okZ at h
  cases h1 : lastZ E s with
  | none => rw [h1] at h; cases h
  | some a => rfl
theorem fldZ_room {E : List Ev} (h : ∀ e ∈ E, Wide e) {s : List UInt8} (hs : s ∈ fldZ E) : s.length ≤ 9223372036854775807 := by
  obtain ⟨e, he, hh⟩ := fldZ_mem.1 hs
  have : e.field = s := by
    unfold selZ at hh
    rw [Bool.and_eq_true, decide_eq_true_eq] at hh
    exact hh.2
  rw [← this]
  exact (h e he).2.f
/-- One more is seen. -/
theorem lastZ_pass {E : List Ev} {i : Nat} {u : Ev} (h : E[i]? = some u) (hz : zsE u = false) (s : List UInt8) : lastZ (E.take (i + 1)) s = lastZ (E.take i) s := by
  unfold lastZ
  rw [latL_take h]
  have : selZ s u = false := by unfold selZ; rw [hz]; rfl
  unfold stepL
  rw [this]
theorem lastZ_other {E : List Ev} {i : Nat} {u : Ev} (h : E[i]? = some u) {s : List UInt8} (hs : ¬ s = u.field) : lastZ (E.take (i + 1)) s = lastZ (E.take i) s := by
  unfold lastZ
  rw [latL_take h]
  have : selZ s u = false := by unfold selZ; rw [decide_eq_false (fun e => hs e.symm), Bool.and_false]
  unfold stepL
  rw [this]
theorem selZ_own {u : Ev} (hz : zsE u = true) : selZ u.field u = true := by unfold selZ; rw [hz]; simp
theorem lastZ_new {E : List Ev} {i : Nat} {u : Ev} (h : E[i]? = some u) (hz : zsE u = true) (ho : okZ (E.take i) u.field = false) : lastZ (E.take (i + 1)) u.field = some u := by
  have h1 := okZ_no ho
  unfold lastZ at h1 ⊢
  rw [latL_take h, h1]
  unfold stepL
  rw [selZ_own hz]
theorem lastZ_more {E : List Ev} {i : Nat} {u : Ev} (h : E[i]? = some u) (hz : zsE u = true) (ho : okZ (E.take i) u.field = true) : lastZ (E.take (i + 1)) u.field = if laterE u (orz (lastZ (E.take i) u.field)) then some u else lastZ (E.take i) u.field := by
  have h1 := okZ_yes ho
  generalize orz (lastZ (E.take i) u.field) = a at *
  unfold lastZ at h1 ⊢
  rw [latL_take h, h1]
  unfold stepL
  rw [selZ_own hz]
/-- What the map tells: it is turned, or it stays. -/
theorem tellZ_put {E : List Ev} {i : Nat} {u : Ev} (h : E[i]? = some u) (hz : zsE u = true) (ho : okZ (E.take i) u.field = false ∨ laterE u (orz (lastZ (E.take i) u.field)) = true) : (fun s => orz (lastZ (E.take (i + 1)) s)) = fun s => if s = u.field then u else orz (lastZ (E.take i) s) := by
  funext s
  by_cases hs : s = u.field
  · subst hs
    rw [if_pos rfl]
    cases hk : okZ (E.take i) u.field with
    | false => rw [lastZ_new h hz hk]; rfl
    | true =>
      rcases ho with ho | ho
      · rw [hk] at ho; cases ho
      · rw [lastZ_more h hz hk, if_pos ho]; rfl
  · rw [if_neg hs, lastZ_other h hs]
theorem tellZ_keep {E : List Ev} {i : Nat} {u : Ev} (h : E[i]? = some u) (hz : zsE u = true) (hk : okZ (E.take i) u.field = true) (ho : laterE u (orz (lastZ (E.take i) u.field)) = false) : (fun s => orz (lastZ (E.take (i + 1)) s)) = fun s => orz (lastZ (E.take i) s) := by
  funext s
  by_cases hs : s = u.field
  · subst hs
    rw [lastZ_more h hz hk, ho]
    rfl
  · rw [lastZ_other h hs]
theorem tellZ_pass {E : List Ev} {i : Nat} {u : Ev} (h : E[i]? = some u) (hz : zsE u = false) : (fun s => orz (lastZ (E.take (i + 1)) s)) = fun s => orz (lastZ (E.take i) s) := by
  funext s
  rw [lastZ_pass h hz]
/-- Members alone count where dots are unlike. -/
theorem lastZ_same {E M : List Ev} (hu : Unlike E) (hm : ∀ x, x ∈ M ↔ x ∈ E) (s : List UInt8) : lastZ M s = lastZ E s := lat_same hu hm
theorem numZ_same {E M : List Ev} (hu : Unlike E) (hm : ∀ x, x ∈ M ↔ x ∈ E) (s : List UInt8) : numZ M s = numZ E s := by
  unfold numZ
  rw [lastZ_same hu hm]
theorem fldZ_same {E M : List Ev} (hm : ∀ x, x ∈ M ↔ x ∈ E) (s : List UInt8) : s ∈ fldZ M ↔ s ∈ fldZ E := by
  rw [fldZ_mem, fldZ_mem]
  exact ⟨fun ⟨e, h1, h2⟩ => ⟨e, (hm e).1 h1, h2⟩, fun ⟨e, h1, h2⟩ => ⟨e, (hm e).2 h1, h2⟩⟩
/-- By the events of this member alone. -/
def ownZ (E : List Ev) (s : List UInt8) : List Ev := E.filter fun e => decide (e.field = s)
theorem ownZ_take {E : List Ev} {i : Nat} {u : Ev} (h : E[i]? = some u) (s : List UInt8) : ownZ (E.take (i + 1)) s = if decide (u.field = s) then ownZ (E.take i) s ++ [u] else ownZ (E.take i) s := by
  unfold ownZ
  rw [take_snoc h, List.filter_append]
  by_cases hu : u.field = s
  · simp [hu]
  · simp [hu]
theorem ownZ_len (E : List Ev) (s : List UInt8) : (ownZ E s).length ≤ E.length := List.length_filter_le _ _
theorem ownZ_of (E : List Ev) (s : List UInt8) : ofZ (ownZ E s) s = ofZ E s := by
  unfold ofZ ownZ
  rw [List.filter_filter]
  congr 1
  funext e
  unfold selZ
  cases zsE e <;> cases decide (e.field = s) <;> rfl
theorem ownZ_last (E : List Ev) (s : List UInt8) : lastZ (ownZ E s) s = lastZ E s := by
  rw [lastZ_eq, lastZ_eq, ownZ_of]
theorem numZ_own (E : List Ev) (s : List UInt8) : numZ (ownZ E s) s = numZ E s := by unfold numZ; rw [ownZ_last]
theorem okZ_own (E : List Ev) (s : List UInt8) : okZ (ownZ E s) s = okZ E s := by unfold okZ; rw [ownZ_last]

/-! A member and its score; their order. -/
abbrev Pr := List UInt8 × Int
def pairZ (E : List Ev) (s : List UInt8) : Pr := (s, numZ E s)
def Bef (a b : Pr) : Prop := a.2 < b.2 ∨ (a.2 = b.2 ∧ a.1 < b.1)
instance (a b : Pr) : Decidable (Bef a b) := inferInstanceAs (Decidable (_ ∨ _))
theorem bef_irrefl (a : Pr) : ¬ Bef a a := fun h => by
  rcases h with h | h
  · omega
  · exact List.lt_irrefl _ h.2
theorem bef_trans {a b c : Pr} (h1 : Bef a b) (h2 : Bef b c) : Bef a c := by
  unfold Bef at *
  rcases h1 with h1 | ⟨h1, h1'⟩ <;> rcases h2 with h2 | ⟨h2, h2'⟩
  · exact .inl (by omega)
  · exact .inl (by omega)
  · exact .inl (by omega)
  · exact .inr ⟨by omega, List.lt_trans h1' h2'⟩
theorem text_lt {a b : List UInt8} (h : ¬ a < b) (hn : a ≠ b) : b < a := by
  have hle : b ≤ a := List.not_lt.1 h
  rcases List.le_iff_lt_or_eq.1 hle with h1 | h1
  · exact h1
  · exact absurd h1.symm hn
theorem bef_total {a b : Pr} (h : ¬ Bef a b) (hn : a ≠ b) : Bef b a := by
  unfold Bef at *
  by_cases h1 : b.2 < a.2
  · exact .inl h1
  · have h2 : ¬ a.2 < b.2 := fun e => h (.inl e)
    have e : b.2 = a.2 := by omega
    refine .inr ⟨e, text_lt (fun h3 => h (.inr ⟨e.symm, h3⟩)) (fun e1 => hn (Prod.ext e1 e.symm))⟩
/-- They rise. -/
def StrP (S : List Pr) : Prop := S.Pairwise Bef
theorem strP_one : ∀ (S T : List Pr), StrP S → StrP T → (∀ d, d ∈ S ↔ d ∈ T) → S = T
  | [], [], _, _, _ => rfl
  | [], t :: T, _, _, h => by have := (h t).2 (by simp); cases this
  | s :: S, [], _, _, h => by have := (h s).1 (by simp); cases this
  | s :: S, t :: T, h1, h2, h => by
    obtain ⟨h3, h4⟩ := List.pairwise_cons.1 h1
    obtain ⟨h5, h6⟩ := List.pairwise_cons.1 h2
    have e : s = t := by
      rcases List.mem_cons.1 ((h s).1 (by simp)) with e | hs
      · exact e
      · rcases List.mem_cons.1 ((h t).2 (by simp)) with e | ht
        · exact e.symm
        · exact absurd (bef_trans (h5 s hs) (h3 t ht)) (bef_irrefl _)
    subst e
    congr 1
    refine strP_one S T h4 h6 fun d => ?_
    constructor
    · intro hd
      rcases List.mem_cons.1 ((h d).1 (List.mem_cons_of_mem _ hd)) with e | h7
      · subst e; exact absurd (h3 d hd) (bef_irrefl _)
      · exact h7
    · intro hd
      rcases List.mem_cons.1 ((h d).2 (List.mem_cons_of_mem _ hd)) with e | h7
      · subst e; exact absurd (h5 d hd) (bef_irrefl _)
      · exact h7
/-- What All tells. -/
def IsAll (E : List Ev) (S : List Pr) : Prop := StrP S ∧ ∀ d : Pr, d ∈ S ↔ d.1 ∈ fldZ E ∧ d.2 = numZ E d.1
theorem isAll_one {E : List Ev} {S T : List Pr} (h1 : IsAll E S) (h2 : IsAll E T) : S = T := strP_one S T h1.1 h2.1 fun d => by rw [h1.2, h2.2]
theorem isAll_same {E M : List Ev} {S : List Pr} (hu : Unlike E) (hm : ∀ x, x ∈ M ↔ x ∈ E) (h : IsAll M S) : IsAll E S := ⟨h.1, fun d => by rw [h.2, fldZ_same hm, numZ_same hu hm]⟩
/-- No two have one member. -/
theorem isAll_apart {E : List Ev} {S : List Pr} (h : IsAll E S) {p q : Nat} {x y : Pr} (hx : S[p]? = some x) (hy : S[q]? = some y) (he : x.1 = y.1) : p = q := by
  obtain ⟨hp, rfl⟩ := List.getElem?_eq_some_iff.1 hx
  obtain ⟨hq, rfl⟩ := List.getElem?_eq_some_iff.1 hy
  have e1 := ((h.2 S[p]).1 (List.getElem_mem hp)).2
  have e2 := ((h.2 S[q]).1 (List.getElem_mem hq)).2
  have e : S[p] = S[q] := Prod.ext he (by rw [e1, e2, he])
  rcases Nat.lt_trichotomy p q with h1 | h1 | h1
  · exact absurd (e ▸ List.pairwise_iff_getElem.1 h.1 p q hp hq h1) (bef_irrefl _)
  · exact h1
  · exact absurd (e ▸ List.pairwise_iff_getElem.1 h.1 q p hq hp h1) (bef_irrefl _)
/-- A member's place. -/
def rankP (S : List Pr) (s : List UInt8) : Option Nat := S.findIdx? fun d => decide (d.1 = s)
def rkN (S : List Pr) (s : List UInt8) : Int := (((rankP S s).getD 0 : Nat) : Int)
def rkB (S : List Pr) (s : List UInt8) : Bool := (rankP S s).isSome
theorem rank_at {S : List Pr} {s : List UInt8} {k : Nat} {d : Pr} (hd : S[k]? = some d) (he : d.1 = s) (hn : ∀ (j : Nat) (x : Pr), j < k → S[j]? = some x → ¬ x.1 = s) : rankP S s = some k := by
  unfold rankP
  obtain ⟨hk, rfl⟩ := List.getElem?_eq_some_iff.1 hd
  rw [List.findIdx?_eq_some_iff_getElem]
  exact ⟨hk, decide_eq_true he, fun j hj => by
    have := hn j _ hj (List.getElem?_eq_getElem (by omega))
    simpa using this⟩
theorem rank_no {S : List Pr} {s : List UInt8} (hn : ∀ (j : Nat) (x : Pr), S[j]? = some x → ¬ x.1 = s) : rankP S s = none := by
  unfold rankP
  rw [List.findIdx?_eq_none_iff]
  intro x hx
  obtain ⟨j, hj⟩ := List.mem_iff_getElem?.1 hx
  simpa using hn j x hj
end Go.Proofs.Ytmacebekodndjaa
