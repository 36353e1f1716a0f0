/-
  What is live, plainly: what ends what, the live events of a list in their order, a key's type and what there is of it.
-/
import Derived.Test.YtmlfekbmbnfkjabGreatDoorQ01
import Derived.Test.YtmlfekbmbnfkjabGreatDoorQ06
namespace Go.Proofs.YtmlfekbmbnfkjabGreatDoor
set_option maxRecDepth 100000
open Go.Sort
set_option maxRecDepth 100000

deriving instance DecidableEq for Ev
/-- x stands ahead of y. -/
def ltE (x y : Ev) : Bool := laterE y x
theorem ltE_iff {x y : Ev} : ltE x y = true ↔ x.t < y.t ∨ (x.t = y.t ∧ (x.r < y.r ∨ (x.r = y.r ∧ x.n < y.n))) := later_iff y x
theorem ltE_false {x y : Ev} : ltE x y = false ↔ ¬ (x.t < y.t ∨ (x.t = y.t ∧ (x.r < y.r ∨ (x.r = y.r ∧ x.n < y.n)))) := by
  rw [← ltE_iff]; cases ltE x y <;> simp
theorem ltE_swo : SWO ltE where
  irrefl x := by rw [ltE_false]; omega
  trans x y z h1 h2 := by rw [ltE_iff] at *; omega
  ntrans x y z h1 h2 := by rw [ltE_false] at *; omega

/-- S is L in the stable order. -/
structure IsSt (L S : List Ev) : Prop where
  ord : S.Pairwise fun x y => ltE y x = false
  same : ∀ x, S.filter (eqv ltE x) = L.filter (eqv ltE x)
theorem IsSt.uniq {L S T : List Ev} (h : IsSt L S) (k : IsSt L T) : S = T := stable_one ltE_swo h.ord k.ord (fun x => (h.same x).trans (k.same x).symm)
/-- One more. -/
def insE (e : Ev) : List Ev → List Ev
  | [] => [e]
  | x :: S => if laterE x e then e :: x :: S else x :: insE e S
theorem ins_perm (e : Ev) : ∀ S : List Ev, (insE e S).Perm (e :: S)
  | [] => List.Perm.refl _
  | x :: S => by
    rw [insE]
    split
    · exact List.Perm.refl _
    · exact ((ins_perm e S).cons x).trans (List.Perm.swap e x S)
theorem ins_where (e : Ev) : ∀ S : List Ev, S.Pairwise (fun x y => ltE y x = false) → ∃ A B, S = A ++ B ∧ insE e S = A ++ e :: B ∧ (∀ a ∈ A, laterE a e = false) ∧ (∀ b ∈ B, laterE b e = true)
  | [], _ => ⟨[], [], rfl, rfl, by simp, by simp⟩
  | x :: S, h => by
    obtain ⟨h1, h2⟩ := List.pairwise_cons.1 h
    by_cases hx : laterE x e = true
    · refine ⟨[], x :: S, rfl, by rw [insE, if_pos hx]; rfl, by simp, fun b hb => ?_⟩
      rcases List.mem_cons.1 hb with rfl | hb
      · exact hx
      · have h3 : ltE e x = true := hx
        exact (swo_lt_le ltE_swo h3 (h1 b hb) : ltE e b = true)
    · obtain ⟨A, B, e1, e2, e3, e4⟩ := ins_where e S h2
      refine ⟨x :: A, B, by rw [e1]; rfl, by rw [insE, if_neg hx, e2]; rfl, fun a ha => ?_, e4⟩
      rcases List.mem_cons.1 ha with rfl | ha
      · simpa using hx
      · exact e3 a ha
theorem IsSt.ins {L S : List Ev} (h : IsSt L S) (e : Ev) : IsSt (L ++ [e]) (insE e S) := by
  obtain ⟨A, B, e1, e2, e3, e4⟩ := ins_where e S h.ord
  have ho := h.ord
  rw [e1, List.pairwise_append] at ho
  obtain ⟨o1, o2, o3⟩ := ho
  refine ⟨?_, fun x => ?_⟩
  · rw [e2, List.pairwise_append]
    refine ⟨o1, List.pairwise_cons.2 ⟨fun b hb => ?_, o2⟩, fun a ha b hb => ?_⟩
    · exact swo_asym ltE_swo (show ltE e b = true from e4 b hb)
    · rcases List.mem_cons.1 hb with rfl | hb
      · exact e3 a ha
      · exact o3 a ha b hb
  · have hs := h.same x
    rw [e1, List.filter_append] at hs
    rw [e2, List.filter_append, List.filter_append, ← hs]
    by_cases hx : eqv ltE x e = true
    · have hB : B.filter (eqv ltE x) = [] := by
        rw [List.filter_eq_nil_iff]
        intro b hb hxb
        have h1 := ltE_swo.ntrans _ _ _ (eqv_iff.1 hx).2 (eqv_iff.1 hxb).1
        have h2 : ltE e b = true := e4 b hb
        rw [h1] at h2; cases h2
      rw [List.filter_cons_of_pos hx, hB, List.append_nil, List.filter_cons_of_pos hx, List.filter_nil]
    · rw [List.filter_cons_of_neg hx, List.filter_cons_of_neg hx, List.filter_nil, List.append_nil]
def srtE (l : List Ev) : List Ev := l.foldl (fun S e => insE e S) []
theorem foldl_st : ∀ (l L S : List Ev), IsSt L S → IsSt (L ++ l) (l.foldl (fun S e => insE e S) S)
  | [], L, S, h => by rw [List.append_nil]; exact h
  | e :: l, L, S, h => by
    have := foldl_st l (L ++ [e]) (insE e S) (h.ins e)
    rw [List.append_assoc] at this
    exact this
theorem srt_st (l : List Ev) : IsSt l (srtE l) := by
  have := foldl_st l [] [] ⟨List.Pairwise.nil, fun _ => rfl⟩
  rw [List.nil_append] at this
  exact this
theorem foldl_perm : ∀ (l S : List Ev), (l.foldl (fun S e => insE e S) S).Perm (S ++ l)
  | [], S => by rw [List.append_nil]; exact List.Perm.refl _
  | e :: l, S => by
    refine (foldl_perm l (insE e S)).trans ?_
    refine ((ins_perm e S).append_right l).trans ?_
    exact (List.perm_middle (l₁ := S) (l₂ := l) (a := e)).symm
theorem srt_perm (l : List Ev) : (srtE l).Perm l := by
  have := foldl_perm l []
  rw [List.nil_append] at this
  exact this
theorem srt_mem {l : List Ev} {e : Ev} : e ∈ srtE l ↔ e ∈ l := (srt_perm l).mem_iff
theorem srt_length (l : List Ev) : (srtE l).length = l.length := (srt_perm l).length_eq
theorem filter_comm {p q : Ev → Bool} (l : List Ev) : (l.filter p).filter q = (l.filter q).filter p := by
  rw [List.filter_filter, List.filter_filter]
  congr 1
  funext x
  exact Bool.and_comm _ _
theorem srt_filter (p : Ev → Bool) (l : List Ev) : srtE (l.filter p) = (srtE l).filter p := by
  refine (srt_st _).uniq ⟨(srt_st l).ord.filter _, fun x => ?_⟩
  rw [filter_comm, (srt_st l).same x, filter_comm]
/-- Dots. -/
def sameDot (x y : Ev) : Prop := x.r = y.r ∧ x.n = y.n
def Unlike (l : List Ev) : Prop := l.Pairwise fun x y => ¬ sameDot x y
theorem eqv_dot {x y : Ev} (h : eqv ltE x y = true) : sameDot x y := by
  obtain ⟨h1, h2⟩ := eqv_iff.1 h
  rw [ltE_false] at h1 h2
  unfold sameDot
  omega
theorem perm_few {l m : List Ev} (h : l.Perm m) (hl : l.length ≤ 1) : l = m := by
  match l, hl with
  | [], _ => exact (List.Perm.nil_eq h)
  | [a], _ => exact (List.singleton_perm.1 h)
theorem unlike_few {l : List Ev} (h : Unlike l) (x : Ev) : (l.filter (eqv ltE x)).length ≤ 1 := by
  have h1 : (l.filter (eqv ltE x)).Pairwise fun a b => ¬ sameDot a b := h.filter _
  have h2 : ∀ a ∈ l.filter (eqv ltE x), sameDot x a := fun a ha => eqv_dot (List.mem_filter.1 ha).2
  match hh : l.filter (eqv ltE x) with
  | [] => simp
  | [a] => simp
  | a :: b :: t =>
    rw [hh] at h1 h2
    have := (List.pairwise_cons.1 h1).1 b (by simp)
    obtain ⟨a1, a2⟩ := h2 a (by simp)
    obtain ⟨b1, b2⟩ := h2 b (by simp)
    exact absurd ⟨a1.symm.trans b1, a2.symm.trans b2⟩ this
theorem srt_order {l m : List Ev} (h : l.Perm m) (hu : Unlike l) : srtE l = srtE m := by
  refine (srt_st l).uniq ⟨(srt_st m).ord, fun x => ?_⟩
  rw [(srt_st m).same x]
  exact (perm_few (h.filter _) (unlike_few hu x)).symm

/-- Types. -/
def typE (k : Int) : Int := if k = 1 then 1 else if k = 2 then 2 else if k = 3 then 3 else if k = 5 then 4 else if k = 7 then 5 else if k = 9 then 6 else 0
/-- b ends a. -/
def hits (b a : Ev) : Bool := decide (b.kind = 11) || (decide ((b.kind = 4 ∨ b.kind = 3) ∧ a.kind = 3 ∧ b.field = a.field) || (decide ((b.kind = 6 ∨ b.kind = 5) ∧ a.kind = 5 ∧ b.field = a.field) || (decide ((b.kind = 8 ∨ b.kind = 7) ∧ a.kind = 7 ∧ b.field = a.field) || (decide (b.kind = 1 ∧ a.kind = 1) || decide (b.kind = 10 ∧ a.kind = 9 ∧ b.rr = a.r ∧ b.rn = a.n)))))
def endsE (b a : Ev) : Bool := coversE b a && (addsE a.kind && (decide (b.key = a.key) && hits b a))
def isLive (l : List Ev) (a : Ev) : Bool := addsE a.kind && !l.any (fun b => endsE b a)
def liveE (l : List Ev) : List Ev := l.filter (isLive l)
def allE (l : List Ev) : List Ev := srtE (liveE l)
def ofKeyE (key : List UInt8) (l : List Ev) : List Ev := l.filter fun e => decide (e.key = key)
theorem ends_key {b a : Ev} (h : endsE b a = true) : b.key = a.key := by
  unfold endsE at h
  simp only [Bool.and_eq_true, decide_eq_true_eq] at h
  exact h.2.2.1
theorem live_key (key : List UInt8) (l : List Ev) : liveE (ofKeyE key l) = ofKeyE key (liveE l) := by
  unfold liveE ofKeyE
  rw [List.filter_filter, List.filter_filter]
  apply List.filter_congr
  intro a ha
  by_cases hk : a.key = key
  · simp only [hk, decide_true, Bool.and_true, Bool.true_and]
    unfold isLive
    congr 2
    rw [Bool.eq_iff_iff, List.any_eq_true, List.any_eq_true]
    constructor
    · rintro ⟨b, hb, he⟩
      exact ⟨b, (List.mem_filter.1 hb).1, he⟩
    · rintro ⟨b, hb, he⟩
      exact ⟨b, List.mem_filter.2 ⟨hb, by rw [ends_key he, hk]; simp⟩, he⟩
  · simp [hk]
theorem all_key (key : List UInt8) (l : List Ev) : allE (ofKeyE key l) = ofKeyE key (allE l) := by
  unfold allE
  rw [live_key]
  exact srt_filter _ _
theorem all_mem {l : List Ev} {e : Ev} : e ∈ allE l ↔ e ∈ l ∧ isLive l e = true := by
  unfold allE liveE
  rw [srt_mem, List.mem_filter]
theorem all_length (l : List Ev) : (allE l).length ≤ l.length := by
  unfold allE
  rw [srt_length]
  exact List.length_filter_le _ _
/-- The type of the last. -/
def lastE (S : List Ev) : Int := match S.getLast? with | some e => typE e.kind | none => 0
def typeE (l : List Ev) (key : List UInt8) : Int := lastE (ofKeyE key (allE l))
def ofE (l : List Ev) (key : List UInt8) : List Ev := (ofKeyE key (allE l)).filter fun e => decide (typE e.kind = typeE l key)
theorem ofKey_two (key : List UInt8) (l : List Ev) : ofKeyE key (ofKeyE key l) = ofKeyE key l := by
  unfold ofKeyE
  rw [List.filter_filter]
  simp
theorem type_key (l : List Ev) (key : List UInt8) : typeE (ofKeyE key l) key = typeE l key := by
  unfold typeE
  rw [all_key, ofKey_two]
theorem of_key (l : List Ev) (key : List UInt8) : ofE (ofKeyE key l) key = ofE l key := by
  unfold ofE
  rw [all_key, ofKey_two, type_key]
/-- What is live among all, and stands in a part, is live in the part. -/
theorem live_part {l m : List Ev} (hs : ∀ b ∈ m, b ∈ l) {a : Ev} (h : isLive l a = true) : isLive m a = true := by
  unfold isLive at *
  simp only [Bool.and_eq_true, Bool.not_eq_true'] at *
  refine ⟨h.1, ?_⟩
  cases hh : m.any fun b => endsE b a
  · rfl
  · obtain ⟨b, hb, he⟩ := List.any_eq_true.1 hh
    rw [List.any_eq_true.2 ⟨b, hs b hb, he⟩] at h
    exact absurd h.2 (by simp)
end Go.Proofs.YtmlfekbmbnfkjabGreatDoor

