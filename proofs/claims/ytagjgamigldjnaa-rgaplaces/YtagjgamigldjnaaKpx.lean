/-
  An event more, plainly: what takes an item away, and what is pushed behind a place.
-/
import Derived.Test.YtagjgamigldjnaaKpe
import Derived.Test.YtagjgamigldjnaaKit
namespace Go.Proofs.Ytagjgamigldjnaa
set_option maxRecDepth 100000

theorem cut_at {A : List Ev} {y : Ev} {j : Nat} (h : A[j]? = some y) : A = A.take j ++ y :: A.drop (j + 1) := by
  obtain ⟨h1, h2⟩ := List.getElem?_eq_some_iff.1 h
  rw [← h2, ← List.drop_eq_getElem_cons h1, List.take_append_drop]
theorem nodup_at {A : List Ev} (hn : A.Nodup) {k : Nat} {p : Ev} (h : A[k]? = some p) : p ∉ A.take k ∧ p ∉ A.drop (k + 1) := by
  rw [cut_at h, List.nodup_append] at hn
  obtain ⟨-, h2, h3⟩ := hn
  exact ⟨fun hm => h3 p hm p (by simp) rfl, (List.nodup_cons.1 h2).1⟩
theorem filter_keep {A : List Ev} {p : Ev} (h : p ∉ A) : A.filter (fun e => decide (e ≠ p)) = A := List.filter_eq_self.2 fun e he => by
  rw [decide_eq_true_eq]
  intro e1
  exact h (e1 ▸ he)
theorem filter_at {A : List Ev} (hn : A.Nodup) {k : Nat} {p : Ev} (h : A[k]? = some p) : A.filter (fun e => decide (e ≠ p)) = A.take k ++ A.drop (k + 1) := by
  obtain ⟨h1, h2⟩ := nodup_at hn h
  have h3 : A.filter (fun e => decide (e ≠ p)) = (A.take k ++ p :: A.drop (k + 1)).filter (fun e => decide (e ≠ p)) := congrArg _ (cut_at h)
  rw [h3, List.filter_append, List.filter_cons, filter_keep h1, filter_keep h2]
  simp
theorem items_nodup {key : List UInt8} {l : List Ev} (h : Unlike l) : (itemsE key l).Nodup := (order_nodup h).sublist List.filter_sublist
theorem live_snoc (l : List Ev) (x e : Ev) : isLive (l ++ [x]) e = (isLive l e && !endsE x e) := by
  unfold isLive
  rw [List.any_append, List.any_cons, List.any_nil, Bool.or_false, Bool.not_or, Bool.and_assoc]
theorem items_drop {key : List UInt8} {E : List Ev} {X p : Ev} {k : Nat} (hu : Unlike E) (hX : X.kind = 10) (hXk : X.key = key) (hXr : X.rr = p.r ∧ X.rn = p.n) (hc : coversE X p = true) (hp : (itemsE key E)[k]? = some p) :
    itemsE key (E ++ [X]) = (itemsE key E).take k ++ (itemsE key E).drop (k + 1) := by
  have hn : nodesE key (E ++ [X]) = nodesE key E := by
    unfold nodesE nodeE
    rw [List.filter_append, List.filter_cons, List.filter_nil, hX]
    simp
  have ho : orderE key (E ++ [X]) = orderE key E := by unfold orderE; rw [hn]
  have hpm := mem_items.1 (List.mem_of_getElem? hp)
  rw [← filter_at (items_nodup hu) hp]
  unfold itemsE
  rw [ho, List.filter_filter]
  refine List.filter_congr fun e he => ?_
  obtain ⟨he1, he2, he3⟩ := mem_nodes.1 (mem_orderE.1 he)
  rw [live_snoc, Bool.and_comm]
  congr 1
  have hends : endsE X e = decide (e = p) := by
    by_cases h : e = p
    · subst h
      unfold endsE hits addsE
      rw [hc, hX, he2, hXk, he3, hXr.1, hXr.2]
      simp
    · have hd : ¬ (X.rr = e.r ∧ X.rn = e.n) := fun hd => h (unlike_mem hu he1 hpm.1.1 ⟨hd.1.symm.trans hXr.1, hd.2.symm.trans hXr.2⟩)
      unfold endsE hits
      rw [hX, he2]
      simp only [decide_eq_false h]
      simp [hd]
  rw [hends]
  by_cases h : e = p <;> simp [h]
theorem ends_push {x e : Ev} (hx : x.kind = 9) : endsE x e = false := by
  unfold endsE hits
  rw [hx]
  simp
theorem flat_if {q : Ev → Bool} {g : Ev → List Ev} : ∀ {K : List Ev} {f : Ev → List Ev}, (∀ y ∈ K, f y = if q y then g y else []) → K.flatMap f = (K.filter q).flatMap g
  | [], _, _ => rfl
  | y :: K, f, h => by
    rw [List.flatMap_cons, flat_if (K := K) (fun z hz => h z (by simp [hz])), h y (by simp), List.filter_cons]
    cases q y
    · simp
    · simp
theorem plus_none (x : Ev) (K : List Ev) : K.flatMap (plus none x) = K := by
  induction K with
  | nil => rfl
  | cons y K ih => rw [List.flatMap_cons, ih]; rfl
theorem plus_other {p x : Ev} : ∀ {K : List Ev}, p ∉ K → K.flatMap (plus (some p) x) = K
  | [], _ => rfl
  | y :: K, h => by
    have hy : ¬ some y = some p := fun e => h (by rw [Option.some.inj e]; simp)
    rw [List.flatMap_cons, plus_other (K := K) (fun hm => h (by simp [hm]))]
    unfold plus
    rw [if_neg hy]
    rfl
theorem plus_at {A : List Ev} (hn : A.Nodup) {j : Nat} {p x : Ev} (h : A[j]? = some p) : A.flatMap (plus (some p) x) = A.take (j + 1) ++ x :: A.drop (j + 1) := by
  obtain ⟨h1, h2⟩ := nodup_at hn h
  have h3 : A.flatMap (plus (some p) x) = (A.take j ++ p :: A.drop (j + 1)).flatMap (plus (some p) x) := congrArg (List.flatMap _) (cut_at h)
  rw [h3, List.flatMap_append, List.flatMap_cons, plus_other h1, plus_other h2, take_snoc h]
  unfold plus
  rw [if_pos rfl]
  simp
theorem items_push {key : List UInt8} {E : List Ev} {x : Ev} {k : Nat} (hkx : x.kind = 9 ∧ x.key = key) (hu : Unlike (E ++ [x])) (hlate : ∀ e ∈ E, laterE x e = true) (hx : ∀ e ∈ E, ¬ (e.rr = x.r ∧ e.rn = x.n)) (hlive : ∀ b ∈ E, coversE b x = false)
    (hP : (k = 0 ∧ noRef x = true) ∨ ∃ j p, k = j + 1 ∧ (itemsE key E)[j]? = some p ∧ x.rr = p.r ∧ x.rn = p.n ∧ noRef x = false) :
    itemsE key (E ++ [x]) = (itemsE key E).take k ++ x :: (itemsE key E).drop k := by
  have huE : Unlike E := hu.sublist (List.sublist_append_left _ _)
  have hLx : isLive (E ++ [x]) x = true := by
    rw [live_snoc, ends_push hkx.1]
    unfold isLive addsE
    rw [hkx.1]
    have : E.any (fun b => endsE b x) = false := by
      rw [List.any_eq_false]
      intro b hb
      unfold endsE
      rw [hlive b hb]
      simp
    rw [this]
    simp
  have hLe : ∀ e, isLive (E ++ [x]) e = isLive E e := fun e => by
    rw [live_snoc, ends_push hkx.1]
    simp
  have hfil : ∀ P : Option Ev, (∀ p, P = some p → isLive E p = true) → ((orderE key E).flatMap (plus P x)).filter (isLive (E ++ [x])) = (itemsE key E).flatMap (plus P x) := fun P hPl => by
    rw [List.filter_flatMap]
    refine flat_if fun y _ => ?_
    unfold plus
    by_cases h : some y = P
    · have hy := hPl y h.symm
      rw [if_pos h, List.filter_cons, List.filter_cons, hLe, hy, hLx]
      simp
    · rw [if_neg h, List.filter_cons, hLe]
      cases isLive E y <;> simp
  have e0 : itemsE key (E ++ [x]) = (orderE key (E ++ [x])).filter (isLive (E ++ [x])) := rfl
  rw [e0, order_push hkx hu hlate hx, List.filter_append]
  rcases hP with ⟨rfl, hr⟩ | ⟨j, p, rfl, hp, hr1, hr2, hr⟩
  · have hpar : parE (nodesE key (E ++ [x])) x = none := by unfold parE; rw [hr]; rfl
    rw [hpar, if_pos rfl, hfil none (fun p e => by cases e), plus_none, List.filter_cons, hLx]
    simp
  · have hpm := mem_items.1 (List.mem_of_getElem? hp)
    have hpar : parE (nodesE key (E ++ [x])) x = some p := parE_some (unlike_nodes hu) hr (mem_nodes.2 ⟨by simp [hpm.1.1], hpm.1.2⟩) (by
      unfold canPar
      rw [hlate p hpm.1.1, hr1, hr2]
      simp)
    rw [hpar, if_neg (by simp), hfil (some p) (fun q e => by rw [← Option.some.inj e]; exact hpm.2), plus_at (items_nodup huE) hp]
    rfl
end Go.Proofs.Ytagjgamigldjnaa
