/-
  Stable sorting, plainly: pieces of a list that change places, and what stays; merging in place; and that there is just one stable order.
-/
import Derived.Test.YtmlfekbmbnfkjabGreatDoorProg
import Derived.Sort.WalkA
import Derived.Sort.LotA
import Derived.WalkKit
import Derived.Laws.StructEq
import Derived.Laws.Rows
import Derived.Laws.ResultCell
namespace Go.Proofs.YtmlfekbmbnfkjabGreatDoor
set_option maxRecDepth 100000
open Go.Sort

section
variable {α : Type} {lt : α → α → Bool}

theorem swo_lt_le {x y z : α} (h : SWO lt) (h1 : lt x y = true) (h2 : lt z y = false) : lt x z = true := by
  cases hh : lt x z
  · rw [h.ntrans x z y hh h2] at h1; cases h1
  · rfl
theorem swo_le_lt {x y z : α} (h : SWO lt) (h1 : lt y x = false) (h2 : lt y z = true) : lt x z = true := by
  cases hh : lt x z
  · rw [h.ntrans y x z h1 hh] at h2; cases h2
  · rfl
theorem swo_asym {x y : α} (h : SWO lt) (h1 : lt x y = true) : lt y x = false := by
  cases hh : lt y x
  · rfl
  · have := h.trans x y x h1 hh
    rw [h.irrefl x] at this; cases this

/-- Neither is less. -/
def eqv (lt : α → α → Bool) (x y : α) : Bool := !lt x y && !lt y x
theorem eqv_iff {x y : α} : eqv lt x y = true ↔ lt x y = false ∧ lt y x = false := by
  unfold eqv
  cases lt x y <;> cases lt y x <;> simp
theorem eqv_self (h : SWO lt) (x : α) : eqv lt x x = true := eqv_iff.2 ⟨h.irrefl x, h.irrefl x⟩

variable [Inhabited α]
/-- A piece. -/
def seg (d : Array α) (a b : Nat) : List α := (List.range' a (b - a)).map fun i => d[i]!
theorem seg_length (d : Array α) (a b : Nat) : (seg d a b).length = b - a := by simp [seg]
theorem seg_get (d : Array α) (a b t : Nat) (h : t < b - a) : (seg d a b)[t]? = some d[a + t]! := by
  simp [seg, h]
theorem seg_append (d : Array α) {a m b : Nat} (h1 : a ≤ m) (h2 : m ≤ b) : seg d a m ++ seg d m b = seg d a b := by
  unfold seg
  rw [← List.map_append]
  congr 1
  have := List.range'_append (s := a) (m := m - a) (n := b - m) (step := 1)
  rw [show a + 1 * (m - a) = m by omega, show m - a + (b - m) = b - a by omega] at this
  exact this
theorem seg_eq {d d' : Array α} {a b a' b' : Nat} (hl : b' - a' = b - a) (h : ∀ t, t < b - a → d'[a' + t]! = d[a + t]!) : seg d' a' b' = seg d a b := by
  apply List.ext_getElem?
  intro t
  by_cases ht : t < b - a
  · rw [seg_get _ _ _ _ (by omega), seg_get _ _ _ _ ht, h t ht]
  · rw [List.getElem?_eq_none (by rw [seg_length]; omega), List.getElem?_eq_none (by rw [seg_length]; omega)]
theorem seg_mem {d : Array α} {a b : Nat} {x : α} : x ∈ seg d a b ↔ ∃ t, a ≤ t ∧ t < b ∧ d[t]! = x := by
  unfold seg
  rw [List.mem_map]
  constructor
  · rintro ⟨t, ht, rfl⟩
    have := List.mem_range'_1.1 ht
    exact ⟨t, this.1, by omega, rfl⟩
  · rintro ⟨t, h1, h2, rfl⟩
    exact ⟨t, List.mem_range'_1.2 ⟨h1, by omega⟩, rfl⟩
theorem seg_all (d : Array α) : seg d 0 d.size = d.toList := by
  apply List.ext_getElem?
  intro t
  by_cases ht : t < d.size
  · rw [seg_get _ _ _ _ (by omega), Nat.zero_add, Array.getElem?_toList, Array.getElem?_eq_getElem ht, getElem!_pos d t ht]
  · rw [List.getElem?_eq_none (by rw [seg_length]; omega), List.getElem?_eq_none (by rw [Array.length_toList]; omega)]

/-- What changes places stays in order where neither is less. -/
structure Stab (lt : α → α → Bool) (d d' : Array α) (a b : Nat) : Prop where
  size : d'.size = d.size
  out : ∀ t, (t < a ∨ b ≤ t) → d'[t]! = d[t]!
  same : ∀ x, (seg d' a b).filter (eqv lt x) = (seg d a b).filter (eqv lt x)
theorem Stab.refl (d : Array α) (a b : Nat) : Stab lt d d a b := ⟨rfl, fun _ _ => rfl, fun _ => rfl⟩
theorem Stab.trans {d d' d'' : Array α} {a b : Nat} (h : Stab lt d d' a b) (k : Stab lt d' d'' a b) : Stab lt d d'' a b :=
  ⟨k.size.trans h.size, fun t ht => (k.out t ht).trans (h.out t ht), fun x => (k.same x).trans (h.same x)⟩
theorem Stab.widen {d d' : Array α} {a b a' b' : Nat} (h : Stab lt d d' a b) (h1 : a' ≤ a) (h0 : a ≤ b) (h2 : b ≤ b') : Stab lt d d' a' b' := by
  refine ⟨h.size, fun t ht => h.out t (by omega), fun x => ?_⟩
  rw [← seg_append d' h1 (Nat.le_trans h0 h2), ← seg_append d' h0 h2, ← seg_append d h1 (Nat.le_trans h0 h2), ← seg_append d h0 h2]
  simp only [List.filter_append]
  rw [h.same x, seg_eq (d := d) (d' := d') (a := a') (b := a) rfl (fun t ht => h.out _ (by omega)), seg_eq (d := d) (d' := d') (a := b) (b := b') rfl (fun t ht => h.out _ (by omega))]
theorem Stab.mem (hS : SWO lt) {d d' : Array α} {a b : Nat} (h : Stab lt d d' a b) {t : Nat} (h1 : a ≤ t) (h2 : t < b) : ∃ s, a ≤ s ∧ s < b ∧ d'[t]! = d[s]! := by
  have hm : d'[t]! ∈ (seg d' a b).filter (eqv lt d'[t]!) := List.mem_filter.2 ⟨seg_mem.2 ⟨t, h1, h2, rfl⟩, eqv_self hS _⟩
  rw [h.same] at hm
  obtain ⟨s, h3, h4, h5⟩ := seg_mem.1 (List.mem_filter.1 hm).1
  exact ⟨s, h3, h4, h5.symm⟩

/-- Two pieces side by side change places. -/
structure Rot (d d' : Array α) (a m b : Nat) : Prop where
  size : d'.size = d.size
  out : ∀ t, (t < a ∨ b ≤ t) → d'[t]! = d[t]!
  lo : ∀ t, a ≤ t → t < a + (b - m) → d'[t]! = d[t + (m - a)]!
  hi : ∀ t, a + (b - m) ≤ t → t < b → d'[t]! = d[t - (b - m)]!
theorem Rot.triv (d : Array α) {a m b : Nat} (h1 : a ≤ m) (h2 : m ≤ b) (h : a = m ∨ m = b) : Rot d d a m b := by
  refine ⟨rfl, fun _ _ => rfl, fun t h3 h4 => ?_, fun t h3 h4 => ?_⟩
  · rw [show t + (m - a) = t by omega]
  · rw [show t - (b - m) = t by omega]
theorem Rot.stab (hS : SWO lt) {d d' : Array α} {a m b : Nat} (h : Rot d d' a m b) (h1 : a ≤ m) (h2 : m ≤ b) (hlt : ∀ i j, a ≤ i → i < m → m ≤ j → j < b → lt d[j]! d[i]! = true) : Stab lt d d' a b := by
  refine ⟨h.size, h.out, fun x => ?_⟩
  have e1 : seg d' a (a + (b - m)) = seg d m b := seg_eq (by omega) (fun t ht => by rw [h.lo (a + t) (by omega) (by omega), show a + t + (m - a) = m + t by omega])
  have e2 : seg d' (a + (b - m)) b = seg d a m := seg_eq (by omega) (fun t ht => by rw [h.hi (a + (b - m) + t) (by omega) (by omega), show a + (b - m) + t - (b - m) = a + t by omega])
  rw [← seg_append d' (show a ≤ a + (b - m) by omega) (show a + (b - m) ≤ b by omega), e1, e2, ← seg_append d h1 h2, List.filter_append, List.filter_append]
  by_cases hx : ∃ y ∈ seg d a m, eqv lt x y = true
  · obtain ⟨y, hy, hxy⟩ := hx
    have : (seg d m b).filter (eqv lt x) = [] := by
      rw [List.filter_eq_nil_iff]
      intro z hz hxz
      obtain ⟨i, hi1, hi2, rfl⟩ := seg_mem.1 hy
      obtain ⟨j, hj1, hj2, rfl⟩ := seg_mem.1 hz
      have := hlt i j hi1 hi2 hj1 hj2
      rw [hS.ntrans _ x _ (eqv_iff.1 hxz).2 (eqv_iff.1 hxy).1] at this
      cases this
    rw [this, List.nil_append, List.append_nil]
  · have : (seg d a m).filter (eqv lt x) = [] := by
      rw [List.filter_eq_nil_iff]
      intro z hz hxz
      exact hx ⟨z, hz, hxz⟩
    rw [this, List.nil_append, List.append_nil]

theorem get_swp (d : Array α) (i j t : Nat) (hi : i < d.size) (hj : j < d.size) : (swp d i j)[t]! = if t = j then d[i]! else if t = i then d[j]! else d[t]! := by
  by_cases h1 : t = j
  · subst h1
    rw [if_pos rfl, swp_right d i t hj]
  · rw [if_neg h1]
    by_cases h2 : t = i
    · subst h2
      rw [if_pos rfl, swp_left d t j hi h1]
    · rw [if_neg h2, swp_other d i j t h2 h1]
theorem size_swp' (d : Array α) (i j : Nat) : (swp d i j).size = d.size := by unfold swp; simp

/-- Insertion. -/
theorem rot_swp (d : Array α) (j : Nat) (hj : j + 1 < d.size) : Rot d (swp d (j + 1) j) j (j + 1) (j + 2) := by
  refine ⟨size_swp' _ _ _, fun t ht => ?_, fun t h1 h2 => ?_, fun t h1 h2 => ?_⟩
  · rw [get_swp _ _ _ _ hj (by omega), if_neg (by omega), if_neg (by omega)]
  · rw [get_swp _ _ _ _ hj (by omega), if_pos (by omega), show t + (j + 1 - j) = j + 1 by omega]
  · rw [get_swp _ _ _ _ hj (by omega), if_neg (by omega), if_pos (by omega), show t - (j + 2 - (j + 1)) = j by omega]
theorem insInner_stab (hS : SWO lt) (a : Nat) : ∀ (j : Nat) (d : Array α), a ≤ j → j < d.size → Stab lt d (insInner lt a j d) a (j + 1)
  | 0, d, _, _ => by rw [insInner_stop lt a 0 d (.inl (Nat.zero_le _))]; exact Stab.refl _ _ _
  | j + 1, d, ha, hj => by
    by_cases h : a < j + 1 ∧ lt d[j + 1]! d[j]! = true
    · rw [insInner_go lt a (j + 1) d h.1 (by simpa using h.2), Nat.add_sub_cancel]
      have h1 : Stab lt d (swp d (j + 1) j) j (j + 2) := (rot_swp d j hj).stab hS (by omega) (by omega) (fun i k h1 h2 h3 h4 => by
        rw [show i = j by omega, show k = j + 1 by omega]; exact h.2)
      have h2 := insInner_stab hS a j (swp d (j + 1) j) (by omega) (by rw [size_swp']; omega)
      exact (h1.widen (by omega) (by omega) (by omega)).trans (h2.widen (Nat.le_refl _) (by omega) (by omega))
    · rw [insInner_stop lt a (j + 1) d (by
        by_cases h1 : a < j + 1
        · right
          cases hh : lt d[j + 1]! d[j + 1 - 1]!
          · rfl
          · exact absurd ⟨h1, by simpa using hh⟩ h
        · left; omega)]
      exact Stab.refl _ _ _
theorem insOuter_stab (hS : SWO lt) (a b : Nat) : ∀ (k i : Nat) (d : Array α), b - i ≤ k → a ≤ i → b ≤ d.size → Stab lt d (insOuter lt a b i d) a b
  | 0, i, d, hk, _, _ => by rw [insOuter_stop lt a b i d (by omega)]; exact Stab.refl _ _ _
  | k + 1, i, d, hk, ha, hb => by
    by_cases h : i < b
    · rw [insOuter_go lt a b i d h]
      have h1 := insInner_stab hS a i d ha (by omega)
      exact (h1.widen (Nat.le_refl _) (by omega) (by omega)).trans (insOuter_stab hS a b k (i + 1) _ (by omega) (by omega) (by rw [h1.size]; exact hb))
    · rw [insOuter_stop lt a b i d h]; exact Stab.refl _ _ _
theorem ins_stab (hS : SWO lt) (d : Array α) (a b : Nat) (hab : a ≤ b) (hb : b ≤ d.size) : Stab lt d (insertionSort lt d a b) a b ∧ SortedIn lt a b (insertionSort lt d a b) :=
  ⟨insOuter_stab hS a b _ (a + 1) d (Nat.le_refl _) (by omega) hb, (insertionSort_holds hS d a b hab hb).2⟩

/-- Pieces of one length change places. -/
def swF (f : Nat → α) (a b n t : Nat) : α := if a ≤ t ∧ t < a + n then f (t - a + b) else if b ≤ t ∧ t < b + n then f (t - b + a) else f t
def rotF (f : Nat → α) (a m b t : Nat) : α := if a ≤ t ∧ t < a + (b - m) then f (t + (m - a)) else if a + (b - m) ≤ t ∧ t < b then f (t - (b - m)) else f t
omit [Inhabited α] in
theorem rotF_more (f : Nat → α) (m i j : Nat) (hi : i ≤ m) (hj : 0 < j) (h : j < i) : rotF (swF f (m - i) m j) (m - (i - j)) m (m + j) = rotF f (m - i) m (m + j) := by
  funext t
  unfold rotF swF
  repeat' split
  all_goals first | rfl | (congr 1; omega) | (exfalso; omega)
omit [Inhabited α] in
theorem rotF_less (f : Nat → α) (m i j : Nat) (hi : i ≤ m) (h0 : 0 < i) (h : i < j) : rotF (swF f (m - i) (m + j - i) i) (m - i) m (m + (j - i)) = rotF f (m - i) m (m + j) := by
  funext t
  unfold rotF swF
  repeat' split
  all_goals first | rfl | (congr 1; omega) | (exfalso; omega)
omit [Inhabited α] in
theorem rotF_same (f : Nat → α) (m i : Nat) (hi : i ≤ m) : swF f (m - i) m i = rotF f (m - i) m (m + i) := by
  funext t
  unfold rotF swF
  repeat' split
  all_goals first | rfl | (congr 1; omega) | (exfalso; omega)
theorem rot_of {d d' : Array α} {a m b : Nat} (hs : d'.size = d.size) (h1 : a ≤ m) (h2 : m ≤ b) (h : ∀ t, d'[t]! = rotF (fun t => d[t]!) a m b t) : Rot d d' a m b := by
  refine ⟨hs, fun t ht => ?_, fun t h3 h4 => ?_, fun t h3 h4 => ?_⟩
  · rw [h t, rotF, if_neg (by omega), if_neg (by omega)]
  · rw [h t, rotF, if_pos ⟨h3, h4⟩]
  · rw [h t, rotF, if_neg (by omega), if_pos ⟨h3, h4⟩]

/-- THE STEP OF A MERGE IN PLACE. -/
theorem merge_cross (hS : SWO lt) {d d1 : Array α} {a m b s e mid : Nat} (has : a ≤ s) (hsm : s ≤ m) (hme : m ≤ e) (heb : e ≤ b) (hmid : mid = s + (e - m))
    (o1 : SortedIn lt a m d) (o2 : SortedIn lt m b d) (h1 : s = a ∨ e = b ∨ lt d[e]! d[s - 1]! = false) (h2 : s = m ∨ e = m ∨ lt d[e - 1]! d[s]! = true) (hR : Rot d d1 s m e) :
    (∀ i j, s ≤ i → i < m → m ≤ j → j < e → lt d[j]! d[i]! = true) ∧ ∀ i j, a ≤ i → i < mid → mid ≤ j → j < b → lt d1[j]! d1[i]! = false := by
  have c3 : ∀ i j, s ≤ i → i < m → m ≤ j → j < e → lt d[j]! d[i]! = true := fun i j h3 h4 h5 h6 => by
    have k2 : lt d[e - 1]! d[s]! = true := by rcases h2 with h2 | h2 | h2 <;> first | (exfalso; omega) | exact h2
    have k1 : lt d[i]! d[s]! = false := by
      by_cases hh : s = i
      · rw [hh]; exact hS.irrefl _
      · exact o1 s i has (by omega) h4
    have k3 : lt d[e - 1]! d[j]! = false := by
      by_cases hh : j = e - 1
      · rw [← hh]; exact hS.irrefl _
      · exact o2 j (e - 1) h5 (by omega) (by omega)
    exact swo_lt_le hS (swo_le_lt hS k3 k2) k1
  refine ⟨c3, fun i j hi1 hi2 hj1 hj2 => ?_⟩
  have ei : (i < s ∧ d1[i]! = d[i]!) ∨ (s ≤ i ∧ d1[i]! = d[i + (m - s)]!) := by
    by_cases hh : i < s
    · exact .inl ⟨hh, hR.out i (.inl hh)⟩
    · exact .inr ⟨by omega, hR.lo i (by omega) (by omega)⟩
  have ej : (j < e ∧ d1[j]! = d[j - (e - m)]!) ∨ (e ≤ j ∧ d1[j]! = d[j]!) := by
    by_cases hh : j < e
    · exact .inl ⟨hh, hR.hi j (by omega) hh⟩
    · exact .inr ⟨by omega, hR.out j (.inr (by omega))⟩
  rcases ei with ⟨q1, ei⟩ | ⟨q1, ei⟩ <;> rcases ej with ⟨q2, ej⟩ | ⟨q2, ej⟩ <;> rw [ei, ej]
  · exact o1 _ _ hi1 (by omega) (by omega)
  · have k1 : lt d[e]! d[s - 1]! = false := by rcases h1 with h1 | h1 | h1 <;> first | (exfalso; omega) | exact h1
    have k2 : lt d[s - 1]! d[i]! = false := by
      by_cases hh : i = s - 1
      · rw [← hh]; exact hS.irrefl _
      · exact o1 i (s - 1) hi1 (by omega) (by omega)
    have k3 : lt d[j]! d[e]! = false := by
      by_cases hh : e = j
      · rw [hh]; exact hS.irrefl _
      · exact o2 e j hme (by omega) hj2
    exact hS.ntrans _ _ _ k3 (hS.ntrans _ _ _ k1 k2)
  · exact swo_asym hS (c3 (j - (e - m)) (i + (m - s)) (by omega) (by omega) (by omega) (by omega))
  · exact o2 _ _ (by omega) (by omega) hj2
theorem merge_step (hS : SWO lt) {d d1 d2 d3 : Array α} {a m b s e mid : Nat} (has : a ≤ s) (hsm : s ≤ m) (hme : m ≤ e) (heb : e ≤ b) (hmid : mid = s + (e - m))
    (o1 : SortedIn lt a m d) (o2 : SortedIn lt m b d) (h1 : s = a ∨ e = b ∨ lt d[e]! d[s - 1]! = false) (h2 : s = m ∨ e = m ∨ lt d[e - 1]! d[s]! = true) (hR : Rot d d1 s m e)
    (m1 : Stab lt d1 d2 a mid) (s1 : SortedIn lt a mid d2) (m2 : Stab lt d2 d3 mid b) (s2 : SortedIn lt mid b d3) : Stab lt d d3 a b ∧ SortedIn lt a b d3 := by
  obtain ⟨c3, hc⟩ := merge_cross hS has hsm hme heb hmid o1 o2 h1 h2 hR
  refine ⟨(((hR.stab hS hsm hme c3).widen has (by omega) heb).trans (m1.widen (Nat.le_refl _) (by omega) (by omega))).trans (m2.widen (by omega) (by omega) (Nat.le_refl _)), fun i j hi hij hj => ?_⟩
  by_cases q1 : j < mid
  · rw [m2.out i (.inl (by omega)), m2.out j (.inl q1)]
    exact s1 i j hi hij q1
  · by_cases q2 : mid ≤ i
    · exact s2 i j q2 hij hj
    · rw [m2.out i (.inl (by omega))]
      obtain ⟨x, x1, x2, ex⟩ := m1.mem hS hi (show i < mid by omega)
      obtain ⟨y, y1, y2, ey⟩ := m2.mem hS (show mid ≤ j by omega) hj
      rw [ex, ey, m1.out y (.inr y1)]
      exact hc x y x1 x2 y1 y2
theorem merge_parts {d d1 : Array α} {a m b s e mid : Nat} (has : a ≤ s) (hsm : s ≤ m) (hme : m ≤ e) (heb : e ≤ b) (hmid : mid = s + (e - m))
    (o1 : SortedIn lt a m d) (o2 : SortedIn lt m b d) (hR : Rot d d1 s m e) : SortedIn lt a s d1 ∧ SortedIn lt s mid d1 ∧ SortedIn lt mid e d1 ∧ SortedIn lt e b d1 := by
  refine ⟨fun i j h1 h2 h3 => ?_, fun i j h1 h2 h3 => ?_, fun i j h1 h2 h3 => ?_, fun i j h1 h2 h3 => ?_⟩
  · rw [hR.out i (.inl (by omega)), hR.out j (.inl h3)]; exact o1 i j h1 h2 (by omega)
  · rw [hR.lo i h1 (by omega), hR.lo j (by omega) (by omega)]; exact o2 _ _ (by omega) (by omega) (by omega)
  · rw [hR.hi i (by omega) (by omega), hR.hi j (by omega) h3]; exact o1 _ _ (by omega) (by omega) (by omega)
  · rw [hR.out i (.inr h1), hR.out j (.inr (by omega))]; exact o2 i j (by omega) h2 h3
theorem SortedIn.one (d : Array α) {a b : Nat} (h : b ≤ a + 1) : SortedIn lt a b d := fun i j h1 h2 h3 => by omega
theorem SortedIn.kept {d d' : Array α} {a b : Nat} (h : SortedIn lt a b d) (hk : ∀ t, a ≤ t → t < b → d'[t]! = d[t]!) : SortedIn lt a b d' := fun i j h1 h2 h3 => by
  rw [hk i h1 (by omega), hk j (by omega) h3]; exact h i j h1 h2 h3
/-- One ahead of many. -/
theorem merge_first (hS : SWO lt) {d d1 : Array α} {a b i : Nat} (hi : a + 1 ≤ i) (hib : i ≤ b) (o2 : SortedIn lt (a + 1) b d) (h1 : i = a + 1 ∨ lt d[i - 1]! d[a]! = true) (h2 : i = b ∨ lt d[i]! d[a]! = false) (hR : Rot d d1 a (a + 1) i) :
    Stab lt d d1 a b ∧ SortedIn lt a b d1 := by
  refine merge_step hS (d1 := d1) (d2 := d1) (mid := i - 1) (s := a) (m := a + 1) (e := i) (Nat.le_refl _) (by omega) hi hib (by omega) (SortedIn.one _ (Nat.le_refl _)) o2 (.inl rfl) (h1.elim (fun h => .inr (.inl h)) (fun h => .inr (.inr h))) hR (Stab.refl _ _ _) ?_ (Stab.refl _ _ _) ?_
  · intro x y h3 h4 h5
    rw [hR.lo x h3 (by omega), hR.lo y (by omega) (by omega)]
    exact o2 _ _ (by omega) (by omega) (by omega)
  · intro x y h3 h4 h5
    rw [hR.out y (.inr (by omega))]
    by_cases hx : x = i - 1
    · rw [hx, hR.hi (i - 1) (by omega) (by omega), show i - 1 - (i - (a + 1)) = a by omega]
      have k2 : lt d[i]! d[a]! = false := h2.resolve_left (by omega)
      by_cases hy : y = i
      · rw [hy]; exact k2
      · exact hS.ntrans _ _ _ (o2 i y hi (by omega) h5) k2
    · rw [hR.out x (.inr (by omega))]
      exact o2 x y (by omega) h4 h5
/-- One behind many. -/
theorem merge_last (hS : SWO lt) {d d1 : Array α} {a m i : Nat} (hi : a ≤ i) (him : i ≤ m) (o1 : SortedIn lt a m d) (h1 : i = a ∨ lt d[m]! d[i - 1]! = false) (h2 : i = m ∨ lt d[m]! d[i]! = true) (hR : Rot d d1 i m (m + 1)) :
    Stab lt d d1 a (m + 1) ∧ SortedIn lt a (m + 1) d1 := by
  refine merge_step hS (d1 := d1) (d2 := d1) (mid := i + 1) (s := i) (m := m) (e := m + 1) hi him (by omega) (Nat.le_refl _) (by omega) o1 (SortedIn.one _ (Nat.le_refl _)) (.inr (.inl rfl)) (h2.elim .inl (fun h => .inr (.inr (by simpa using h)))) hR (Stab.refl _ _ _) ?_ (Stab.refl _ _ _) ?_
  · intro x y h3 h4 h5
    rw [hR.out x (.inl (by omega))]
    by_cases hy : y = i
    · rw [hy, hR.lo i (Nat.le_refl _) (by omega), show i + (m - i) = m by omega]
      have k1 : lt d[m]! d[i - 1]! = false := h1.resolve_left (by omega)
      by_cases hx : x = i - 1
      · rw [hx]; exact k1
      · exact hS.ntrans _ _ _ k1 (o1 x (i - 1) h3 (by omega) (by omega))
    · rw [hR.out y (.inl (by omega))]
      exact o1 x y h3 h4 (by omega)
  · intro x y h3 h4 h5
    rw [hR.hi x (by omega) (by omega), hR.hi y (by omega) h5]
    exact o1 _ _ (by omega) (by omega) (by omega)
/-- The two walks of one element by exchanges. -/
theorem rot_up {d d1 : Array α} {a k : Nat} (hk : a ≤ k) (hs : k + 1 < d.size) (h : Rot d d1 a (a + 1) (k + 1)) : Rot d (swp d1 k (k + 1)) a (a + 1) (k + 2) := by
  have hs1 := h.size
  have g := fun t => get_swp d1 k (k + 1) t (by omega) (by omega)
  refine ⟨by rw [size_swp', hs1], fun t ht => ?_, fun t h1 h2 => ?_, fun t h1 h2 => ?_⟩
  · rw [g, if_neg (by omega), if_neg (by omega), h.out t (by omega)]
  · rw [g, if_neg (by omega)]
    by_cases ht : t = k
    · rw [if_pos ht, h.out (k + 1) (by omega), show t + (a + 1 - a) = k + 1 by omega]
    · rw [if_neg ht, h.lo t h1 (by omega)]
  · rw [g, if_pos (by omega), h.hi k (by omega) (by omega)]
    congr 1; omega
theorem rot_down {d d1 : Array α} {m k : Nat} (hk : k + 1 ≤ m) (hs : m < d.size) (h : Rot d d1 (k + 1) m (m + 1)) : Rot d (swp d1 (k + 1) k) k m (m + 1) := by
  have hs1 := h.size
  have g := fun t => get_swp d1 (k + 1) k t (by omega) (by omega)
  refine ⟨by rw [size_swp', hs1], fun t ht => ?_, fun t h1 h2 => ?_, fun t h1 h2 => ?_⟩
  · rw [g, if_neg (by omega), if_neg (by omega), h.out t (by omega)]
  · rw [g, if_pos (by omega), h.lo (k + 1) (by omega) (by omega)]
    congr 1; omega
  · rw [g, if_neg (by omega)]
    by_cases ht : t = k + 1
    · rw [if_pos ht, h.out k (by omega)]
      congr 1; omega
    · rw [if_neg ht, h.hi t (by omega) h2]

omit [Inhabited α] in
/-- THERE IS JUST ONE. -/
theorem stable_one (hS : SWO lt) : ∀ {S T : List α}, S.Pairwise (fun x y => lt y x = false) → T.Pairwise (fun x y => lt y x = false) → (∀ x, S.filter (eqv lt x) = T.filter (eqv lt x)) → S = T
  | [], [], _, _, _ => rfl
  | [], b :: T, _, _, h => by
    have := h b
    rw [List.filter_cons_of_pos (eqv_self hS b)] at this
    cases this
  | a :: S, [], _, _, h => by
    have := h a
    rw [List.filter_cons_of_pos (eqv_self hS a)] at this
    cases this
  | a :: S, b :: T, hs, ht, h => by
    obtain ⟨s1, s2⟩ := List.pairwise_cons.1 hs
    obtain ⟨t1, t2⟩ := List.pairwise_cons.1 ht
    have ab : lt a b = false := by
      have hm : a ∈ (b :: T).filter (eqv lt a) := by rw [← h a, List.filter_cons_of_pos (eqv_self hS a)]; exact List.mem_cons_self
      rcases List.mem_cons.1 (List.mem_filter.1 hm).1 with e | e
      · rw [e]; exact hS.irrefl _
      · exact t1 a e
    have ba : lt b a = false := by
      have hm : b ∈ (a :: S).filter (eqv lt b) := by rw [h b, List.filter_cons_of_pos (eqv_self hS b)]; exact List.mem_cons_self
      rcases List.mem_cons.1 (List.mem_filter.1 hm).1 with e | e
      · rw [e]; exact hS.irrefl _
      · exact s1 b e
    have hab : a = b := by
      have := h a
      rw [List.filter_cons_of_pos (eqv_self hS a), List.filter_cons_of_pos (eqv_iff.2 ⟨ab, ba⟩)] at this
      exact (List.cons.inj this).1
    subst hab
    have hr : ∀ x, S.filter (eqv lt x) = T.filter (eqv lt x) := fun x => by
      have := h x
      by_cases hx : eqv lt x a = true
      · rw [List.filter_cons_of_pos hx, List.filter_cons_of_pos hx] at this
        exact (List.cons.inj this).2
      · rw [List.filter_cons_of_neg hx, List.filter_cons_of_neg hx] at this
        exact this
    rw [stable_one hS s2 t2 hr]
end

end Go.Proofs.YtmlfekbmbnfkjabGreatDoor

/-
  Events as plain data.
-/
namespace Go.Proofs.YtmlfekbmbnfkjabGreatDoor
set_option maxRecDepth 100000
open Go.RowKit

/-- An event. -/
structure Ev where
  r : Int
  n : Int
  t : Int
  deps : List Int
  kind : Int
  key : List UInt8
  field : List UInt8
  value : List UInt8
  num : Int
  rr : Int
  rn : Int
def addsE (k : Int) : Bool := decide (k = 1 ∨ k = 2 ∨ k = 3 ∨ k = 5 ∨ k = 7 ∨ k = 9)
end Go.Proofs.YtmlfekbmbnfkjabGreatDoor

/-
  Vectors as lists of sixteen numbers: how they lie in memory; an element of one read; two of them compared.
-/
namespace Go.Proofs.YtmlfekbmbnfkjabGreatDoor
set_option maxRecDepth 100000
open Go.RowKit

/-- The cells of a vector. -/
def vals (l : List Int) : Array Value := (l.map (Value.int .i64)).toArray
theorem vals_size (l : List Int) : (vals l).size = l.length := by simp [vals]
theorem vals_get (l : List Int) (k : Nat) (h : k < l.length) : (vals l)[k]? = some (.int .i64 (l.getD k 0)) := by
  simp [vals, List.getD, h]
theorem vals_set (l : List Int) (k : Nat) (x : Int) : (vals l).setIfInBounds k (.int .i64 x) = vals (l.set k x) := by
  simp [vals, List.map_set]
theorem vals_one (l : List Int) : (vals l).all (·.oneCell') = true := by
  simp [vals, Value.oneCell']

/-- A vector lies in a block. -/
def Lies (w : World) (g : Nat) (l : List Int) : Prop := w.heap[g]? = some (.cells (vals l) 41 (0, 0))
theorem Lies.below {B g : Nat} {w w' : World} {l : List Int} (h : Lies w g l) (hb : Below B w w') (hg : g < B) : Lies w' g l := by
  rw [Lies, hb.block g hg]; exact h
theorem Lies.lt {w : World} {g : Nat} {l : List Int} (h : Lies w g l) : g < w.heap.size := by
  rw [Lies] at h
  exact (Array.getElem?_eq_some_iff.1 h).1
theorem Lies.cell {w : World} {g k : Nat} {l : List Int} (h : Lies w g l) (hk : k < l.length) : w.cell? ⟨g, k, none⟩ = some (.int .i64 (l.getD k 0)) := by
  rw [cell_of_row w g k _ _ _ h, vals_get l k hk]
theorem Lies.frozen {w : World} {g k : Nat} {l : List Int} (h : Lies w g l) : w.frozen? ⟨g, k, none⟩ = false := frozen_of_row w g k _ _ h
theorem Lies.set {w : World} {g k : Nat} {l : List Int} (h : Lies w g l) (x : Int) : Lies (w.setCell ⟨g, k, none⟩ (.int .i64 x)) g (l.set k x) := by
  rw [Lies, heap_setCell_same w g k _ _ _ h, vals_set]
theorem Lies.other {w : World} {g : Nat} {ad : Addr} {l : List Int} (h : Lies w g l) (v : Value) (hg : g ≠ ad.block) : Lies (w.setCell ad v) g l := by
  rw [Lies, heap_setCell_other w ad g v hg]; exact h
theorem Lies.alloc {w : World} {g : Nat} {l : List Int} (h : Lies w g l) (o : Obj) : Lies (w.alloc o) g l := by
  rw [Lies, Below.heap_alloc w o g h.lt]; exact h
theorem Lies.drew {w : World} {g : Nat} {l : List Int} (h : Lies w g l) : Lies w.drew g l := h
theorem lies_new (w : World) (l : List Int) : Lies (w.alloc (.cells (vals l) 41)) w.heap.size l := heap_alloc_new w _

theorem size16 (l : List Int) (h : l.length = 16) : (Tryz.prog.info? 41).map (·.size) = some (vals l).size := by
  rw [vals_size, h]
  kernel_rfl

/-- A whole vector is read. -/
theorem load_vec {ops : Array Oper} {rest : List Oper} {o : Oper} {a : Act} {w : World} {Q : Exit → Act → World → Prop} {x : Operand} {g : Nat} {l : List Int} (hgd : o.guard = none) (ho : o.op = .load 41 x)
    (hx : a.eval x = .pointer (some ⟨g, 0, none⟩)) (hg : Lies w g l) (hl : l.length = 16)
    (h : wpList Tryz.prog ops Q rest (a.put o.dst (.agg (vals l))) w) : wpList Tryz.prog ops Q (o :: rest) a w :=
  wpList_load_row hgd 41 x ho g hx 41 _ (0, 0) _ hg Tryz.underlying41 rfl (size16 l hl) h

/-- A whole vector is laid. -/
theorem store_vec {ops : Array Oper} {rest : List Oper} {o : Oper} {a : Act} {w : World} {Q : Exit → Act → World → Prop} {x y : Operand} {g : Nat} {l m : List Int} (hgd : o.guard = none) (ho : o.op = .store 41 x y)
    (hx : a.eval x = .pointer (some ⟨g, 0, none⟩)) (hy : a.eval y = .agg (vals l)) (hg : Lies w g m) (hl : l.length = 16) (hm : m.length = 16)
    (h : wpList Tryz.prog ops Q rest (a.put o.dst undef) (w.setRow g (vals l))) : wpList Tryz.prog ops Q (o :: rest) a w :=
  wpList_store_row hgd 41 x y ho g (vals l) hx hy 41 _ hg (size16 l hl) (by rw [vals_size, vals_size, hl, hm]) (vals_one l) h
theorem Lies.row {w : World} {g : Nat} {m : List Int} (h : Lies w g m) (l : List Int) : Lies (w.setRow g (vals l)) g l := setRow_heap w g _ _ _ _ h
theorem Lies.rowOther {w : World} {g k : Nat} {m : List Int} (h : Lies w k m) (cs : Array Value) (hk : k ≠ g) : Lies (w.setRow g cs) k m := by
  rw [Lies, setRow_other w g k cs hk]; exact h
theorem below_setRow {B g : Nat} {a w : World} (h : Below B a w) (hg : B ≤ g) (cs : Array Value) : Below B a (w.setRow g cs) :=
  h.trans ⟨rfl, rfl, rfl, by simp [World.setRow], fun k hk => setRow_other _ _ k _ (by omega)⟩

/-- An element of a vector that is no variable. -/
theorem run_index_vec (w : World) (l : List Int) (k : Nat) (hl : l.length = 16) (hk : k < 16) : (Instr.index 41 (.agg (vals l)) (.int .i64 (k : Int))).run Tryz.prog w = .ok (.int .i64 (l.getD k 0)) w := by
  have hu : Tryz.prog.underlying 41 = some (.array 16 3) := by kernel_rfl
  have h3 : Tryz.prog.underlying 3 = some (.int .i64) := by kernel_rfl
  have hs : (sizeOf 3).run Tryz.prog w = .ok 1 w := by kernel_rfl
  have hg := vals_get l k (by omega)
  simp [Instr.index, asIntOf, run_underlying hu, Sem.run_bind, hs, part, isAgg, run_underlying h3, hk, hg]

/-- The address of an element. -/
theorem run_indexAt_vec (w : World) (g k : Nat) (hk : k < 16) : (Instr.indexAt 41 (.pointer (some ⟨g, 0, none⟩)) (.int .i64 (k : Int))).run Tryz.prog w = .ok (.pointer (some ⟨g, k, none⟩)) w := by
  have hu : Tryz.prog.underlying 41 = some (.array 16 3) := by kernel_rfl
  have e : (⟨g, 0, none⟩ : Addr).add k = ⟨g, k, none⟩ := by unfold Addr.add; split <;> simp_all
  simp [Instr.indexAt, asIntOf, run_underlying hu, Sem.run_bind, Instr.sureAddr, hk, e]


theorem run_part_vec (w : World) (l : List Int) (k : Nat) (hl : l.length = 16) (hk : k < 16) : (part 3 (vals l) k).run Tryz.prog w = .ok (.int .i64 (l.getD k 0)) w := by
  have h3 : Tryz.prog.underlying 3 = some (.int .i64) := by kernel_rfl
  have hg := vals_get l k (by omega)
  simp [part, isAgg, run_underlying h3, Sem.run_bind, hg]

theorem run_same_vec (d : Nat) (a b : List Int) (la : a.length = 16) (lb : b.length = 16) (w : World) : ∀ is : List Nat, (∀ i ∈ is, i < 16) →
    Sem.run Tryz.prog (forIn is ((none : Option Bool), ()) fun i __s => do
            let __do_lift ← part 3 (vals a) (i * 1)
            let __do_lift_1 ← part 3 (vals b) (i * 1)
            let __do_lift ← Op.equalIn (d + 1) 3 __do_lift __do_lift_1
            if (!__do_lift) = true then pure (ForInStep.done (some false, ())) else pure (ForInStep.yield (none, ()))) w =
      .ok (if ∀ i ∈ is, a.getD i 0 = b.getD i 0 then ((none : Option Bool), ()) else (some false, ())) w
  | [], _ => by simp
  | i :: is, h => by
    have h3 : Tryz.prog.underlying 3 = some (.int .i64) := by kernel_rfl
    have hi := h i (by simp)
    rw [List.forIn_cons]
    simp only [Sem.run_bind, Nat.mul_one, run_part_vec w a i la hi, run_part_vec w b i lb hi, Result.andThen_ok, run_equalIn_int w d 3 .i64 .i64 _ _ h3]
    by_cases he : a.getD i 0 = b.getD i 0
    · have hb : (a.getD i 0 == b.getD i 0) = true := by simpa using he
      have ih := run_same_vec d a b la lb w is (fun j hj => h j (by simp [hj]))
      simp only [Nat.mul_one] at ih
      simp only [hb, Bool.not_true, Bool.false_eq_true, if_false, Sem.run_pure, Result.andThen_ok, ih]
      simp only [List.forall_mem_cons, he, true_and]
    · have hb : (a.getD i 0 == b.getD i 0) = false := by simpa using he
      simp only [hb, Bool.not_false, if_true, Sem.run_pure, Result.andThen_ok]
      rw [if_neg (fun hall => he (hall i (by simp)))]

theorem vec_ext (a b : List Int) (la : a.length = 16) (lb : b.length = 16) (h : ∀ i, i < 16 → a.getD i 0 = b.getD i 0) : a = b := by
  apply List.ext_getElem (by omega)
  intro i h1 h2
  have := h i (by omega)
  simpa [List.getD, h1, h2] using this

theorem run_equalIn_vec (w : World) (d : Nat) (a b : List Int) (la : a.length = 16) (lb : b.length = 16) :
    (Op.equalIn (d + 2) 41 (.agg (vals a)) (.agg (vals b))).run Tryz.prog w = .ok (decide (a = b)) w := by
  have hu : Tryz.prog.underlying 41 = some (.array 16 3) := by kernel_rfl
  have hs : (sizeOf 3).run Tryz.prog w = .ok 1 w := by kernel_rfl
  rw [Op.equalIn]
  simp only [Sem.run_bind, run_underlying hu, Result.andThen_ok, hs]
  rw [Std.Legacy.Range.forIn_eq_forIn_range', run_same_vec d a b la lb w _ (fun i hi => by simpa [Std.Legacy.Range.size] using hi)]
  by_cases h : a = b
  · subst h
    simp
  · rw [if_neg]
    · simp [h]
    · intro hall
      exact h (vec_ext a b la lb fun i hi => hall i (by simpa [Std.Legacy.Range.size] using hi))

theorem run_eql_vec (w : World) (a b : List Int) (la : a.length = 16) (lb : b.length = 16) : (binOp .eql 41 (.agg (vals a)) (.agg (vals b))).run Tryz.prog w = .ok (.bool (decide (a = b))) w := by
  rw [run_eql_struct, run_equalIn_vec w 9998 a b la lb, Result.andThen_ok]
theorem plain_vec : Tryz.prog.eqGuardType Tryz.prog.depth 41 = false := by kernel_rfl

/-- A vector is the answer. -/
theorem ret_vec {fn : Func} {R : Ending → World → Prop} {a : Act} {w : World} {p : Tmp} {g : Nat} {l : List Int} (h : fn.results = #[.cell p 41]) (hp : a.tmps.getD p undef = .pointer (some ⟨g, 0, none⟩))
    (hd : a.defers = []) (hg : Lies w g l) (hl : l.length = 16) (hR : R (.returned (.agg (vals l))) w) : bodyPost Tryz.prog fn R .ret a w :=
  bodyPost_ret (results_cell_row h a.tmps w g 41 _ (0, 0) _ hp hg Tryz.underlying41 rfl (size16 l hl)) hd hR
/-- A vector and a number are the answer. -/
theorem ret_vec2 {fn : Func} {R : Ending → World → Prop} {a : Act} {w : World} {p u : Tmp} {g : Nat} {l : List Int} {v : Value} (h : fn.results = #[.cell p 41, .tmp u]) (hp : a.tmps.getD p undef = .pointer (some ⟨g, 0, none⟩))
    (hu : a.tmps.getD u undef = v) (hd : a.defers = []) (hg : Lies w g l) (hl : l.length = 16) (hR : R (.returned (.tuple #[.agg (vals l), v])) w) : bodyPost Tryz.prog fn R .ret a w := by
  refine bodyPost_ret ?_ hd hR
  rw [results_cell_tmp h, hp, hu]
  simp only [asAddr, Sem.run_pure, Result.andThen_ok, run_loadVar_row w g 41 41 _ (0, 0) _ hg Tryz.underlying41 rfl (size16 l hl)]

/-! Dots: a replica's number and a number. -/
def dotc (r n : Int) : Array Value := #[.int .i64 r, .int .i64 n]
def LiesD (w : World) (g : Nat) (r n : Int) : Prop := w.heap[g]? = some (.cells (dotc r n) 32 (0, 0))
theorem LiesD.below {B g : Nat} {w w' : World} {r n : Int} (h : LiesD w g r n) (hb : Below B w w') (hg : g < B) : LiesD w' g r n := by
  rw [LiesD, hb.block g hg]; exact h
theorem LiesD.lt {w : World} {g : Nat} {r n : Int} (h : LiesD w g r n) : g < w.heap.size := by
  rw [LiesD] at h
  exact (Array.getElem?_eq_some_iff.1 h).1
theorem LiesD.cell0 {w : World} {g : Nat} {r n : Int} (h : LiesD w g r n) : w.cell? ⟨g, 0, none⟩ = some (.int .i64 r) := cell_of_row w g 0 _ _ _ h
theorem LiesD.cell1 {w : World} {g : Nat} {r n : Int} (h : LiesD w g r n) : w.cell? ⟨g, 1, none⟩ = some (.int .i64 n) := cell_of_row w g 1 _ _ _ h
theorem LiesD.other {w : World} {g : Nat} {ad : Addr} {r n : Int} (h : LiesD w g r n) (v : Value) (hg : g ≠ ad.block) : LiesD (w.setCell ad v) g r n := by
  rw [LiesD, heap_setCell_other w ad g v hg]; exact h
theorem LiesD.alloc {w : World} {g : Nat} {r n : Int} (h : LiesD w g r n) (o : Obj) : LiesD (w.alloc o) g r n := by
  rw [LiesD, Below.heap_alloc w o g h.lt]; exact h
theorem LiesD.drew {w : World} {g : Nat} {r n : Int} (h : LiesD w g r n) : LiesD w.drew g r n := h
theorem liesD_new (w : World) (r n : Int) : LiesD (w.alloc (.cells (dotc r n) 32)) w.heap.size r n := heap_alloc_new w _
theorem LiesD.row {w : World} {g : Nat} {r' n' : Int} (h : LiesD w g r' n') (r n : Int) : LiesD (w.setRow g (dotc r n)) g r n := setRow_heap w g _ _ _ _ h
theorem LiesD.rowOther {w : World} {g k : Nat} {r n : Int} (h : LiesD w k r n) (cs : Array Value) (hk : k ≠ g) : LiesD (w.setRow g cs) k r n := by
  rw [LiesD, setRow_other w g k cs hk]; exact h
theorem sizeD (r n : Int) : (Tryz.prog.info? 32).map (·.size) = some (dotc r n).size := by
  show _ = some 2
  kernel_rfl
theorem run_equalIn_dot (w : World) (d : Nat) (r n r' n' : Int) : (Op.equalIn (d + 2) 32 (.agg (dotc r n)) (.agg (dotc r' n'))).run Tryz.prog w = .ok (decide (r = r' ∧ n = n')) w := by
  have h3 : Tryz.prog.underlying 3 = some (.int .i64) := by kernel_rfl
  have hm : (Tryz.prog.fieldsOf 32).toList.map (fun f => (f.name, f.type, f.offset)) = [("R", 3, 0), ("N", 3, 1)] := by kernel_rfl
  have hf : ∃ f g : Field, (Tryz.prog.fieldsOf 32).toList = [f, g] ∧ f.name ≠ "_" ∧ g.name ≠ "_" ∧ f.type = 3 ∧ g.type = 3 ∧ f.offset = 0 ∧ g.offset = 1 := by
    obtain ⟨f, fs, h, hf, hfs⟩ := List.map_eq_cons_iff.1 hm
    obtain ⟨g, gs, h', hg, hgs⟩ := List.map_eq_cons_iff.1 hfs
    obtain rfl := List.map_eq_nil_iff.1 hgs
    simp only [Prod.mk.injEq] at hf hg
    exact ⟨f, g, by rw [h, h'], by rw [hf.1]; decide, by rw [hg.1]; decide, hf.2.1, hg.2.1, hf.2.2, hg.2.2⟩
  obtain ⟨f, g, h, hf1, hg1, hf2, hg2, hf3, hg3⟩ := hf
  rw [run_equalIn_struct w (d + 1) 32 _ _ (by kernel_rfl) (by kernel_rfl), h]
  have p0 : ∀ r n : Int, (part 3 (dotc r n) 0).run Tryz.prog w = .ok (.int .i64 r) w := fun r n => by simp [part, isAgg, run_underlying h3, Sem.run_bind, dotc]
  have p1 : ∀ r n : Int, (part 3 (dotc r n) 1).run Tryz.prog w = .ok (.int .i64 n) w := fun r n => by simp [part, isAgg, run_underlying h3, Sem.run_bind, dotc]
  simp only [Op.eqFields, ne_eq, hf1, hg1, not_false_eq_true, if_true, hf2, hg2, hf3, hg3, Sem.run_bind, p0, Result.andThen_ok, run_equalIn_int w d 3 .i64 .i64 _ _ h3]
  have he := fun x y : Int => run_equalIn_int (P := Tryz.prog) w d 3 .i64 .i64 x y h3
  by_cases hr : r = r' <;> by_cases hn : n = n' <;> simp [hr, hn, p1, he]
theorem plain_dot : Tryz.prog.eqGuardType Tryz.prog.depth 32 = false := by kernel_rfl
end Go.Proofs.YtmlfekbmbnfkjabGreatDoor

/-
  The vector of sixteen zeros.
-/
namespace Go.Proofs.YtmlfekbmbnfkjabGreatDoor
set_option maxRecDepth 100000
open Go.RowKit
def zeros : List Int := List.replicate 16 0
theorem zeros_vals : vals zeros = #[.int .i64 0, .int .i64 0, .int .i64 0, .int .i64 0, .int .i64 0, .int .i64 0, .int .i64 0, .int .i64 0, .int .i64 0, .int .i64 0, .int .i64 0, .int .i64 0, .int .i64 0, .int .i64 0, .int .i64 0, .int .i64 0] := rfl
end Go.Proofs.YtmlfekbmbnfkjabGreatDoor

