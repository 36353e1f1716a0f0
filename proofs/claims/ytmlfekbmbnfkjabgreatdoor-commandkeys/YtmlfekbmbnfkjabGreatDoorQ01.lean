/-
  Stable sorting, plainly: pieces of a list that change places, and what stays; merging in place; and that there is just one stable order.
-/
import Derived.Test.YtmlfekbmbnfkjabGreatDoorProg
import Derived.Sort.WalkA
import Derived.Sort.LotA
namespace Go.Proofs.YtmlfekbmbnfkjabGreatDoor
set_option maxRecDepth 100000
open Go.Sort

section
variable {α : Type} {lt : α → α → Bool}

theorem swo_lt_le {x y z : α} (h : SWO lt) (h1 : lt x y = true) (h2 : lt z y = false) : lt x z = true := by
  cases hh : lt x z
  · rw [h.ntrans x z y hh h2] at h1; cases h1
  · rfl
theorem swo_le_lt {x y z : α} (h : SWO lt) (h1 : lt y x = false) (h2 : lt y z = true) : lt x z = true := by
  cases hh : lt x z
  · rw [h.ntrans y x z h1 hh] at h2; cases h2
  · rfl
theorem swo_asym {x y : α} (h : SWO lt) (h1 : lt x y = true) : lt y x = false := by
  cases hh : lt y x
  · rfl
  · have := h.trans x y x h1 hh
    rw [h.irrefl x] at this; cases this

/-- Neither is less. -/
def eqv (lt : α → α → Bool) (x y : α) : Bool := !lt x y && !lt y x
theorem eqv_iff {x y : α} : eqv lt x y = true ↔ lt x y = false ∧ lt y x = false := by
  unfold eqv
  cases lt x y <;> cases lt y x <;> simp
theorem eqv_self (h : SWO lt) (x : α) : eqv lt x x = true := eqv_iff.2 ⟨h.irrefl x, h.irrefl x⟩

variable [Inhabited α]
/-- A piece. -/
def seg (d : Array α) (a b : Nat) : List α := (List.range' a (b - a)).map fun i => d[i]!
theorem seg_length (d : Array α) (a b : Nat) : (seg d a b).length = b - a := by simp [seg]
theorem seg_get (d : Array α) (a b t : Nat) (h : t < b - a) : (seg d a b)[t]? = some d[a + t]! := by
  simp [seg, h]
theorem seg_append (d : Array α) {a m b : Nat} (h1 : a ≤ m) (h2 : m ≤ b) : seg d a m ++ seg d m b = seg d a b := by
  unfold seg
  rw [← List.map_append]
  congr 1
  have := List.range'_append (s := a) (m := m - a) (n := b - m) (step := 1)
  rw [show a + 1 * (m - a) = m by omega, show m - a + (b - m) = b - a by omega] at this
  exact this
theorem seg_eq {d d' : Array α} {a b a' b' : Nat} (hl : b' - a' = b - a) (h : ∀ t, t < b - a → d'[a' + t]! = d[a + t]!) : seg d' a' b' = seg d a b := by
  apply List.ext_getElem?
  intro t
  by_cases ht : t < b - a
  · rw [seg_get _ _ _ _ (by omega), seg_get _ _ _ _ ht, h t ht]
  · rw [List.getElem?_eq_none (by rw [seg_length]; omega), List.getElem?_eq_none (by rw [seg_length]; omega)]
theorem seg_mem {d : Array α} {a b : Nat} {x : α} : x ∈ seg d a b ↔ ∃ t, a ≤ t ∧ t < b ∧ d[t]! = x := by
  unfold seg
  rw [List.mem_map]
  constructor
  · rintro ⟨t, ht, rfl⟩
    have := List.mem_range'_1.1 ht
    exact ⟨t, this.1, by omega, rfl⟩
  · rintro ⟨t, h1, h2, rfl⟩
    exact ⟨t, List.mem_range'_1.2 ⟨h1, by omega⟩, rfl⟩
theorem seg_all (d : Array α) : seg d 0 d.size = d.toList := by
  apply List.ext_getElem?
  intro t
  by_cases ht : t < d.size
  · rw [seg_get _ _ _ _ (by omega), Nat.zero_add, Array.getElem?_toList, Array.getElem?_eq_getElem ht, getElem!_pos d t ht]
  · rw [List.getElem?_eq_none (by rw [seg_length]; omega), List.getElem?_eq_none (by rw [Array.length_toList]; omega)]

/-- What changes places stays in order where neither is less. -/
structure Stab (lt : α → α → Bool) (d d' : Array α) (a b : Nat) : Prop where
  size : d'.size = d.size
  out : ∀ t, (t < a ∨ b ≤ t) → d'[t]! = d[t]!
  same : ∀ x, (seg d' a b).filter (eqv lt x) = (seg d a b).filter (eqv lt x)
theorem Stab.refl (d : Array α) (a b : Nat) : Stab lt d d a b := ⟨rfl, fun _ _ => rfl, fun _ => rfl⟩
theorem Stab.trans {d d' d'' : Array α} {a b : Nat} (h : Stab lt d d' a b) (k : Stab lt d' d'' a b) : Stab lt d d'' a b :=
  ⟨k.size.trans h.size, fun t ht => (k.out t ht).trans (h.out t ht), fun x => (k.same x).trans (h.same x)⟩
theorem Stab.widen {d d' : Array α} {a b a' b' : Nat} (h : Stab lt d d' a b) (h1 : a' ≤ a) (h0 : a ≤ b) (h2 : b ≤ b') : Stab lt d d' a' b' := by
  refine ⟨h.size, fun t ht => h.out t (by omega), fun x => ?_⟩
  rw [← seg_append d' h1 (Nat.le_trans h0 h2), ← seg_append d' h0 h2, ← seg_append d h1 (Nat.le_trans h0 h2), ← seg_append d h0 h2]
  simp only [List.filter_append]
  rw [h.same x, seg_eq (d := d) (d' := d') (a := a') (b := a) rfl (fun t ht => h.out _ (by omega)), seg_eq (d := d) (d' := d') (a := b) (b := b') rfl (fun t ht => h.out _ (by omega))]
theorem Stab.mem (hS : SWO lt) {d d' : Array α} {a b : Nat} (h : Stab lt d d' a b) {t : Nat} (h1 : a ≤ t) (h2 : t < b) : ∃ s, a ≤ s ∧ s < b ∧ d'[t]! = d[s]! := by
  have hm : d'[t]! ∈ (seg d' a b).filter (eqv lt d'[t]!) := List.mem_filter.2 ⟨seg_mem.2 ⟨t, h1, h2, rfl⟩, eqv_self hS _⟩
  rw [h.same] at hm
  obtain ⟨s, h3, h4, h5⟩ := seg_mem.1 (List.mem_filter.1 hm).1
  exact ⟨s, h3, h4, h5.symm⟩

/-- Two pieces side by side change places. -/
structure Rot (d d' : Array α) (a m b : Nat) : Prop where
  size : d'.size = d.size
  out : ∀ t, (t < a ∨ b ≤ t) → d'[t]! = d[t]!
  lo : ∀ t, a ≤ t → t < a + (b - m) → d'[t]! = d[t + (m - a)]!
  hi : ∀ t, a + (b - m) ≤ t → t < b → d'[t]! = d[t - (b - m)]!
theorem Rot.triv (d : Array α) {a m b : Nat} (h1 : a ≤ m) (h2 : m ≤ b) (h : a = m ∨ m = b) : Rot d d a m b := by
  refine ⟨rfl, fun _ _ => rfl, fun t h3 h4 => ?_, fun t h3 h4 => ?_⟩
  · rw [show t + (m - a) = t by omega]
  · rw [show t - (b - m) = t by omega]
theorem Rot.stab (hS : SWO lt) {d d' : Array α} {a m b : Nat} (h : Rot d d' a m b) (h1 : a ≤ m) (h2 : m ≤ b) (hlt : ∀ i j, a ≤ i → i < m → m ≤ j → j < b → lt d[j]! d[i]! = true) : Stab lt d d' a b := by
  refine ⟨h.size, h.out, fun x => ?_⟩
  have e1 : seg d' a (a + (b - m)) = seg d m b := seg_eq (by omega) (fun t ht => by rw [h.lo (a + t) (by omega) (by omega), show a + t + (m - a) = m + t by omega])
  have e2 : seg d' (a + (b - m)) b = seg d a m := seg_eq (by omega) (fun t ht => by rw [h.hi (a + (b - m) + t) (by omega) (by omega), show a + (b - m) + t - (b - m) = a + t by omega])
  rw [← seg_append d' (show a ≤ a + (b - m) by omega) (show a + (b - m) ≤ b by omega), e1, e2, ← seg_append d h1 h2, List.filter_append, List.filter_append]
  by_cases hx : ∃ y ∈ seg d a m, eqv lt x y = true
  · obtain ⟨y, hy, hxy⟩ := hx
    have : (seg d m b).filter (eqv lt x) = [] := by
      rw [List.filter_eq_nil_iff]
      intro z hz hxz
      obtain ⟨i, hi1, hi2, rfl⟩ := seg_mem.1 hy
      obtain ⟨j, hj1, hj2, rfl⟩ := seg_mem.1 hz
      have := hlt i j hi1 hi2 hj1 hj2
      rw [hS.ntrans _ x _ (eqv_iff.1 hxz).2 (eqv_iff.1 hxy).1] at this
      cases this
    rw [this, List.nil_append, List.append_nil]
  · have : (seg d a m).filter (eqv lt x) = [] := by
      rw [List.filter_eq_nil_iff]
      intro z hz hxz
      exact hx ⟨z, hz, hxz⟩
    rw [this, List.nil_append, List.append_nil]

theorem get_swp (d : Array α) (i j t : Nat) (hi : i < d.size) (hj : j < d.size) : (swp d i j)[t]! = if t = j then d[i]! else if t = i then d[j]! else d[t]! := by
  by_cases h1 : t = j
  · subst h1
    rw [if_pos rfl, swp_right d i t hj]
  · rw [if_neg h1]
    by_cases h2 : t = i
    · subst h2
      rw [if_pos rfl, swp_left d t j hi h1]
    · rw [if_neg h2, swp_other d i j t h2 h1]
theorem size_swp' (d : Array α) (i j : Nat) : (swp d i j).size = d.size := by unfold swp; simp

/-- Insertion. -/
theorem rot_swp (d : Array α) (j : Nat) (hj : j + 1 < d.size) : Rot d (swp d (j + 1) j) j (j + 1) (j + 2) := by
  refine ⟨size_swp' _ _ _, fun t ht => ?_, fun t h1 h2 => ?_, fun t h1 h2 => ?_⟩
  · rw [get_swp _ _ _ _ hj (by omega), if_neg (by omega), if_neg (by omega)]
  · rw [get_swp _ _ _ _ hj (by omega), if_pos (by omega), show t + (j + 1 - j) = j + 1 by omega]
  · rw [get_swp _ _ _ _ hj (by omega), if_neg (by omega), if_pos (by omega), show t - (j + 2 - (j + 1)) = j by omega]
theorem insInner_stab (hS : SWO lt) (a : Nat) : ∀ (j : Nat) (d : Array α), a ≤ j → j < d.size → Stab lt d (insInner lt a j d) a (j + 1)
  | 0, d, _, _ => by rw [insInner_stop lt a 0 d (.inl (Nat.zero_le _))]; exact Stab.refl _ _ _
  | j + 1, d, ha, hj => by
    by_cases h : a < j + 1 ∧ lt d[j + 1]! d[j]! = true
    · rw [insInner_go lt a (j + 1) d h.1 (by simpa using h.2), Nat.add_sub_cancel]
      have h1 : Stab lt d (swp d (j + 1) j) j (j + 2) := (rot_swp d j hj).stab hS (by omega) (by omega) (fun i k h1 h2 h3 h4 => by
        rw [show i = j by omega, show k = j + 1 by omega]; exact h.2)
      have h2 := insInner_stab hS a j (swp d (j + 1) j) (by omega) (by rw [size_swp']; omega)
      exact (h1.widen (by omega) (by omega) (by omega)).trans (h2.widen (Nat.le_refl _) (by omega) (by omega))
    · rw [insInner_stop lt a (j + 1) d (by
        by_cases h1 : a < j + 1
        · right
          cases hh : lt d[j + 1]! d[j + 1 - 1]!
          · rfl
          · exact absurd ⟨h1, by simpa using hh⟩ h
        · left; omega)]
      exact Stab.refl _ _ _
theorem insOuter_stab (hS : SWO lt) (a b : Nat) : ∀ (k i : Nat) (d : Array α), b - i ≤ k → a ≤ i → b ≤ d.size → Stab lt d (insOuter lt a b i d) a b
  | 0, i, d, hk, _, _ => by rw [insOuter_stop lt a b i d (by omega)]; exact Stab.refl _ _ _
  | k + 1, i, d, hk, ha, hb => by
    by_cases h : i < b
    · rw [insOuter_go lt a b i d h]
      have h1 := insInner_stab hS a i d ha (by omega)
      exact (h1.widen (Nat.le_refl _) (by omega) (by omega)).trans (insOuter_stab hS a b k (i + 1) _ (by omega) (by omega) (by rw [h1.size]; exact hb))
    · rw [insOuter_stop lt a b i d h]; exact Stab.refl _ _ _
theorem ins_stab (hS : SWO lt) (d : Array α) (a b : Nat) (hab : a ≤ b) (hb : b ≤ d.size) : Stab lt d (insertionSort lt d a b) a b ∧ SortedIn lt a b (insertionSort lt d a b) :=
  ⟨insOuter_stab hS a b _ (a + 1) d (Nat.le_refl _) (by omega) hb, (insertionSort_holds hS d a b hab hb).2⟩

/-- Pieces of one length change places. -/
def swF (f : Nat → α) (a b n t : Nat) : α := if a ≤ t ∧ t < a + n then f (t - a + b) else if b ≤ t ∧ t < b + n then f (t - b + a) else f t
def rotF (f : Nat → α) (a m b t : Nat) : α := if a ≤ t ∧ t < a + (b - m) then f (t + (m - a)) else if a + (b - m) ≤ t ∧ t < b then f (t - (b - m)) else f t
omit [Inhabited α] in
theorem rotF_more (f : Nat → α) (m i j : Nat) (hi : i ≤ m) (hj : 0 < j) (h : j < i) : rotF (swF f (m - i) m j) (m - (i - j)) m (m + j) = rotF f (m - i) m (m + j) := by
  funext t
  unfold rotF swF
  repeat' split
  all_goals first | rfl | (congr 1; omega) | (exfalso; omega)
omit [Inhabited α] in
theorem rotF_less (f : Nat → α) (m i j : Nat) (hi : i ≤ m) (h0 : 0 < i) (h : i < j) : rotF (swF f (m - i) (m + j - i) i) (m - i) m (m + (j - i)) = rotF f (m - i) m (m + j) := by
  funext t
  unfold rotF swF
  repeat' split
  all_goals first | rfl | (congr 1; omega) | (exfalso; omega)
omit [Inhabited α] in
theorem rotF_same (f : Nat → α) (m i : Nat) (hi : i ≤ m) : swF f (m - i) m i = rotF f (m - i) m (m + i) := by
  funext t
  unfold rotF swF
  repeat' split
  all_goals first | rfl | (congr 1; omega) | (exfalso; omega)
theorem rot_of {d d' : Array α} {a m b : Nat} (hs : d'.size = d.size) (h1 : a ≤ m) (h2 : m ≤ b) (h : ∀ t, d'[t]! = rotF (fun t => d[t]!) a m b t) : Rot d d' a m b := by
  refine ⟨hs, fun t ht => ?_, fun t h3 h4 => ?_, fun t h3 h4 => ?_⟩
  · rw [h t, rotF, if_neg (by omega), if_neg (by omega)]
  · rw [h t, rotF, if_pos ⟨h3, h4⟩]
  · rw [h t, rotF, if_neg (by omega), if_pos ⟨h3, h4⟩]

/-- THE STEP OF A MERGE IN PLACE. -/
theorem merge_cross (hS : SWO lt) {d d1 : Array α} {a m b s e mid : Nat} (has : a ≤ s) (hsm : s ≤ m) (hme : m ≤ e) (heb : e ≤ b) (hmid : mid = s + (e - m))
    (o1 : SortedIn lt a m d) (o2 : SortedIn lt m b d) (h1 : s = a ∨ e = b ∨ lt d[e]! d[s - 1]! = false) (h2 : s = m ∨ e = m ∨ lt d[e - 1]! d[s]! = true) (hR : Rot d d1 s m e) :
    (∀ i j, s ≤ i → i < m → m ≤ j → j < e → lt d[j]! d[i]! = true) ∧ ∀ i j, a ≤ i → i < mid → mid ≤ j → j < b → lt d1[j]! d1[i]! = false := by
  have c3 : ∀ i j, s ≤ i → i < m → m ≤ j → j < e → lt d[j]! d[i]! = true := fun i j h3 h4 h5 h6 => by
    have k2 : lt d[e - 1]! d[s]! = true := by rcases h2 with h2 | h2 | h2 <;> first | (exfalso; omega) | exact h2
    have k1 : lt d[i]! d[s]! = false := by
      by_cases hh : s = i
      · rw [hh]; exact hS.irrefl _
      · exact o1 s i has (by omega) h4
    have k3 : lt d[e - 1]! d[j]! = false := by
      by_cases hh : j = e - 1
      · rw [← hh]; exact hS.irrefl _
      · exact o2 j (e - 1) h5 (by omega) (by omega)
    exact swo_lt_le hS (swo_le_lt hS k3 k2) k1
  refine ⟨c3, fun i j hi1 hi2 hj1 hj2 => ?_⟩
  have ei : (i < s ∧ d1[i]! = d[i]!) ∨ (s ≤ i ∧ d1[i]! = d[i + (m - s)]!) := by
    by_cases hh : i < s
    · exact .inl ⟨hh, hR.out i (.inl hh)⟩
    · exact .inr ⟨by omega, hR.lo i (by omega) (by omega)⟩
  have ej : (j < e ∧ d1[j]! = d[j - (e - m)]!) ∨ (e ≤ j ∧ d1[j]! = d[j]!) := by
    by_cases hh : j < e
    · exact .inl ⟨hh, hR.hi j (by omega) hh⟩
    · exact .inr ⟨by omega, hR.out j (.inr (by omega))⟩
  rcases ei with ⟨q1, ei⟩ | ⟨q1, ei⟩ <;> rcases ej with ⟨q2, ej⟩ | ⟨q2, ej⟩ <;> rw [ei, ej]
  · exact o1 _ _ hi1 (by omega) (by omega)
  · have k1 : lt d[e]! d[s - 1]! = false := by rcases h1 with h1 | h1 | h1 <;> first | (exfalso; omega) | exact h1
    have k2 : lt d[s - 1]! d[i]! = false := by
      by_cases hh : i = s - 1
      · rw [← hh]; exact hS.irrefl _
      · exact o1 i (s - 1) hi1 (by omega) (by omega)
    have k3 : lt d[j]! d[e]! = false := by
      by_cases hh : e = j
      · rw [hh]; exact hS.irrefl _
      · exact o2 e j hme (by omega) hj2
    exact hS.ntrans _ _ _ k3 (hS.ntrans _ _ _ k1 k2)
  · exact swo_asym hS (c3 (j - (e - m)) (i + (m - s)) (by omega) (by omega) (by omega) (by omega))
  · exact o2 _ _ (by omega) (by omega) hj2
theorem merge_step (hS : SWO lt) {d d1 d2 d3 : Array α} {a m b s e mid : Nat} (has : a ≤ s) (hsm : s ≤ m) (hme : m ≤ e) (heb : e ≤ b) (hmid : mid = s + (e - m))
    (o1 : SortedIn lt a m d) (o2 : SortedIn lt m b d) (h1 : s = a ∨ e = b ∨ lt d[e]! d[s - 1]! = false) (h2 : s = m ∨ e = m ∨ lt d[e - 1]! d[s]! = true) (hR : Rot d d1 s m e)
    (m1 : Stab lt d1 d2 a mid) (s1 : SortedIn lt a mid d2) (m2 : Stab lt d2 d3 mid b) (s2 : SortedIn lt mid b d3) : Stab lt d d3 a b ∧ SortedIn lt a b d3 := by
  obtain ⟨c3, hc⟩ := merge_cross hS has hsm hme heb hmid o1 o2 h1 h2 hR
  refine ⟨(((hR.stab hS hsm hme c3).widen has (by omega) heb).trans (m1.widen (Nat.le_refl _) (by omega) (by omega))).trans (m2.widen (by omega) (by omega) (Nat.le_refl _)), fun i j hi hij hj => ?_⟩
  by_cases q1 : j < mid
  · rw [m2.out i (.inl (by omega)), m2.out j (.inl q1)]
    exact s1 i j hi hij q1
  · by_cases q2 : mid ≤ i
    · exact s2 i j q2 hij hj
    · rw [m2.out i (.inl (by omega))]
      obtain ⟨x, x1, x2, ex⟩ := m1.mem hS hi (show i < mid by omega)
      obtain ⟨y, y1, y2, ey⟩ := m2.mem hS (show mid ≤ j by omega) hj
      rw [ex, ey, m1.out y (.inr y1)]
      exact hc x y x1 x2 y1 y2
theorem merge_parts {d d1 : Array α} {a m b s e mid : Nat} (has : a ≤ s) (hsm : s ≤ m) (hme : m ≤ e) (heb : e ≤ b) (hmid : mid = s + (e - m))
    (o1 : SortedIn lt a m d) (o2 : SortedIn lt m b d) (hR : Rot d d1 s m e) : SortedIn lt a s d1 ∧ SortedIn lt s mid d1 ∧ SortedIn lt mid e d1 ∧ SortedIn lt e b d1 := by
  refine ⟨fun i j h1 h2 h3 => ?_, fun i j h1 h2 h3 => ?_, fun i j h1 h2 h3 => ?_, fun i j h1 h2 h3 => ?_⟩
  · rw [hR.out i (.inl (by omega)), hR.out j (.inl h3)]; exact o1 i j h1 h2 (by omega)
  · rw [hR.lo i h1 (by omega), hR.lo j (by omega) (by omega)]; exact o2 _ _ (by omega) (by omega) (by omega)
  · rw [hR.hi i (by omega) (by omega), hR.hi j (by omega) h3]; exact o1 _ _ (by omega) (by omega) (by omega)
  · rw [hR.out i (.inr h1), hR.out j (.inr (by omega))]; exact o2 i j (by omega) h2 h3
theorem SortedIn.one (d : Array α) {a b : Nat} (h : b ≤ a + 1) : SortedIn lt a b d := fun i j h1 h2 h3 => by omega
theorem SortedIn.kept {d d' : Array α} {a b : Nat} (h : SortedIn lt a b d) (hk : ∀ t, a ≤ t → t < b → d'[t]! = d[t]!) : SortedIn lt a b d' := fun i j h1 h2 h3 => by
  rw [hk i h1 (by omega), hk j (by omega) h3]; exact h i j h1 h2 h3
/-- One ahead of many. -/
theorem merge_first (hS : SWO lt) {d d1 : Array α} {a b i : Nat} (hi : a + 1 ≤ i) (hib : i ≤ b) (o2 : SortedIn lt (a + 1) b d) (h1 : i = a + 1 ∨ lt d[i - 1]! d[a]! = true) (h2 : i = b ∨ lt d[i]! d[a]! = false) (hR : Rot d d1 a (a + 1) i) :
    Stab lt d d1 a b ∧ SortedIn lt a b d1 := by
  refine merge_step hS (d1 := d1) (d2 := d1) (mid := i - 1) (s := a) (m := a + 1) (e := i) (Nat.le_refl _) (by omega) hi hib (by omega) (SortedIn.one _ (Nat.le_refl _)) o2 (.inl rfl) (h1.elim (fun h => .inr (.inl h)) (fun h => .inr (.inr h))) hR (Stab.refl _ _ _) ?_ (Stab.refl _ _ _) ?_
  · intro x y h3 h4 h5
    rw [hR.lo x h3 (by omega), hR.lo y (by omega) (by omega)]
    exact o2 _ _ (by omega) (by omega) (by omega)
  · intro x y h3 h4 h5
    rw [hR.out y (.inr (by omega))]
    by_cases hx : x = i - 1
    · rw [hx, hR.hi (i - 1) (by omega) (by omega), show i - 1 - (i - (a + 1)) = a by omega]
      have k2 : lt d[i]! d[a]! = false := h2.resolve_left (by omega)
      by_cases hy : y = i
      · rw [hy]; exact k2
      · exact hS.ntrans _ _ _ (o2 i y hi (by omega) h5) k2
    · rw [hR.out x (.inr (by omega))]
      exact o2 x y (by omega) h4 h5
/-- One behind many. -/
theorem merge_last (hS : SWO lt) {d d1 : Array α} {a m i : Nat} (hi : a ≤ i) (him : i ≤ m) (o1 : SortedIn lt a m d) (h1 : i = a ∨ lt d[m]! d[i - 1]! = false) (h2 : i = m ∨ lt d[m]! d[i]! = true) (hR : Rot d d1 i m (m + 1)) :
    Stab lt d d1 a (m + 1) ∧ SortedIn lt a (m + 1) d1 := by
  refine merge_step hS (d1 := d1) (d2 := d1) (mid := i + 1) (s := i) (m := m) (e := m + 1) hi him (by omega) (Nat.le_refl _) (by omega) o1 (SortedIn.one _ (Nat.le_refl _)) (.inr (.inl rfl)) (h2.elim .inl (fun h => .inr (.inr (by simpa using h)))) hR (Stab.refl _ _ _) ?_ (Stab.refl _ _ _) ?_
  · intro x y h3 h4 h5
    rw [hR.out x (.inl (by omega))]
    by_cases hy : y = i
    · rw [hy, hR.lo i (Nat.le_refl _) (by omega), show i + (m - i) = m by omega]
      have k1 : lt d[m]! d[i - 1]! = false := h1.resolve_left (by omega)
      by_cases hx : x = i - 1
      · rw [hx]; exact k1
      · exact hS.ntrans _ _ _ k1 (o1 x (i - 1) h3 (by omega) (by omega))
    · rw [hR.out y (.inl (by omega))]
      exact o1 x y h3 h4 (by omega)
  · intro x y h3 h4 h5
    rw [hR.hi x (by omega) (by omega), hR.hi y (by omega) h5]
    exact o1 _ _ (by omega) (by omega) (by omega)
/-- The two walks of one element by exchanges. -/
theorem rot_up {d d1 : Array α} {a k : Nat} (hk : a ≤ k) (hs : k + 1 < d.size) (h : Rot d d1 a (a + 1) (k + 1)) : Rot d (swp d1 k (k + 1)) a (a + 1) (k + 2) := by
  have hs1 := h.size
  have g := fun t => get_swp d1 k (k + 1) t (by omega) (by omega)
  refine ⟨by rw [size_swp', hs1], fun t ht => ?_, fun t h1 h2 => ?_, fun t h1 h2 => ?_⟩
  · rw [g, if_neg (by omega), if_neg (by omega), h.out t (by omega)]
  · rw [g, if_neg (by omega)]
    by_cases ht : t = k
    · rw [if_pos ht, h.out (k + 1) (by omega), show t + (a + 1 - a) = k + 1 by omega]
    · rw [if_neg ht, h.lo t h1 (by omega)]
  · rw [g, if_pos (by omega), h.hi k (by omega) (by omega)]
    congr 1; omega
theorem rot_down {d d1 : Array α} {m k : Nat} (hk : k + 1 ≤ m) (hs : m < d.size) (h : Rot d d1 (k + 1) m (m + 1)) : Rot d (swp d1 (k + 1) k) k m (m + 1) := by
  have hs1 := h.size
  have g := fun t => get_swp d1 (k + 1) k t (by omega) (by omega)
  refine ⟨by rw [size_swp', hs1], fun t ht => ?_, fun t h1 h2 => ?_, fun t h1 h2 => ?_⟩
  · rw [g, if_neg (by omega), if_neg (by omega), h.out t (by omega)]
  · rw [g, if_pos (by omega), h.lo (k + 1) (by omega) (by omega)]
    congr 1; omega
  · rw [g, if_neg (by omega)]
    by_cases ht : t = k + 1
    · rw [if_pos ht, h.out k (by omega)]
      congr 1; omega
    · rw [if_neg ht, h.hi t (by omega) h2]

omit [Inhabited α] in
/-- THERE IS JUST ONE. -/
theorem stable_one (hS : SWO lt) : ∀ {S T : List α}, S.Pairwise (fun x y => lt y x = false) → T.Pairwise (fun x y => lt y x = false) → (∀ x, S.filter (eqv lt x) = T.filter (eqv lt x)) → S = T
  | [], [], _, _, _ => rfl
  | [], b :: T, _, _, h => by
    have := h b
    rw [List.filter_cons_of_pos (eqv_self hS b)] at this
    cases this
  | a :: S, [], _, _, h => by
    have := h a
    rw [List.filter_cons_of_pos (eqv_self hS a)] at this
    cases this
  | a :: S, b :: T, hs, ht, h => by
    obtain ⟨s1, s2⟩ := List.pairwise_cons.1 hs
    obtain ⟨t1, t2⟩ := List.pairwise_cons.1 ht
    have ab : lt a b = false := by
      have hm : a ∈ (b :: T).filter (eqv lt a) := by rw [← h a, List.filter_cons_of_pos (eqv_self hS a)]; exact List.mem_cons_self
      rcases List.mem_cons.1 (List.mem_filter.1 hm).1 with e | e
      · rw [e]; exact hS.irrefl _
      · exact t1 a e
    have ba : lt b a = false := by
      have hm : b ∈ (a :: S).filter (eqv lt b) := by rw [h b, List.filter_cons_of_pos (eqv_self hS b)]; exact List.mem_cons_self
      rcases List.mem_cons.1 (List.mem_filter.1 hm).1 with e | e
      · rw [e]; exact hS.irrefl _
      · exact s1 b e
    have hab : a = b := by
      have := h a
      rw [List.filter_cons_of_pos (eqv_self hS a), List.filter_cons_of_pos (eqv_iff.2 ⟨ab, ba⟩)] at this
      exact (List.cons.inj this).1
    subst hab
    have hr : ∀ x, S.filter (eqv lt x) = T.filter (eqv lt x) := fun x => by
      have := h x
      by_cases hx : eqv lt x a = true
      · rw [List.filter_cons_of_pos hx, List.filter_cons_of_pos hx] at this
        exact (List.cons.inj this).2
      · rw [List.filter_cons_of_neg hx, List.filter_cons_of_neg hx] at this
        exact this
    rw [stable_one hS s2 t2 hr]
end
end Go.Proofs.YtmlfekbmbnfkjabGreatDoor

/-
  Plain facts: things under dots, in these' order.
-/
namespace Go.Proofs.YtmlfekbmbnfkjabGreatDoor
set_option maxRecDepth 100000

/-- A thing under a dot. -/
structure It (α : Type) where
  r : Int
  n : Int
  x : α

section
variable {α β : Type}

/-- Stands a ahead of b? -/
def bef (a b : It α) : Bool := decide (a.r < b.r ∨ (a.r = b.r ∧ a.n < b.n))
/-- Lies it under that dot? -/
def isAt (r n : Int) (i : It α) : Bool := decide (i.r = r ∧ i.n = n)
/-- In their dots' order. -/
def Srt (S : List (It α)) : Prop := S.Pairwise fun a b => bef a b = true
def del (S : List (It α)) (r n : Int) : List (It α) := S.filter fun i => !isAt r n i
def put (S : List (It α)) (d : It α) : List (It α) := S.filter (fun i => bef i d) ++ d :: S.filter (fun i => bef d i)
def find (S : List (It α)) (r n : Int) : Option (It α) := S.find? (isAt r n)
def hasD (S : List (It α)) (r n : Int) : Bool := S.any (isAt r n)

theorem bef_iff {a b : It α} : bef a b = true ↔ (a.r < b.r ∨ (a.r = b.r ∧ a.n < b.n)) := by simp [bef]
theorem isAt_iff {r n : Int} {i : It α} : isAt r n i = true ↔ (i.r = r ∧ i.n = n) := by simp [isAt]
theorem bef_irrefl (a : It α) : bef a a = false := by simp [bef]
theorem bef_trans {a b c : It α} (h : bef a b = true) (k : bef b c = true) : bef a c = true := by rw [bef_iff] at *; omega
theorem bef_asymm {a b : It α} (h : bef a b = true) : bef b a = false := by
  rw [bef_iff] at h
  cases hb : bef b a
  · rfl
  · rw [bef_iff] at hb; omega
theorem bef_tri (a d : It α) : isAt d.r d.n a = true ∨ bef a d = true ∨ bef d a = true := by rw [bef_iff, bef_iff, isAt_iff]; omega
theorem isAt_bef {a d : It α} (h : isAt d.r d.n a = true) : bef a d = false ∧ bef d a = false := by
  rw [isAt_iff] at h
  constructor
  · cases hb : bef a d
    · rfl
    · rw [bef_iff] at hb; omega
  · cases hb : bef d a
    · rfl
    · rw [bef_iff] at hb; omega
theorem bef_ne {a b : It α} (h : bef a b = true) : ¬ (a.r = b.r ∧ a.n = b.n) := by rw [bef_iff] at h; omega

theorem Srt.nil : Srt ([] : List (It α)) := List.Pairwise.nil
theorem Srt.filter {S : List (It α)} (h : Srt S) (p : It α → Bool) : Srt (S.filter p) := List.Pairwise.filter p h
theorem Srt.del {S : List (It α)} (h : Srt S) (r n : Int) : Srt (del S r n) := h.filter _
theorem Srt.put {S : List (It α)} (h : Srt S) (d : It α) : Srt (put S d) := by
  unfold Srt Proofs.YtmlfekbmbnfkjabGreatDoor.put
  rw [List.pairwise_append]
  refine ⟨h.filter _, List.pairwise_cons.2 ⟨fun a ha => (List.mem_filter.1 ha).2, h.filter _⟩, fun a ha b hb => ?_⟩
  have h1 := (List.mem_filter.1 ha).2
  rcases List.mem_cons.1 hb with rfl | hb
  · exact h1
  · exact bef_trans h1 (List.mem_filter.1 hb).2
theorem Srt.apart {S : List (It α)} (h : Srt S) : S.Pairwise fun a b => ¬ (a.r = b.r ∧ a.n = b.n) := h.imp bef_ne
/-- Two lists in order with the same things are one. -/
theorem Srt.eq_of_perm : ∀ {S T : List (It α)}, Srt S → Srt T → S.Perm T → S = T
  | [], T, _, _, hp => (List.Perm.nil_eq hp)
  | a :: S, [], _, _, hp => absurd hp.length_eq (by simp)
  | a :: S, b :: T, hS, hT, hp => by
    obtain ⟨h1, h2⟩ := List.pairwise_cons.1 hS
    obtain ⟨k1, k2⟩ := List.pairwise_cons.1 hT
    have e : a = b := by
      have ha : a ∈ b :: T := hp.mem_iff.1 (by simp)
      have hb : b ∈ a :: S := hp.mem_iff.2 (by simp)
      rcases List.mem_cons.1 ha with e | ha
      · exact e
      · rcases List.mem_cons.1 hb with e | hb
        · exact e.symm
        · have := bef_asymm (h1 b hb); rw [k1 a ha] at this; cases this
    subst e
    rw [Srt.eq_of_perm h2 k2 (List.perm_cons a |>.1 hp)]
theorem filter_or_perm {β : Type} (p q : β → Bool) : ∀ S : List β, (∀ i ∈ S, ¬ (p i = true ∧ q i = true)) → (S.filter p ++ S.filter q).Perm (S.filter fun i => p i || q i)
  | [], _ => by simp
  | a :: S, h => by
    have ih := filter_or_perm p q S (fun i hi => h i (by simp [hi]))
    have ha := h a (by simp)
    simp only [List.filter_cons]
    cases hp : p a <;> cases hq : q a
    · simpa using ih
    · simp only [Bool.false_eq_true, if_false, if_true, Bool.or_true]
      exact (List.perm_middle).trans (ih.cons a)
    · simp only [Bool.false_eq_true, if_false, if_true, Bool.true_or, List.cons_append]
      exact ih.cons a
    · exact absurd ⟨hp, hq⟩ ha
theorem put_perm (S : List (It α)) (d : It α) : (put S d).Perm (d :: del S d.r d.n) := by
  unfold put del
  refine (List.perm_middle).trans (List.Perm.cons d ?_)
  refine (filter_or_perm _ _ S (fun i _ h => by have := bef_asymm h.1; rw [h.2] at this; cases this)).trans ?_
  refine List.Perm.of_eq (List.filter_congr fun i _ => ?_)
  rcases bef_tri i d with h | h | h
  · obtain ⟨h1, h2⟩ := isAt_bef h
    rw [h, h1, h2]; rfl
  · have : isAt d.r d.n i = false := by
      cases hh : isAt d.r d.n i
      · rfl
      · rw [(isAt_bef hh).1] at h; cases h
    rw [h, this]; rfl
  · have : isAt d.r d.n i = false := by
      cases hh : isAt d.r d.n i
      · rfl
      · rw [(isAt_bef hh).2] at h; cases h
    rw [h, this]; simp
theorem hasD_iff {S : List (It α)} {r n : Int} : hasD S r n = true ↔ ∃ i ∈ S, i.r = r ∧ i.n = n := by
  simp [hasD, isAt]
theorem del_of_not {S : List (It α)} {r n : Int} (h : hasD S r n = false) : del S r n = S := by
  unfold del
  refine List.filter_eq_self.2 fun i hi => ?_
  cases hh : isAt r n i
  · rfl
  · have : hasD S r n = true := List.any_eq_true.2 ⟨i, hi, hh⟩
    rw [h] at this; cases this
/-- What is found there is the one thing that lies there. -/
theorem find_mem {S : List (It α)} {r n : Int} {i : It α} (h : find S r n = some i) : i ∈ S ∧ i.r = r ∧ i.n = n :=
  ⟨List.mem_of_find?_eq_some h, isAt_iff.1 (List.find?_some h)⟩
theorem find_none {S : List (It α)} {r n : Int} : find S r n = none ↔ hasD S r n = false := by
  simp [find, hasD]
theorem find_some {S : List (It α)} (hS : Srt S) {i : It α} (h : i ∈ S) : find S i.r i.n = some i := by
  unfold find
  cases hf : S.find? (isAt i.r i.n) with
  | none =>
    have := List.find?_eq_none.1 hf i h
    rw [isAt_iff] at this
    exact absurd ⟨rfl, rfl⟩ this
  | some j =>
    obtain ⟨hj, h1, h2⟩ := find_mem (S := S) (r := i.r) (n := i.n) hf
    congr 1
    have ap := hS.apart
    clear hf
    induction S with
    | nil => simp at h
    | cons a S ih =>
      obtain ⟨p1, p2⟩ := List.pairwise_cons.1 ap
      rcases List.mem_cons.1 h with e | h'
      · rcases List.mem_cons.1 hj with e' | hj'
        · rw [e, e']
        · exact absurd ⟨e ▸ h1.symm, e ▸ h2.symm⟩ (p1 j hj')
      · rcases List.mem_cons.1 hj with e' | hj'
        · exact absurd ⟨e' ▸ h1, e' ▸ h2⟩ (p1 i h')
        · exact ih (List.pairwise_cons.1 hS).2 h' hj' p2
theorem hasD_find {S : List (It α)} {r n : Int} : hasD S r n = (find S r n).isSome := by
  cases h : find S r n with
  | none => rw [find_none] at h; rw [h]; rfl
  | some i => obtain ⟨h1, h2, h3⟩ := find_mem h; exact hasD_iff.2 ⟨i, h1, h2, h3⟩
/-- How the things come one behind the other. -/
def puts (l : List (It α)) : List (It α) := l.foldl put []
theorem Srt.puts : ∀ l : List (It α), Srt (puts l) := by
  intro l
  unfold Proofs.YtmlfekbmbnfkjabGreatDoor.puts
  suffices h : ∀ (l S : List (It α)), Srt S → Srt (l.foldl Proofs.YtmlfekbmbnfkjabGreatDoor.put S) from h l [] Srt.nil
  intro l
  induction l with
  | nil => exact fun S h => h
  | cons a l ih => exact fun S h => ih _ (h.put a)
theorem perm_erase {γ : Type} : ∀ {L : List γ} {j : Nat} {i : γ}, L[j]? = some i → L.Perm (i :: L.eraseIdx j)
  | [], j, i, h => by simp at h
  | a :: L, 0, i, h => by
    obtain rfl : a = i := by simpa using h
    exact List.Perm.refl _
  | a :: L, j + 1, i, h => by
    have ih := perm_erase (L := L) (j := j) (i := i) (by simpa using h)
    simp only [List.eraseIdx_cons_succ]
    exact (ih.cons a).trans (List.Perm.swap i a _)
theorem perm_set {γ : Type} : ∀ {L : List γ} {j : Nat} {i x : γ}, L[j]? = some i → (L.set j x).Perm (x :: L.eraseIdx j)
  | [], j, i, x, h => by simp at h
  | a :: L, 0, i, x, h => List.Perm.refl _
  | a :: L, j + 1, i, x, h => by
    have ih := perm_set (L := L) (j := j) (i := i) (x := x) (by simpa using h)
    simp only [List.eraseIdx_cons_succ, List.set_cons_succ]
    exact (ih.cons a).trans (List.Perm.swap x a _)
theorem map_erase {γ δ : Type} (f : γ → δ) : ∀ (L : List γ) (j : Nat), (L.eraseIdx j).map f = (L.map f).eraseIdx j
  | [], j => by simp
  | a :: L, 0 => by simp
  | a :: L, j + 1 => by simp [map_erase f L j]
end
end Go.Proofs.YtmlfekbmbnfkjabGreatDoor

/-
  Plain facts on numbers and their bytes (groups of seven bits, the highest first), without any program: a number's width, its bytes, that the bytes tell the number, that no other bytes do, and how they stand to one another. No condition but 'below 2^64' where it is written.
-/
namespace Go.Proofs.YtmlfekbmbnfkjabGreatDoor.Vq
set_option maxRecDepth 100000

/-- How many groups a number takes. -/
def wdF : Nat → Nat → Nat
  | 0, _ => 1
  | f + 1, n => if n < 128 then 1 else wdF f (n / 128) + 1
def wd (n : Nat) : Nat := wdF 9 n

/-- The k groups of n above its lowest ones, each with 128 added, the highest first. -/
def hi : Nat → Nat → List UInt8
  | 0, _ => []
  | k + 1, n => hi k (n / 128) ++ [UInt8.ofNat (128 + n % 128)]
/-- A number's bytes. -/
def num (n : Nat) : List UInt8 := hi (wd n - 1) (n / 128) ++ [UInt8.ofNat (n % 128)]

/-- The number that bytes tell. -/
def val (l : List UInt8) : Nat := l.foldl (fun a c => a * 128 + c.toNat % 128) 0
/-- Bytes that are one number's: all but the last one are 128 or more, the last one is below, the first one isn't 128. -/
def Whole (l : List UInt8) : Prop := ∃ i c, l = i ++ [c] ∧ (∀ x ∈ i, 128 ≤ x.toNat) ∧ c.toNat < 128 ∧ l.head? ≠ some 128

end Go.Proofs.YtmlfekbmbnfkjabGreatDoor.Vq

