/-
  Lists of events with unlike dots, plainly: the order hangs on the events alone; leaves; what is pushed behind one.
-/
import Derived.Test.YtagjgamigldjnaaGd
namespace Go.Proofs.Ytagjgamigldjnaa
set_option maxRecDepth 100000
open Go.Sort

/-! ### events in the place of places -/
theorem unlike_at {N : List Ev} (h : Unlike N) {i j : Nat} (hi : i < N.length) (hj : j < N.length) (hd : sameDot (atN N i) (atN N j)) : i = j := by
  have key : ∀ {a b : Nat}, a < b → b < N.length → ¬ sameDot (atN N a) (atN N b) := fun {a b} hab hb => by
    have := List.pairwise_iff_getElem.1 h a b (by omega) hb hab
    rw [atN_get (List.getElem?_eq_getElem hb), atN_get (List.getElem?_eq_getElem (show a < N.length by omega))]
    exact this
  rcases Nat.lt_trichotomy i j with h1 | h1 | h1
  · exact absurd hd (key h1 hj)
  · exact h1
  · exact absurd ⟨hd.1.symm, hd.2.symm⟩ (key h1 hi)
theorem unlike_mem {N : List Ev} (h : Unlike N) {x y : Ev} (hx : x ∈ N) (hy : y ∈ N) (hd : sameDot x y) : x = y := by
  obtain ⟨i, hi, rfl⟩ := List.mem_iff_getElem.1 hx
  obtain ⟨j, hj, rfl⟩ := List.mem_iff_getElem.1 hy
  have := unlike_at h hi hj (by rw [atN_get (List.getElem?_eq_getElem hi), atN_get (List.getElem?_eq_getElem hj)]; exact hd)
  subst this
  rfl
theorem parE_is {N : List Ev} (e : Ev) : parE N e = (parI N e).map (atN N) := by
  unfold parE parI
  cases noRef e
  · simp only [Bool.false_eq_true, if_false]
    cases hf : N.findIdx? (canPar e) with
    | none =>
      rw [List.findIdx?_eq_none_iff] at hf
      rw [Option.map_none, List.find?_eq_none]
      intro x hx
      rw [hf x hx]
      simp
    | some k =>
      obtain ⟨h1, h2, h3⟩ := List.findIdx?_eq_some_iff_getElem.1 hf
      rw [Option.map_some, atN_get (List.getElem?_eq_getElem h1), List.find?_eq_some_iff_getElem]
      exact ⟨h2, k, h1, rfl, fun j hj => by rw [Bool.not_eq_true']; exact Bool.eq_false_iff.2 (h3 j hj)⟩
  · rfl
theorem parE_some {N : List Ev} (h : Unlike N) {e x : Ev} (hr : noRef e = false) (hx : x ∈ N) (hc : canPar e x = true) : parE N e = some x := by
  unfold parE
  rw [hr]
  simp only [Bool.false_eq_true, if_false]
  cases hf : N.find? (canPar e) with
  | none =>
    rw [List.find?_eq_none] at hf
    exact absurd hc (hf x hx)
  | some y =>
    have hy := List.find?_some hf
    have hm := List.mem_of_find?_eq_some hf
    have : y = x := by
      unfold canPar at hy hc
      rw [Bool.and_eq_true, decide_eq_true_eq] at hy hc
      exact unlike_mem h hm hx ⟨hy.1.1.trans hc.1.1.symm, hy.1.2.trans hc.1.2.symm⟩
    rw [this]
theorem parE_inv {N : List Ev} {e x : Ev} (h : parE N e = some x) : noRef e = false ∧ x ∈ N ∧ canPar e x = true := by
  unfold parE at h
  cases hr : noRef e
  · rw [hr] at h
    simp only [Bool.false_eq_true, if_false] at h
    exact ⟨rfl, List.mem_of_find?_eq_some h, List.find?_some h⟩
  · rw [hr] at h; simp at h
theorem can_dot {e x : Ev} (h : canPar e x = true) : x.r = e.rr ∧ x.n = e.rn := by
  unfold canPar at h
  rw [Bool.and_eq_true, decide_eq_true_eq] at h
  exact h.1
theorem can_later {e x : Ev} (h : canPar e x = true) : laterE e x = true := by
  unfold canPar at h
  rw [Bool.and_eq_true] at h
  exact h.2
/-- Two lists with unlike dots give an event one parent, if they have the same ones that can be it. -/
theorem parE_congr {N M : List Ev} (hN : Unlike N) (hM : Unlike M) {e : Ev} (h : ∀ x, canPar e x = true → (x ∈ N ↔ x ∈ M)) : parE N e = parE M e := by
  cases h1 : parE N e with
  | some x =>
    obtain ⟨a, b, c⟩ := parE_inv h1
    exact (parE_some hM a ((h x c).1 b) c).symm
  | none =>
    cases h2 : parE M e with
    | none => rfl
    | some x =>
      obtain ⟨a, b, c⟩ := parE_inv h2
      rw [parE_some hN a ((h x c).2 b) c] at h1
      cases h1
def kidsE (N : List Ev) (p : Option Ev) : List Ev := (srtE (N.filter fun x => decide (parE N x = p))).reverse
theorem mem_kidsE {N : List Ev} {p : Option Ev} {x : Ev} : x ∈ kidsE N p ↔ x ∈ N ∧ parE N x = p := by
  unfold kidsE
  rw [List.mem_reverse, srt_mem, List.mem_filter, decide_eq_true_eq]
theorem kidsE_ord {N : List Ev} (h : Unlike N) (p : Option Ev) : (kidsE N p).Pairwise fun x y => laterE x y = true := by
  unfold kidsE
  rw [List.pairwise_reverse]
  have hu : Unlike (srtE (N.filter fun x => decide (parE N x = p))) := by
    unfold Unlike
    exact ((srt_perm (N.filter fun x => decide (parE N x = p))).symm.pairwise_iff (fun {a b} (hab : ¬ sameDot a b) (hba : sameDot b a) => hab ⟨hba.1.symm, hba.2.symm⟩)).1 (h.filter _)
  have ho := (srt_st (N.filter fun x => decide (parE N x = p))).ord
  unfold Unlike at hu
  rw [List.pairwise_iff_getElem] at ho hu ⊢
  intro i j hi hj hij
  rcases later_or (hu i j hi hj hij) with h1 | h1
  · have h2 : laterE _ _ = false := ho i j hi hj hij
    rw [h1] at h2
    cases h2
  · exact h1
theorem kids_map {N : List Ev} (h : Unlike N) {p : Option Nat} (hp : There N p) : (kidsI N p).map (atN N) = kidsE N (p.map (atN N)) := by
  refine rises_one (R := fun x y => laterE x y = true) (fun a b h1 h2 => by rw [later_asym h1] at h2; cases h2) ?_ (kidsE_ord h _) (fun x => ?_)
  · rw [List.pairwise_map]
    refine (List.Pairwise.and_mem.1 (kids_is N p).ord).imp ?_
    rintro i j ⟨hi, hj, hij⟩
    rcases hij with h1 | ⟨h1, h2⟩
    · exact h1
    · rcases later_or (a := atN N i) (b := atN N j) (fun hd => by have := unlike_at h (mem_kids.1 hi).1 (mem_kids.1 hj).1 hd; omega) with h3 | h3
      · exact h3
      · rw [h1] at h3; cases h3
  · rw [mem_kidsE, List.mem_map]
    constructor
    · rintro ⟨i, hi, rfl⟩
      obtain ⟨h1, h2⟩ := mem_kids.1 hi
      exact ⟨atN_mem h1, by rw [parE_is, h2]⟩
    · rintro ⟨h1, h2⟩
      obtain ⟨i, hi, e⟩ := List.mem_iff_getElem.1 h1
      have e' : atN N i = x := by rw [atN_get (List.getElem?_eq_getElem hi)]; exact e
      refine ⟨i, mem_kids.2 ⟨hi, ?_⟩, e'⟩
      rw [parE_is, ← e'] at h2
      cases hq : parI N (atN N i) with
      | none =>
        cases p with
        | none => rfl
        | some k => rw [hq] at h2; cases h2
      | some q =>
        cases p with
        | none => rw [hq] at h2; cases h2
        | some k =>
          rw [hq] at h2
          have h3 : atN N q = atN N k := Option.some.inj h2
          rw [unlike_at h (par_some hq).1 hp (by rw [h3]; exact ⟨rfl, rfl⟩)]
abbrev treeE (N : List Ev) (n : Nat) (p : Option Ev) : List Ev := tree (kidsE N) n p
theorem tree_map {N : List Ev} (h : Unlike N) : ∀ (n : Nat) (p : Option Nat), There N p → (treeI N n p).map (atN N) = treeE N n (p.map (atN N))
  | 0, _, _ => rfl
  | n + 1, p, hp => by
    show ((kidsI N p).flatMap fun i => i :: treeI N n (some i)).map (atN N) = (kidsE N (p.map (atN N))).flatMap fun x => x :: treeE N n (some x)
    rw [← kids_map h hp, List.map_flatMap, List.flatMap_map]
    refine flatMap_congr' (fun i hi => ?_)
    rw [List.map_cons, tree_map h n (some i) (there_kid hi)]
    rfl
theorem order_tree {key : List UInt8} {l : List Ev} (h : Unlike (nodesE key l)) {n : Nat} (hn : (nodesE key l).length < n) : orderE key l = treeE (nodesE key l) n none := by
  unfold orderE
  rw [← order_fuel hn, tree_map h n none trivial]
  rfl
theorem unlike_nodes {key : List UInt8} {l : List Ev} (h : Unlike l) : Unlike (nodesE key l) := h.filter _
/-- How many are later. -/
def rkE (N : List Ev) : Option Ev → Nat
  | none => N.length
  | some y => (N.filter fun x => laterE x y).length
theorem rkE_kid {N : List Ev} {p : Option Ev} {y : Ev} (h : y ∈ kidsE N p) : rkE N (some y) < rkE N p := by
  obtain ⟨hy, hp⟩ := mem_kidsE.1 h
  cases p with
  | none =>
    have h1 : (N.filter fun _ => true).length = N.length := by simp
    exact Nat.lt_of_lt_of_eq (filter_lt (p := fun x => laterE x y) (q := fun _ => true) (fun _ _ _ => rfl) hy (lat_self _) rfl) h1
  | some z =>
    have hl := can_later (parE_inv hp).2.2
    exact filter_lt (p := fun x => laterE x y) (q := fun x => laterE x z) (fun x _ hx => lat_tr hx hl) hy (lat_self _) hl

/-! ### the order of events plays no part -/
theorem kidsE_perm {N M : List Ev} (h : N.Perm M) (hN : Unlike N) : kidsE N = kidsE M := by
  have hM : Unlike M := (h.pairwise_iff (fun {a b} (hab : ¬ sameDot a b) (hba : sameDot b a) => hab ⟨hba.1.symm, hba.2.symm⟩)).1 hN
  funext p
  unfold kidsE
  have e : (fun x => decide (parE N x = p)) = fun x => decide (parE M x = p) := by
    funext x
    rw [parE_congr hN hM (fun y _ => h.mem_iff)]
  rw [e]
  congr 1
  exact srt_order (h.filter _) (hN.filter _)
theorem order_same {key : List UInt8} {l m : List Ev} (h : l.Perm m) (hu : Unlike l) : orderE key l = orderE key m := by
  have hp : (nodesE key l).Perm (nodesE key m) := h.filter _
  have hM : Unlike (nodesE key m) := (hp.pairwise_iff (fun {a b} (hab : ¬ sameDot a b) (hba : sameDot b a) => hab ⟨hba.1.symm, hba.2.symm⟩)).1 (unlike_nodes hu)
  rw [order_tree (unlike_nodes hu) (Nat.lt_succ_self _), order_tree hM (n := (nodesE key l).length + 1) (by rw [hp.length_eq]; exact Nat.lt_succ_self _)]
  show tree _ _ _ = tree _ _ _
  rw [kidsE_perm hp (unlike_nodes hu)]
theorem items_same {key : List UInt8} {l m : List Ev} (h : l.Perm m) (hu : Unlike l) : itemsE key l = itemsE key m := by
  unfold itemsE
  rw [order_same h hu]
  congr 1
  funext a
  unfold isLive
  rw [any_perm h]

/-! ### leaves -/
theorem tree_none {N : List Ev} {x : Ev} (h : kidsE N (some x) = []) : ∀ n, treeE N n (some x) = []
  | 0 => rfl
  | n + 1 => by show (kidsE N (some x)).flatMap _ = []; rw [h]; rfl
theorem filter_flat {α : Type} {q : α → Bool} {f f' : α → List α} : ∀ {K : List α}, (∀ y ∈ K, q y = true → f' y = (f y).filter q) → (∀ y ∈ K, q y = false → (f y).filter q = []) → (K.filter q).flatMap f' = (K.flatMap f).filter q
  | [], _, _ => rfl
  | y :: K, h1, h2 => by
    have ih := filter_flat (K := K) (fun z hz => h1 z (by simp [hz])) (fun z hz => h2 z (by simp [hz]))
    rw [List.flatMap_cons, List.filter_append, List.filter_cons]
    cases hq : q y
    · rw [h2 y (by simp) hq]
      simp only [Bool.false_eq_true, if_false, List.nil_append]
      exact ih
    · rw [if_pos rfl, List.flatMap_cons, h1 y (by simp) hq, ih]
theorem tree_leaf' {N : List Ev} (hN : Unlike N) {x : Ev} (hx : ∀ e ∈ N, ¬ (e.rr = x.r ∧ e.rn = x.n)) : ∀ (n : Nat) (p : Option Ev), treeE (N.filter fun e => decide (e ≠ x)) n p = (treeE N n p).filter fun e => decide (e ≠ x) := by
  have hN' : Unlike (N.filter fun e => decide (e ≠ x)) := hN.filter _
  have par : ∀ e ∈ N, parE (N.filter fun e => decide (e ≠ x)) e = parE N e := fun e he => parE_congr hN' hN (fun y hy => by
    rw [List.mem_filter, decide_eq_true_eq]
    constructor
    · exact fun h => h.1
    · intro h
      refine ⟨h, fun e1 => ?_⟩
      subst e1
      obtain ⟨d1, d2⟩ := can_dot hy
      exact hx e he ⟨d1.symm, d2.symm⟩)
  have kids : ∀ p, kidsE (N.filter fun e => decide (e ≠ x)) p = (kidsE N p).filter fun e => decide (e ≠ x) := fun p => by
    unfold kidsE
    rw [List.filter_reverse, ← srt_filter, List.filter_filter, List.filter_filter]
    congr 2
    apply List.filter_congr
    intro e he
    rw [par e he, Bool.and_comm]
  have none' : kidsE N (some x) = [] := by
    cases hk : kidsE N (some x) with
    | nil => rfl
    | cons y K =>
      obtain ⟨h1, h2⟩ := mem_kidsE.1 (show y ∈ kidsE N (some x) by rw [hk]; simp)
      obtain ⟨d1, d2⟩ := can_dot (parE_inv h2).2.2
      exact absurd ⟨d1.symm, d2.symm⟩ (hx y h1)
  intro n
  induction n with
  | zero => intro p; rfl
  | succ n ih =>
    intro p
    show (kidsE _ p).flatMap _ = ((kidsE N p).flatMap _).filter _
    rw [kids]
    refine filter_flat (fun y _ hy => ?_) (fun y _ hy => ?_)
    · rw [List.filter_cons, hy, if_pos rfl]
      show y :: treeE (N.filter fun e => decide (e ≠ x)) n (some y) = y :: (treeE N n (some y)).filter _
      rw [ih (some y)]
    · have e1 : y = x := by simpa using hy
      subst e1
      show (y :: treeE N n (some y)).filter _ = []
      rw [tree_none none', List.filter_cons, hy]
      rfl
theorem order_leaf {key : List UInt8} {l : List Ev} (hu : Unlike l) {x : Ev} (hx : ∀ e ∈ l, ¬ (e.rr = x.r ∧ e.rn = x.n)) : orderE key (l.filter fun e => decide (e ≠ x)) = (orderE key l).filter fun e => decide (e ≠ x) := by
  have hn : nodesE key (l.filter fun e => decide (e ≠ x)) = (nodesE key l).filter fun e => decide (e ≠ x) := by
    unfold nodesE
    rw [List.filter_filter, List.filter_filter]
    congr 1
    funext e
    exact Bool.and_comm _ _
  have hl : ((nodesE key l).filter fun e => decide (e ≠ x)).length ≤ (nodesE key l).length := List.length_filter_le _ _
  rw [order_tree (key := key) (l := l.filter fun e => decide (e ≠ x)) (unlike_nodes (hu.filter _)) (n := (nodesE key l).length + 1) (by rw [hn]; omega), order_tree (unlike_nodes hu) (Nat.lt_succ_self _), hn]
  exact tree_leaf' (unlike_nodes hu) (fun e he => hx e (mem_nodes.1 he).1) _ _

/-! ### pushed behind one -/
theorem flat_flat {α : Type} {f : α → List α} {g : α → List α} {f' : α → List α} : ∀ {K : List α}, (∀ y ∈ K, f' y = (f y).flatMap g) → K.flatMap f' = (K.flatMap f).flatMap g
  | [], _ => rfl
  | y :: K, h => by
    rw [List.flatMap_cons, List.flatMap_cons, List.flatMap_append, h y (by simp), flat_flat (fun z hz => h z (by simp [hz]))]
/-- With what was pushed last. -/
def plus (P : Option Ev) (x : Ev) (y : Ev) : List Ev := y :: (if some y = P then [x] else [])
theorem tree_push {N : List Ev} {x : Ev} (hN' : Unlike (N ++ [x])) (hlate : ∀ e ∈ N, laterE x e = true) (hx : ∀ e ∈ N, ¬ (e.rr = x.r ∧ e.rn = x.n)) :
    ∀ (n : Nat) (p : Option Ev), p ≠ some x → rkE N p ≤ n → treeE (N ++ [x]) (n + 1) p = (if p = parE (N ++ [x]) x then [x] else []) ++ (treeE N (n + 1) p).flatMap (plus (parE (N ++ [x]) x) x) := by
  have hN : Unlike N := hN'.sublist (List.sublist_append_left _ _)
  have par : ∀ e ∈ N, parE (N ++ [x]) e = parE N e := fun e he => parE_congr hN' hN (fun y hy => by
    rw [List.mem_append, List.mem_singleton]
    constructor
    · rintro (h | h)
      · exact h
      · subst h
        obtain ⟨d1, d2⟩ := can_dot hy
        exact absurd ⟨d1.symm, d2.symm⟩ (hx e he)
    · exact fun h => .inl h)
  have kids : ∀ p, kidsE (N ++ [x]) p = (if p = parE (N ++ [x]) x then [x] else []) ++ kidsE N p := fun p => by
    unfold kidsE
    have e1 : N.filter (fun e => decide (parE (N ++ [x]) e = p)) = N.filter fun e => decide (parE N e = p) := List.filter_congr (fun e he => by rw [par e he])
    rw [List.filter_append, e1, List.filter_cons, List.filter_nil]
    by_cases hp : p = parE (N ++ [x]) x
    · rw [if_pos hp, if_pos (by rw [decide_eq_true_eq]; exact hp.symm), srt_snoc]
      have h5 := ins_split x (srtE (N.filter fun e => decide (parE N e = p))) [] (fun a ha => by
        have h6 := hlate a (List.mem_filter.1 (srt_mem.1 ha)).1
        exact later_asym h6) (by simp)
      rw [List.append_nil] at h5
      rw [h5, List.reverse_append]
      rfl
    · rw [if_neg hp, if_neg (by rw [decide_eq_true_eq]; exact fun e => hp e.symm), List.append_nil, List.nil_append]
  have nonex : kidsE (N ++ [x]) (some x) = [] := by
    cases hk : kidsE (N ++ [x]) (some x) with
    | nil => rfl
    | cons y K =>
      obtain ⟨h1, h2⟩ := mem_kidsE.1 (show y ∈ kidsE (N ++ [x]) (some x) by rw [hk]; simp)
      obtain ⟨d1, d2⟩ := can_dot (parE_inv h2).2.2
      rcases List.mem_append.1 h1 with h3 | h3
      · exact absurd ⟨d1.symm, d2.symm⟩ (hx y h3)
      · have h4 := can_later (parE_inv h2).2.2
        rw [List.mem_singleton.1 h3, lat_self] at h4
        cases h4
  have xN : x ∉ N := fun h => by
    have := hlate x h
    rw [lat_self] at this
    cases this
  intro n
  induction n with
  | zero =>
    intro p hp hr
    have hk : kidsE N p = [] := by
      cases hk : kidsE N p with
      | nil => rfl
      | cons y K =>
        have := rkE_kid (show y ∈ kidsE N p by rw [hk]; simp)
        omega
    show (kidsE (N ++ [x]) p).flatMap _ = _ ++ ((kidsE N p).flatMap _).flatMap _
    rw [kids p, hk]
    split <;> simp [tree]
  | succ n ih =>
    intro p hp hr
    show (kidsE (N ++ [x]) p).flatMap _ = _ ++ ((kidsE N p).flatMap _).flatMap _
    rw [kids p, List.flatMap_append]
    congr 1
    · split
      · rw [List.flatMap_cons]
        show x :: treeE (N ++ [x]) (n + 1) (some x) ++ [] = [x]
        rw [tree_none nonex]
        rfl
      · rfl
    · refine flat_flat (fun y hy => ?_)
      have hyN := (mem_kidsE.1 hy).1
      have hr2 := rkE_kid hy
      have := ih (some y) (fun e => xN (by rw [← Option.some.inj e]; exact hyN)) (by omega)
      rw [List.flatMap_cons]
      show y :: treeE (N ++ [x]) (n + 1) (some y) = plus (parE (N ++ [x]) x) x y ++ (treeE N (n + 1) (some y)).flatMap (plus (parE (N ++ [x]) x) x)
      rw [this]
      unfold plus
      rw [List.cons_append]
theorem order_push {key : List UInt8} {l : List Ev} {x : Ev} (hk : x.kind = 9 ∧ x.key = key) (hu : Unlike (l ++ [x])) (hlate : ∀ e ∈ l, laterE x e = true) (hx : ∀ e ∈ l, ¬ (e.rr = x.r ∧ e.rn = x.n)) :
    orderE key (l ++ [x]) = (if parE (nodesE key (l ++ [x])) x = none then [x] else []) ++ (orderE key l).flatMap (plus (parE (nodesE key (l ++ [x])) x) x) := by
  have hn : nodesE key (l ++ [x]) = nodesE key l ++ [x] := by
    unfold nodesE nodeE
    rw [List.filter_append, List.filter_cons, hk.1, hk.2]
    simp
  have hu' : Unlike (nodesE key l ++ [x]) := by rw [← hn]; exact unlike_nodes hu
  have hul : Unlike (nodesE key l) := hu'.sublist (List.sublist_append_left _ _)
  rw [order_tree (key := key) (l := l ++ [x]) (unlike_nodes hu) (n := (nodesE key l).length + 1 + 1) (by rw [hn]; simp), order_tree hul (n := (nodesE key l).length + 1 + 1) (by omega), hn]
  have := tree_push hu' (fun e he => hlate e (mem_nodes.1 he).1) (fun e he => hx e (mem_nodes.1 he).1) ((nodesE key l).length + 1) none (by simp) (by show (nodesE key l).length ≤ _; omega)
  rw [this]
  congr 1
  by_cases h : parE (nodesE key l ++ [x]) x = none
  · rw [if_pos h.symm, if_pos h]
  · rw [if_neg (fun e => h e.symm), if_neg h]

/-! ### each once, and behind its parent -/
theorem unlike_nodup {N : List Ev} (h : Unlike N) : N.Nodup := List.Pairwise.imp (fun {a b} (hab : ¬ sameDot a b) (e : a = b) => hab (by rw [e]; exact ⟨rfl, rfl⟩)) h
theorem order_nodup {key : List UInt8} {l : List Ev} (h : Unlike l) : (orderE key l).Nodup := (orderE_perm key l).nodup_iff.2 (unlike_nodup (unlike_nodes h))
theorem order_behind {key : List UInt8} {l A B : List Ev} {y u : Ev} (h : orderE key l = A ++ y :: B) (hp : parE (nodesE key l) y = some u) : u ∈ A := by
  unfold orderE at h
  obtain ⟨A', L, e1, e2, e3⟩ := List.map_eq_append_iff.1 h
  obtain ⟨i, B', e4, e5, e6⟩ := List.map_eq_cons_iff.1 e3
  subst e4
  have hb := tree_behind ((nodesE key l).length + 1) none A' i B' e1
  rw [parE_is] at hp
  have hu : up (nodesE key l) (some i) = parI (nodesE key l) y := by rw [← e5]; rfl
  rcases hb with h1 | ⟨z, hz, h1⟩
  · rw [← hu, h1] at hp
    cases hp
  · rw [← hu, h1] at hp
    rw [← e2, ← Option.some.inj hp]
    exact List.mem_map.2 ⟨z, hz, rfl⟩
end Go.Proofs.Ytagjgamigldjnaa
