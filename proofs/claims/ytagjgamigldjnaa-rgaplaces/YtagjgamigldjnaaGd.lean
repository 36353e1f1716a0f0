/-
  Lists, plainly: a list's nodes, each one's parent, what hangs on it, the list's order; its items.
-/
import Derived.Test.YtagjgamigldjnaaLpu
import Derived.Test.YtagjgamigldjnaaOpe
namespace Go.Proofs.Ytagjgamigldjnaa
open Go.Sort
set_option maxRecDepth 100000

/-! ### lists that rise strictly -/
theorem rises_one {α : Type} {R : α → α → Prop} (asym : ∀ a b, R a b → ¬ R b a) : ∀ {S T : List α}, S.Pairwise R → T.Pairwise R → (∀ x, x ∈ S ↔ x ∈ T) → S = T
  | [], [], _, _, _ => rfl
  | [], t :: T, _, _, h => absurd ((h t).2 (by simp)) (by simp)
  | s :: S, [], _, _, h => absurd ((h s).1 (by simp)) (by simp)
  | s :: S, t :: T, hs, ht, h => by
    obtain ⟨s1, s2⟩ := List.pairwise_cons.1 hs
    obtain ⟨t1, t2⟩ := List.pairwise_cons.1 ht
    have e : s = t := by
      rcases List.mem_cons.1 ((h s).1 (by simp)) with h1 | h1
      · exact h1
      · rcases List.mem_cons.1 ((h t).2 (by simp)) with h2 | h2
        · exact h2.symm
        · exact absurd (s1 t h2) (asym _ _ (t1 s h1))
    subst e
    have irr : ∀ a, ¬ R a a := fun a ha => asym a a ha ha
    rw [rises_one asym s2 t2 (fun x => ?_)]
    constructor
    · intro hx
      rcases List.mem_cons.1 ((h x).1 (by simp [hx])) with h1 | h1
      · subst h1; exact absurd (s1 x hx) (irr x)
      · exact h1
    · intro hx
      rcases List.mem_cons.1 ((h x).2 (by simp [hx])) with h1 | h1
      · subst h1; exact absurd (t1 x hx) (irr x)
      · exact h1

/-! ### nodes and parents -/
def nodeE (key : List UInt8) (e : Ev) : Bool := decide (e.kind = 9) && decide (e.key = key)
def nodesE (key : List UInt8) (l : List Ev) : List Ev := l.filter (nodeE key)
theorem mem_nodes {key : List UInt8} {l : List Ev} {e : Ev} : e ∈ nodesE key l ↔ e ∈ l ∧ e.kind = 9 ∧ e.key = key := by
  unfold nodesE nodeE
  rw [List.mem_filter]
  simp
theorem nodes_len (key : List UInt8) (l : List Ev) : (nodesE key l).length ≤ l.length := List.length_filter_le _ _
def noRef (e : Ev) : Bool := decide (e.rr = 0 ∧ e.rn = 0)
/-- x can be e's parent. -/
def canPar (e x : Ev) : Bool := decide (x.r = e.rr ∧ x.n = e.rn) && laterE e x
def parI (N : List Ev) (e : Ev) : Option Nat := if noRef e then none else N.findIdx? (canPar e)
def parE (N : List Ev) (e : Ev) : Option Ev := if noRef e then none else N.find? (canPar e)
def atN (N : List Ev) (i : Nat) : Ev := N.getD i zv
theorem atN_get {N : List Ev} {i : Nat} {u : Ev} (h : N[i]? = some u) : atN N i = u := by unfold atN; rw [List.getD_eq_getElem?_getD, h]; rfl
theorem atN_some {N : List Ev} {i : Nat} (h : i < N.length) : N[i]? = some (atN N i) := by
  rw [List.getElem?_eq_getElem h, atN_get (List.getElem?_eq_getElem h)]
theorem atN_mem {N : List Ev} {i : Nat} (h : i < N.length) : atN N i ∈ N := List.mem_of_getElem? (atN_some h)
theorem later_asym {a b : Ev} (h : laterE a b = true) : laterE b a = false := by
  cases h2 : laterE b a
  · rfl
  · exact absurd (swo_asym ltE_swo (show ltE b a = true from h)) (by rw [show ltE a b = true from h2]; simp)
theorem lat_tr {a b c : Ev} (h1 : laterE a b = true) (h2 : laterE b c = true) : laterE a c = true := ltE_swo.trans c b a h2 h1
theorem later_ntrans {a b c : Ev} (h1 : laterE a b = false) (h2 : laterE b c = false) : laterE a c = false := ltE_swo.ntrans c b a h2 h1
theorem lat_self (a : Ev) : laterE a a = false := ltE_swo.irrefl a
theorem later_or {a b : Ev} (h : ¬ sameDot a b) : laterE a b = true ∨ laterE b a = true := by
  cases h1 : laterE a b
  · cases h2 : laterE b a
    · exact absurd (eqv_dot (eqv_iff.2 ⟨show ltE a b = false from h2, show ltE b a = false from h1⟩)) h
    · exact .inr rfl
  · exact .inl rfl
theorem par_some {N : List Ev} {e : Ev} {k : Nat} (h : parI N e = some k) : k < N.length ∧ canPar e (atN N k) = true ∧ noRef e = false ∧ ∀ j, j < k → canPar e (atN N j) = false := by
  unfold parI at h
  cases hr : noRef e
  · rw [hr] at h
    simp only [Bool.false_eq_true, if_false] at h
    obtain ⟨h1, h2, h3⟩ := List.findIdx?_eq_some_iff_getElem.1 h
    refine ⟨h1, by rw [atN_get (List.getElem?_eq_getElem h1)]; exact h2, rfl, fun j hj => ?_⟩
    rw [atN_get (List.getElem?_eq_getElem (Nat.lt_trans hj h1))]
    simpa using h3 j hj
  · rw [hr] at h; simp at h
theorem par_later {N : List Ev} {e : Ev} {k : Nat} (h : parI N e = some k) : laterE e (atN N k) = true := by
  have := (par_some h).2.1
  unfold canPar at this
  rw [Bool.and_eq_true] at this
  exact this.2
theorem par_is {N : List Ev} {e : Ev} {k : Nat} (hr : noRef e = false) (hk : k < N.length) (h1 : canPar e (atN N k) = true) (h2 : ∀ j, j < k → canPar e (atN N j) = false) : parI N e = some k := by
  unfold parI
  rw [hr]
  simp only [Bool.false_eq_true, if_false]
  refine List.findIdx?_eq_some_iff_getElem.2 ⟨hk, by rw [atN_get (List.getElem?_eq_getElem hk)] at h1; exact h1, fun j hj => ?_⟩
  have := h2 j hj
  rw [atN_get (List.getElem?_eq_getElem (Nat.lt_trans hj hk))] at this
  simpa using this
theorem par_no {N : List Ev} {e : Ev} (h : noRef e = true ∨ ∀ j, j < N.length → canPar e (atN N j) = false) : parI N e = none := by
  unfold parI
  cases hr : noRef e
  · simp only [Bool.false_eq_true, if_false]
    rw [List.findIdx?_eq_none_iff]
    intro x hx
    rcases h with h | h
    · rw [hr] at h; cases h
    · obtain ⟨j, hj, rfl⟩ := List.mem_iff_getElem.1 hx
      have := h j hj
      rwa [atN_get (List.getElem?_eq_getElem hj)] at this
  · rfl
/-- What stands ahead of what, of those that hang on one. -/
def Ahd (N : List Ev) (i j : Nat) : Prop := laterE (atN N i) (atN N j) = true ∨ (laterE (atN N j) (atN N i) = false ∧ i < j)
theorem ahd_asym {N : List Ev} (i j : Nat) (h : Ahd N i j) : ¬ Ahd N j i := by
  rintro h2
  rcases h with h | ⟨h, h'⟩ <;> rcases h2 with h2 | ⟨h2, h2'⟩
  · rw [later_asym h] at h2; cases h2
  · rw [h] at h2; cases h2
  · rw [h] at h2; cases h2
  · omega
theorem ahd_or {N : List Ev} {i j : Nat} (h : i < j) : Ahd N i j ∨ laterE (atN N j) (atN N i) = true := by
  cases h1 : laterE (atN N j) (atN N i)
  · exact .inl (.inr ⟨h1, h⟩)
  · exact .inr rfl
/-- What hangs on p, of the first m nodes. -/
structure KidsTo (N : List Ev) (p : Option Nat) (m : Nat) (K : List Nat) : Prop where
  ord : K.Pairwise (Ahd N)
  mem : ∀ i, i ∈ K ↔ i < m ∧ parI N (atN N i) = p
theorem KidsTo.one {N : List Ev} {p : Option Nat} {m : Nat} {K L : List Nat} (h : KidsTo N p m K) (k : KidsTo N p m L) : K = L := rises_one ahd_asym h.ord k.ord (fun x => (h.mem x).trans (k.mem x).symm)
theorem KidsTo.none (N : List Ev) (p : Option Nat) : KidsTo N p 0 [] := ⟨List.Pairwise.nil, fun i => by simp⟩
theorem KidsTo.skip {N : List Ev} {p : Option Nat} {m : Nat} {K : List Nat} (h : KidsTo N p m K) (hp : parI N (atN N m) ≠ p) : KidsTo N p (m + 1) K := ⟨h.ord, fun i => by
  rw [h.mem i]
  constructor
  · rintro ⟨h1, h2⟩; exact ⟨by omega, h2⟩
  · rintro ⟨h1, h2⟩
    by_cases e : i = m
    · subst e; exact absurd h2 hp
    · exact ⟨by omega, h2⟩⟩
theorem KidsTo.put {N : List Ev} {p : Option Nat} {m q : Nat} {K : List Nat} (h : KidsTo N p m K) (hp : parI N (atN N m) = p) (hq : ∀ i ∈ K.take q, laterE (atN N m) (atN N i) = false) (hr : ∀ i ∈ K.drop q, laterE (atN N m) (atN N i) = true) : KidsTo N p (m + 1) (K.take q ++ m :: K.drop q) := by
  have ho := h.ord
  rw [← List.take_append_drop q K, List.pairwise_append] at ho
  obtain ⟨o1, o2, o3⟩ := ho
  have lt : ∀ i ∈ K, i < m := fun i hi => ((h.mem i).1 hi).1
  refine ⟨?_, fun i => ?_⟩
  · rw [List.pairwise_append]
    refine ⟨o1, List.pairwise_cons.2 ⟨fun b hb => .inl (hr b hb), o2⟩, fun a ha b hb => ?_⟩
    rcases List.mem_cons.1 hb with rfl | hb
    · exact .inr ⟨hq a ha, lt a (List.mem_of_mem_take ha)⟩
    · exact o3 a ha b hb
  · have : i ∈ K.take q ++ m :: K.drop q ↔ i = m ∨ i ∈ K := by
      have e : i ∈ K ↔ i ∈ K.take q ∨ i ∈ K.drop q := by rw [← List.mem_append, List.take_append_drop]
      rw [List.mem_append, List.mem_cons, e]
      constructor
      · rintro (h | h | h)
        · exact .inr (.inl h)
        · exact .inl h
        · exact .inr (.inr h)
      · rintro (h | h | h)
        · exact .inr (.inl h)
        · exact .inl h
        · exact .inr (.inr h)
    rw [this, h.mem i]
    constructor
    · rintro (rfl | ⟨h1, h2⟩)
      · exact ⟨by omega, hp⟩
      · exact ⟨by omega, h2⟩
    · rintro ⟨h1, h2⟩
      by_cases e : i = m
      · exact .inl e
      · exact .inr ⟨by omega, h2⟩
/-- those behind the first that is earlier are earlier -/
theorem kids_falls {N : List Ev} {K : List Nat} (h : K.Pairwise (Ahd N)) {u : Ev} {q : Nat} {i : Nat} (hi : K[q]? = some i) (hn : laterE u (atN N i) = false) : ∀ j ∈ K.take (q + 1), laterE u (atN N j) = false := by
  intro j hj
  obtain ⟨t, ht, e⟩ := List.mem_iff_getElem.1 hj
  have hq := (List.getElem?_eq_some_iff.1 hi).1
  have ht' : t < q + 1 := by simp at ht; omega
  rw [List.getElem_take] at e
  rcases Nat.lt_or_ge t q with h1 | h1
  · have := List.pairwise_iff_getElem.1 h t q (by omega) hq h1
    rw [e, (List.getElem?_eq_some_iff.1 hi).2] at this
    rcases this with h2 | ⟨h2, _⟩
    · cases h3 : laterE u (atN N j)
      · rfl
      · rw [lat_tr h3 h2] at hn; cases hn
    · exact later_ntrans hn h2
  · have : t = q := by omega
    subst this
    rw [(List.getElem?_eq_some_iff.1 hi).2] at e
    rw [← e]; exact hn
def insI (N : List Ev) (m : Nat) : List Nat → List Nat
  | [] => [m]
  | x :: S => if laterE (atN N m) (atN N x) then m :: x :: S else x :: insI N m S
theorem insI_at (N : List Ev) (m : Nat) : ∀ K : List Nat, K.Pairwise (Ahd N) → ∃ q, insI N m K = K.take q ++ m :: K.drop q ∧ (∀ i ∈ K.take q, laterE (atN N m) (atN N i) = false) ∧ ∀ i ∈ K.drop q, laterE (atN N m) (atN N i) = true
  | [], _ => ⟨0, rfl, by simp, by simp⟩
  | x :: S, h => by
    obtain ⟨h1, h2⟩ := List.pairwise_cons.1 h
    cases hx : laterE (atN N m) (atN N x)
    · obtain ⟨q, e, e1, e2⟩ := insI_at N m S h2
      refine ⟨q + 1, by rw [insI, hx]; simp [e], fun i hi => ?_, by simpa using e2⟩
      rw [List.take_succ_cons, List.mem_cons] at hi
      rcases hi with rfl | hi
      · exact hx
      · exact e1 i hi
    · refine ⟨0, by rw [insI, hx]; simp, by simp, fun i hi => ?_⟩
      rw [List.drop_zero, List.mem_cons] at hi
      rcases hi with rfl | hi
      · exact hx
      · rcases h1 i hi with h3 | ⟨h3, _⟩
        · exact lat_tr hx h3
        · exact swo_le_lt (lt := ltE) ltE_swo (show ltE (atN N x) (atN N i) = false from h3) (show ltE (atN N x) (atN N m) = true from hx)
def kidsTo (N : List Ev) (p : Option Nat) : Nat → List Nat
  | 0 => []
  | m + 1 => if parI N (atN N m) = p then insI N m (kidsTo N p m) else kidsTo N p m
theorem kidsTo_is (N : List Ev) (p : Option Nat) : ∀ m, KidsTo N p m (kidsTo N p m)
  | 0 => KidsTo.none N p
  | m + 1 => by
    have ih := kidsTo_is N p m
    unfold kidsTo
    split
    · rename_i hp
      obtain ⟨q, e, e1, e2⟩ := insI_at N m _ ih.ord
      rw [e]
      exact ih.put hp e1 e2
    · rename_i hp
      exact ih.skip hp
def kidsI (N : List Ev) (p : Option Nat) : List Nat := kidsTo N p N.length
theorem kids_is (N : List Ev) (p : Option Nat) : KidsTo N p N.length (kidsI N p) := kidsTo_is N p N.length
theorem mem_kids {N : List Ev} {p : Option Nat} {i : Nat} : i ∈ kidsI N p ↔ i < N.length ∧ parI N (atN N i) = p := (kids_is N p).mem i

/-! ### trees -/
def tree {α : Type} (kids : Option α → List α) : Nat → Option α → List α
  | 0, _ => []
  | n + 1, p => (kids p).flatMap fun i => i :: tree kids n (some i)
abbrev treeI (N : List Ev) (n : Nat) (p : Option Nat) : List Nat := tree (kidsI N) n p
def orderI (N : List Ev) : List Nat := treeI N (N.length + 1) none
def orderE (key : List UInt8) (l : List Ev) : List Ev := (orderI (nodesE key l)).map (atN (nodesE key l))
def itemsE (key : List UInt8) (l : List Ev) : List Ev := (orderE key l).filter (isLive l)
/-- How many are later. -/
def rk (N : List Ev) : Option Nat → Nat
  | none => N.length
  | some i => (N.filter fun x => laterE x (atN N i)).length
theorem filter_lt {α : Type} {p q : α → Bool} : ∀ {l : List α}, (∀ x ∈ l, p x = true → q x = true) → ∀ {y : α}, y ∈ l → p y = false → q y = true → (l.filter p).length < (l.filter q).length
  | [], _, y, hy, _, _ => by cases hy
  | x :: l, h, y, hy, h1, h2 => by
    have hle : (l.filter p).length ≤ (l.filter q).length := by
      clear hy
      have h' : ∀ x ∈ l, p x = true → q x = true := fun x hx => h x (by simp [hx])
      clear h
      induction l with
      | nil => simp
      | cons z l ih =>
        have i2 := ih (fun x hx => h' x (by simp [hx]))
        have hz := h' z (by simp)
        rw [List.filter_cons, List.filter_cons]
        cases hp : p z
        · simp only [Bool.false_eq_true, if_false]
          split <;> (try simp only [List.length_cons]) <;> omega
        · rw [hz hp]
          simp only [if_true, List.length_cons]
          omega
    rw [List.filter_cons, List.filter_cons]
    rcases List.mem_cons.1 hy with rfl | hy
    · rw [h1, h2]
      simp only [Bool.false_eq_true, if_false, if_true, List.length_cons]
      omega
    · have i2 := filter_lt (fun x hx => h x (by simp [hx])) hy h1 h2
      cases hp : p x
      · simp only [Bool.false_eq_true, if_false]
        split <;> (try simp only [List.length_cons]) <;> omega
      · rw [h x (by simp) hp]
        simp only [if_true, List.length_cons]
        omega
theorem rk_le (N : List Ev) (i : Nat) : rk N (some i) ≤ N.length := List.length_filter_le _ _
theorem rk_kid {N : List Ev} {p : Option Nat} {i : Nat} (hi : i < N.length) (h : parI N (atN N i) = p) : rk N (some i) < rk N p := by
  cases p with
  | none =>
    have h1 : (N.filter fun _ => true).length = N.length := by simp
    show (N.filter fun x => laterE x (atN N i)).length < N.length
    refine Nat.lt_of_lt_of_eq (filter_lt (q := fun _ => true) (fun _ _ _ => rfl) (atN_mem hi) (lat_self _) rfl) h1
  | some k =>
    have hl := par_later h
    exact filter_lt (p := fun x => laterE x (atN N i)) (q := fun x => laterE x (atN N k)) (fun x _ hx => lat_tr hx hl) (atN_mem hi) (lat_self _) hl
theorem rk_kids {N : List Ev} {p : Option Nat} {i : Nat} (h : i ∈ kidsI N p) : rk N (some i) < rk N p := rk_kid (mem_kids.1 h).1 (mem_kids.1 h).2
theorem flatMap_congr' {α β : Type} {f g : α → List β} : ∀ {l : List α}, (∀ x ∈ l, f x = g x) → l.flatMap f = l.flatMap g
  | [], _ => rfl
  | x :: l, h => by rw [List.flatMap_cons, List.flatMap_cons, h x (by simp), flatMap_congr' (fun y hy => h y (by simp [hy]))]
theorem tree_more {N : List Ev} : ∀ (n m : Nat) (p : Option Nat), rk N p < n → rk N p < m → treeI N n p = treeI N m p
  | 0, m, p, h, _ => by omega
  | n + 1, 0, p, _, h => by omega
  | n + 1, m + 1, p, h1, h2 => by
    show (kidsI N p).flatMap _ = (kidsI N p).flatMap _
    refine flatMap_congr' (fun i hi => ?_)
    have := rk_kids hi
    exact congrArg (i :: ·) (tree_more n m (some i) (by omega) (by omega))
theorem order_fuel {N : List Ev} {n : Nat} (h : N.length < n) : treeI N n none = orderI N := tree_more n _ none h (Nat.lt_succ_self _)
/-- with no more fuel than is needed -/
theorem tree_leaf {N : List Ev} {p : Option Nat} (h : rk N p = 0) : kidsI N p = [] := by
  cases hk : kidsI N p with
  | nil => rfl
  | cons i K =>
    have := rk_kids (show i ∈ kidsI N p by rw [hk]; simp)
    omega
/-- up to a node among those that hang on one -/
def treeTo (N : List Ev) (n : Nat) (K : List Nat) (q : Nat) : List Nat := (K.take q).flatMap fun i => i :: treeI N n (some i)
theorem treeTo_zero (N : List Ev) (n : Nat) (K : List Nat) : treeTo N n K 0 = [] := rfl
theorem treeTo_succ {N : List Ev} {n : Nat} {K : List Nat} {q i : Nat} (h : K[q]? = some i) : treeTo N n K (q + 1) = treeTo N n K q ++ i :: treeI N n (some i) := by
  unfold treeTo
  rw [List.take_add_one, h, List.flatMap_append]
  simp
theorem treeTo_all {N : List Ev} {n : Nat} {p : Option Nat} {q : Nat} (h : (kidsI N p).length ≤ q) : treeTo N n (kidsI N p) q = treeI N (n + 1) p := by
  unfold treeTo
  rw [List.take_of_length_le h]
  rfl
end Go.Proofs.Ytagjgamigldjnaa

namespace Go.Proofs.Ytagjgamigldjnaa
set_option maxRecDepth 100000
open Go.Sort

/-- The parent's place, of a place. -/
def up (N : List Ev) : Option Nat → Option Nat
  | none => none
  | some i => parI N (atN N i)
def ups (N : List Ev) : Nat → Option Nat → Option Nat
  | 0, x => x
  | k + 1, x => ups N k (up N x)
theorem ups_add (N : List Ev) : ∀ (k j : Nat) (x : Option Nat), ups N (k + j) x = ups N j (ups N k x)
  | 0, j, x => by rw [Nat.zero_add]; rfl
  | k + 1, j, x => by
    rw [show k + 1 + j = (k + j) + 1 by omega]
    exact ups_add N k j (up N x)
/-- A place that is there. -/
def There (N : List Ev) : Option Nat → Prop
  | none => True
  | some i => i < N.length
theorem There.up {N : List Ev} {x : Option Nat} (h : There N x) : There N (up N x) := by
  cases x with
  | none => trivial
  | some i =>
    show There N (parI N (atN N i))
    cases hp : parI N (atN N i) with
    | none => trivial
    | some k => exact (par_some hp).1
theorem rk_up {N : List Ev} {x : Option Nat} (h : There N x) : rk N x ≤ rk N (up N x) := by
  cases x with
  | none => exact Nat.le_refl _
  | some i => exact Nat.le_of_lt (rk_kid h rfl)
theorem rk_ups {N : List Ev} : ∀ (k : Nat) {x : Option Nat}, There N x → rk N x ≤ rk N (ups N k x)
  | 0, _, _ => Nat.le_refl _
  | k + 1, _, h => Nat.le_trans (rk_up h) (rk_ups k h.up)
theorem there_kid {N : List Ev} {p : Option Nat} {i : Nat} (h : i ∈ kidsI N p) : There N (some i) := (mem_kids.1 h).1
theorem up_kid {N : List Ev} {p : Option Nat} {i : Nat} (h : i ∈ kidsI N p) : up N (some i) = p := (mem_kids.1 h).2
/-- What stands below p comes to it. -/
theorem tree_ups {N : List Ev} : ∀ (n : Nat) (p : Option Nat) (y : Nat), y ∈ treeI N n p → There N (some y) ∧ ∃ k, ups N (k + 1) (some y) = p
  | 0, p, y, h => by cases h
  | n + 1, p, y, h => by
    obtain ⟨i, hi, hy⟩ := List.mem_flatMap.1 h
    rcases List.mem_cons.1 hy with rfl | hy
    · exact ⟨there_kid hi, 0, up_kid hi⟩
    · obtain ⟨h1, k, hk⟩ := tree_ups n (some i) y hy
      refine ⟨h1, k + 1, ?_⟩
      rw [ups_add N (k + 1) 1, hk]
      exact up_kid hi
theorem kid_not {N : List Ev} {p : Option Nat} {i j k : Nat} (hi : i ∈ kidsI N p) (hj : j ∈ kidsI N p) (h : ups N (k + 1) (some i) = some j) : False := by
  have h1 : ups N k p = some j := by
    have : ups N (k + 1) (some i) = ups N k (up N (some i)) := rfl
    rw [this, up_kid hi] at h
    exact h
  have hp : There N p := by rw [← up_kid hi]; exact (there_kid hi).up
  have h2 := rk_ups k hp
  rw [h1] at h2
  have h3 := rk_kids hj
  omega
theorem kids_nodup (N : List Ev) (p : Option Nat) : (kidsI N p).Pairwise (fun a b => a ≠ b) := (kids_is N p).ord.imp (fun {a b} hab e => by subst e; exact ahd_asym a a hab hab)
theorem tree_nodup {N : List Ev} : ∀ (n : Nat) (p : Option Nat), (treeI N n p).Nodup
  | 0, p => List.Pairwise.nil
  | n + 1, p => by
    show ((kidsI N p).flatMap fun i => i :: treeI N n (some i)).Nodup
    unfold List.Nodup
    rw [List.pairwise_flatMap]
    refine ⟨fun i hi => ?_, ?_⟩
    · refine List.pairwise_cons.2 ⟨fun y hy e => ?_, tree_nodup n (some i)⟩
      subst e
      obtain ⟨h1, k, hk⟩ := tree_ups n (some i) i hy
      exact kid_not hi hi hk
    · refine (List.Pairwise.and_mem.1 (kids_nodup N p)).imp ?_
      rintro i j ⟨hi, hj, hij⟩ x hx y hy e
      subst e
      have anc : ∀ {i : Nat}, x ∈ i :: treeI N n (some i) → ∃ k, ups N k (some x) = some i := fun {i} h => by
        rcases List.mem_cons.1 h with rfl | h
        · exact ⟨0, rfl⟩
        · obtain ⟨-, k, hk⟩ := tree_ups n (some i) x h
          exact ⟨k + 1, hk⟩
      obtain ⟨k, hk⟩ := anc hx
      obtain ⟨l, hl⟩ := anc hy
      rcases Nat.lt_trichotomy k l with h | h | h
      · obtain ⟨d, rfl⟩ : ∃ d, l = k + (d + 1) := ⟨l - k - 1, by omega⟩
        rw [ups_add, hk] at hl
        exact kid_not hi hj hl
      · subst h
        rw [hk] at hl
        exact hij (Option.some.inj hl)
      · obtain ⟨d, rfl⟩ : ∃ d, k = l + (d + 1) := ⟨k - l - 1, by omega⟩
        rw [ups_add, hl] at hk
        exact kid_not hj hi hk
/-- With what stands there, what hangs on it. -/
theorem tree_shut {N : List Ev} : ∀ (n : Nat) (p : Option Nat), rk N p ≤ n → ∀ x ∈ treeI N (n + 1) p, ∀ y ∈ kidsI N (some x), y ∈ treeI N (n + 1) p
  | 0, p, h, x, hx, y, hy => by
    obtain ⟨i, hi, -⟩ := List.mem_flatMap.1 hx
    have := rk_kids hi
    omega
  | n + 1, p, h, x, hx, y, hy => by
    obtain ⟨i, hi, hx⟩ := List.mem_flatMap.1 hx
    have hr := rk_kids hi
    refine List.mem_flatMap.2 ⟨i, hi, List.mem_cons.2 (.inr ?_)⟩
    rcases List.mem_cons.1 hx with rfl | hx
    · exact List.mem_flatMap.2 ⟨y, hy, by simp⟩
    · exact tree_shut n (some i) (by omega) x hx y hy
theorem order_all {N : List Ev} : ∀ (d i : Nat), N.length - rk N (some i) ≤ d → i < N.length → i ∈ orderI N
  | d, i, hd, hi => by
    cases hp : parI N (atN N i) with
    | none => exact List.mem_flatMap.2 ⟨i, mem_kids.2 ⟨hi, hp⟩, by simp⟩
    | some k =>
      have hk := (par_some hp).1
      have hr := rk_kid hi hp
      have hrk := rk_kid hk (rfl : parI N (atN N k) = parI N (atN N k))
      have hrk2 : rk N (some k) ≤ N.length := rk_le N k
      cases d with
      | zero =>
        have : rk N (some i) ≤ N.length := rk_le N i
        omega
      | succ d =>
        have := order_all d k (by omega) hk
        exact tree_shut N.length none (Nat.le_refl _) k this i (mem_kids.2 ⟨hi, hp⟩)
theorem mem_order {N : List Ev} {i : Nat} : i ∈ orderI N ↔ i < N.length := ⟨fun h => (tree_ups _ _ _ h).1, fun h => order_all _ i (Nat.le_refl _) h⟩
theorem order_perm (N : List Ev) : (orderI N).Perm (List.range N.length) := (List.perm_ext_iff_of_nodup (tree_nodup _ _) List.nodup_range).2 (fun _ => (mem_order (N := N)).trans List.mem_range.symm)
theorem order_len (N : List Ev) : (orderI N).length = N.length := by rw [(order_perm N).length_eq, List.length_range]
theorem map_at (N : List Ev) : (List.range N.length).map (atN N) = N := by
  apply List.ext_getElem?
  intro i
  rw [List.getElem?_map]
  by_cases h : i < N.length
  · rw [List.getElem?_range h, atN_some h]; rfl
  · rw [List.getElem?_eq_none (by simp; omega), List.getElem?_eq_none (by omega)]; rfl
theorem orderE_perm (key : List UInt8) (l : List Ev) : (orderE key l).Perm (nodesE key l) := by
  unfold orderE
  have := (order_perm (nodesE key l)).map (atN (nodesE key l))
  rwa [map_at] at this
theorem orderE_len (key : List UInt8) (l : List Ev) : (orderE key l).length = (nodesE key l).length := (orderE_perm key l).length_eq
theorem mem_orderE {key : List UInt8} {l : List Ev} {e : Ev} : e ∈ orderE key l ↔ e ∈ nodesE key l := (orderE_perm key l).mem_iff
theorem treeTo_le {N : List Ev} {n : Nat} {p : Option Nat} (q : Nat) : (treeTo N n (kidsI N p) q).length ≤ (treeI N (n + 1) p).length := by
  unfold treeTo
  have e : treeI N (n + 1) p = ((kidsI N p).take q).flatMap (fun i => i :: treeI N n (some i)) ++ ((kidsI N p).drop q).flatMap (fun i => i :: treeI N n (some i)) := by
    rw [← List.flatMap_append, List.take_append_drop]; rfl
  rw [e, List.length_append]
  omega
/-- Each stands behind its parent. -/
def Behind (N : List Ev) (p : Option Nat) (L : List Nat) : Prop := ∀ A y B, L = A ++ y :: B → up N (some y) = p ∨ ∃ z ∈ A, up N (some y) = some z
theorem Behind.append {N : List Ev} {p : Option Nat} {L M : List Nat} (h : Behind N p L) (k : Behind N p M) : Behind N p (L ++ M) := by
  intro A y B e
  rcases List.append_eq_append_iff.1 e with ⟨C, h1, h2⟩ | ⟨C, h1, h2⟩
  · rcases k C y B h2 with h3 | ⟨z, hz, h3⟩
    · exact .inl h3
    · exact .inr ⟨z, by rw [h1]; exact List.mem_append.2 (.inr hz), h3⟩
  · cases C with
    | nil =>
      rw [List.append_nil] at h1
      subst h1
      rw [List.nil_append] at h2
      rcases k [] y B (by rw [List.nil_append]; exact h2.symm) with h3 | ⟨z, hz, h3⟩
      · exact .inl h3
      · cases hz
    | cons c C =>
      simp only [List.cons_append, List.cons.injEq] at h2
      obtain ⟨rfl, h2⟩ := h2
      exact h A y C h1
theorem tree_behind {N : List Ev} : ∀ (n : Nat) (p : Option Nat), Behind N p (treeI N n p)
  | 0, p => fun A y B e => by cases A <;> cases e
  | n + 1, p => by
    have one : ∀ i ∈ kidsI N p, Behind N p (i :: treeI N n (some i)) := fun i hi A y B e => by
      cases A with
      | nil =>
        simp only [List.nil_append, List.cons.injEq] at e
        obtain ⟨rfl, -⟩ := e
        exact .inl (up_kid hi)
      | cons a A =>
        simp only [List.cons_append, List.cons.injEq] at e
        obtain ⟨rfl, e⟩ := e
        rcases tree_behind n (some i) A y B e with h | ⟨z, hz, h⟩
        · exact .inr ⟨i, by simp, h⟩
        · exact .inr ⟨z, by simp [hz], h⟩
    have all : ∀ K : List Nat, (∀ i ∈ K, i ∈ kidsI N p) → Behind N p (K.flatMap fun i => i :: treeI N n (some i)) := fun K => by
      induction K with
      | nil => intro _ A y B e; cases A <;> cases e
      | cons i K ih =>
        intro h
        rw [List.flatMap_cons]
        exact (one i (h i (by simp))).append (ih (fun j hj => h j (by simp [hj])))
    exact all _ (fun i hi => hi)
end Go.Proofs.Ytagjgamigldjnaa
