/-
  The list's order, plainly: each node once, behind its parent.
-/
import Derived.Test.YtagjgamigldjnaaKpu
namespace Go.Proofs.Ytagjgamigldjnaa
set_option maxRecDepth 100000
open Go.Sort

/-- The parent's place, of a place. -/
def up (N : List Ev) : Option Nat → Option Nat
  | none => none
  | some i => parI N (atN N i)
def ups (N : List Ev) : Nat → Option Nat → Option Nat
  | 0, x => x
  | k + 1, x => ups N k (up N x)
theorem ups_add (N : List Ev) : ∀ (k j : Nat) (x : Option Nat), ups N (k + j) x = ups N j (ups N k x)
  | 0, j, x => by rw [Nat.zero_add]; rfl
  | k + 1, j, x => by
    rw [show k + 1 + j = (k + j) + 1 by omega]
    exact ups_add N k j (up N x)
/-- A place that is there. -/
def There (N : List Ev) : Option Nat → Prop
  | none => True
  | some i => i < N.length
theorem There.up {N : List Ev} {x : Option Nat} (h : There N x) : There N (up N x) := by
  cases x with
  | none => trivial
  | some i =>
    show There N (parI N (atN N i))
    cases hp : parI N (atN N i) with
    | none => trivial
    | some k => exact (par_some hp).1
theorem rk_up {N : List Ev} {x : Option Nat} (h : There N x) : rk N x ≤ rk N (up N x) := by
  cases x with
  | none => exact Nat.le_refl _
  | some i => exact Nat.le_of_lt (rk_kid h rfl)
theorem rk_ups {N : List Ev} : ∀ (k : Nat) {x : Option Nat}, There N x → rk N x ≤ rk N (ups N k x)
  | 0, _, _ => Nat.le_refl _
  | k + 1, _, h => Nat.le_trans (rk_up h) (rk_ups k h.up)
theorem there_kid {N : List Ev} {p : Option Nat} {i : Nat} (h : i ∈ kidsI N p) : There N (some i) := (mem_kids.1 h).1
theorem up_kid {N : List Ev} {p : Option Nat} {i : Nat} (h : i ∈ kidsI N p) : up N (some i) = p := (mem_kids.1 h).2
/-- What stands below p comes to it. -/
theorem tree_ups {N : List Ev} : ∀ (n : Nat) (p : Option Nat) (y : Nat), y ∈ treeI N n p → There N (some y) ∧ ∃ k, ups N (k + 1) (some y) = p
  | 0, p, y, h => by cases h
  | n + 1, p, y, h => by
    obtain ⟨i, hi, hy⟩ := List.mem_flatMap.1 h
    rcases List.mem_cons.1 hy with rfl | hy
    · exact ⟨there_kid hi, 0, up_kid hi⟩
    · obtain ⟨h1, k, hk⟩ := tree_ups n (some i) y hy
      refine ⟨h1, k + 1, ?_⟩
      rw [ups_add N (k + 1) 1, hk]
      exact up_kid hi
theorem kid_not {N : List Ev} {p : Option Nat} {i j k : Nat} (hi : i ∈ kidsI N p) (hj : j ∈ kidsI N p) (h : ups N (k + 1) (some i) = some j) : False := by
  have h1 : ups N k p = some j := by
    have : ups N (k + 1) (some i) = ups N k (up N (some i)) := rfl
    rw [this, up_kid hi] at h
    exact h
  have hp : There N p := by rw [← up_kid hi]; exact (there_kid hi).up
  have h2 := rk_ups k hp
  rw [h1] at h2
  have h3 := rk_kids hj
  omega
theorem kids_nodup (N : List Ev) (p : Option Nat) : (kidsI N p).Pairwise (fun a b => a ≠ b) := (kids_is N p).ord.imp (fun {a b} hab e => by subst e; exact ahd_asym a a hab hab)
theorem tree_nodup {N : List Ev} : ∀ (n : Nat) (p : Option Nat), (treeI N n p).Nodup
  | 0, p => List.Pairwise.nil
  | n + 1, p => by
    show ((kidsI N p).flatMap fun i => i :: treeI N n (some i)).Nodup
    unfold List.Nodup
    rw [List.pairwise_flatMap]
    refine ⟨fun i hi => ?_, ?_⟩
    · refine List.pairwise_cons.2 ⟨fun y hy e => ?_, tree_nodup n (some i)⟩
      subst e
      obtain ⟨h1, k, hk⟩ := tree_ups n (some i) i hy
      exact kid_not hi hi hk
    · refine (List.Pairwise.and_mem.1 (kids_nodup N p)).imp ?_
      rintro i j ⟨hi, hj, hij⟩ x hx y hy e
      subst e
      have anc : ∀ {i : Nat}, x ∈ i :: treeI N n (some i) → ∃ k, ups N k (some x) = some i := fun {i} h => by
        rcases List.mem_cons.1 h with rfl | h
        · exact ⟨0, rfl⟩
        · obtain ⟨-, k, hk⟩ := tree_ups n (some i) x h
          exact ⟨k + 1, hk⟩
      obtain ⟨k, hk⟩ := anc hx
      obtain ⟨l, hl⟩ := anc hy
      rcases Nat.lt_trichotomy k l with h | h | h
      · obtain ⟨d, rfl⟩ : ∃ d, l = k + (d + 1) := ⟨l - k - 1, by omega⟩
        rw [ups_add, hk] at hl
        exact kid_not hi hj hl
      · subst h
        rw [hk] at hl
        exact hij (Option.some.inj hl)
      · obtain ⟨d, rfl⟩ : ∃ d, k = l + (d + 1) := ⟨k - l - 1, by omega⟩
        rw [ups_add, hl] at hk
        exact kid_not hj hi hk
/-- With what stands there, what hangs on it. -/
theorem tree_shut {N : List Ev} : ∀ (n : Nat) (p : Option Nat), rk N p ≤ n → ∀ x ∈ treeI N (n + 1) p, ∀ y ∈ kidsI N (some x), y ∈ treeI N (n + 1) p
  | 0, p, h, x, hx, y, hy => by
    obtain ⟨i, hi, -⟩ := List.mem_flatMap.1 hx
    have := rk_kids hi
    omega
  | n + 1, p, h, x, hx, y, hy => by
    obtain ⟨i, hi, hx⟩ := List.mem_flatMap.1 hx
    have hr := rk_kids hi
    refine List.mem_flatMap.2 ⟨i, hi, List.mem_cons.2 (.inr ?_)⟩
    rcases List.mem_cons.1 hx with rfl | hx
    · exact List.mem_flatMap.2 ⟨y, hy, by simp⟩
    · exact tree_shut n (some i) (by omega) x hx y hy
theorem order_all {N : List Ev} : ∀ (d i : Nat), N.length - rk N (some i) ≤ d → i < N.length → i ∈ orderI N
  | d, i, hd, hi => by
    cases hp : parI N (atN N i) with
    | none => exact List.mem_flatMap.2 ⟨i, mem_kids.2 ⟨hi, hp⟩, by simp⟩
    | some k =>
      have hk := (par_some hp).1
      have hr := rk_kid hi hp
      have hrk := rk_kid hk (rfl : parI N (atN N k) = parI N (atN N k))
      have hrk2 : rk N (some k) ≤ N.length := rk_le N k
      cases d with
      | zero =>
        have : rk N (some i) ≤ N.length := rk_le N i
        omega
      | succ d =>
        have := order_all d k (by omega) hk
        exact tree_shut N.length none (Nat.le_refl _) k this i (mem_kids.2 ⟨hi, hp⟩)
theorem mem_order {N : List Ev} {i : Nat} : i ∈ orderI N ↔ i < N.length := ⟨fun h => (tree_ups _ _ _ h).1, fun h => order_all _ i (Nat.le_refl _) h⟩
theorem order_perm (N : List Ev) : (orderI N).Perm (List.range N.length) := (List.perm_ext_iff_of_nodup (tree_nodup _ _) List.nodup_range).2 (fun _ => (mem_order (N := N)).trans List.mem_range.symm)
theorem order_len (N : List Ev) : (orderI N).length = N.length := by rw [(order_perm N).length_eq, List.length_range]
theorem map_at (N : List Ev) : (List.range N.length).map (atN N) = N := by
  apply List.ext_getElem?
  intro i
  rw [List.getElem?_map]
  by_cases h : i < N.length
  · rw [List.getElem?_range h, atN_some h]; rfl
  · rw [List.getElem?_eq_none (by simp; omega), List.getElem?_eq_none (by omega)]; rfl
theorem orderE_perm (key : List UInt8) (l : List Ev) : (orderE key l).Perm (nodesE key l) := by
  unfold orderE
  have := (order_perm (nodesE key l)).map (atN (nodesE key l))
  rwa [map_at] at this
theorem orderE_len (key : List UInt8) (l : List Ev) : (orderE key l).length = (nodesE key l).length := (orderE_perm key l).length_eq
theorem mem_orderE {key : List UInt8} {l : List Ev} {e : Ev} : e ∈ orderE key l ↔ e ∈ nodesE key l := (orderE_perm key l).mem_iff
theorem treeTo_le {N : List Ev} {n : Nat} {p : Option Nat} (q : Nat) : (treeTo N n (kidsI N p) q).length ≤ (treeI N (n + 1) p).length := by
  unfold treeTo
  have e : treeI N (n + 1) p = ((kidsI N p).take q).flatMap (fun i => i :: treeI N n (some i)) ++ ((kidsI N p).drop q).flatMap (fun i => i :: treeI N n (some i)) := by
    rw [← List.flatMap_append, List.take_append_drop]; rfl
  rw [e, List.length_append]
  omega
/-- Each stands behind its parent. -/
def Behind (N : List Ev) (p : Option Nat) (L : List Nat) : Prop := ∀ A y B, L = A ++ y :: B → up N (some y) = p ∨ ∃ z ∈ A, up N (some y) = some z
theorem Behind.append {N : List Ev} {p : Option Nat} {L M : List Nat} (h : Behind N p L) (k : Behind N p M) : Behind N p (L ++ M) := by
  intro A y B e
  rcases List.append_eq_append_iff.1 e with ⟨C, h1, h2⟩ | ⟨C, h1, h2⟩
  · rcases k C y B h2 with h3 | ⟨z, hz, h3⟩
    · exact .inl h3
    · exact .inr ⟨z, by rw [h1]; exact List.mem_append.2 (.inr hz), h3⟩
  · cases C with
    | nil =>
      rw [List.append_nil] at h1
      subst h1
      rw [List.nil_append] at h2
      rcases k [] y B (by rw [List.nil_append]; exact h2.symm) with h3 | ⟨z, hz, h3⟩
      · exact .inl h3
      · cases hz
    | cons c C =>
      simp only [List.cons_append, List.cons.injEq] at h2
      obtain ⟨rfl, h2⟩ := h2
      exact h A y C h1
theorem tree_behind {N : List Ev} : ∀ (n : Nat) (p : Option Nat), Behind N p (treeI N n p)
  | 0, p => fun A y B e => by cases A <;> cases e
  | n + 1, p => by
    have one : ∀ i ∈ kidsI N p, Behind N p (i :: treeI N n (some i)) := fun i hi A y B e => by
      cases A with
      | nil =>
        simp only [List.nil_append, List.cons.injEq] at e
        obtain ⟨rfl, -⟩ := e
        exact .inl (up_kid hi)
      | cons a A =>
        simp only [List.cons_append, List.cons.injEq] at e
        obtain ⟨rfl, e⟩ := e
        rcases tree_behind n (some i) A y B e with h | ⟨z, hz, h⟩
        · exact .inr ⟨i, by simp, h⟩
        · exact .inr ⟨z, by simp [hz], h⟩
    have all : ∀ K : List Nat, (∀ i ∈ K, i ∈ kidsI N p) → Behind N p (K.flatMap fun i => i :: treeI N n (some i)) := fun K => by
      induction K with
      | nil => intro _ A y B e; cases A <;> cases e
      | cons i K ih =>
        intro h
        rw [List.flatMap_cons]
        exact (one i (h i (by simp))).append (ih (fun j hj => h j (by simp [hj])))
    exact all _ (fun i hi => hi)
end Go.Proofs.Ytagjgamigldjnaa
