/-
  What BagOrder comes to.
-/
import Derived.Test.YteihijejohgfpaaBgn
import Derived.BigQuiet
namespace Go.Proofs.Yteihijejohgfpaa
open Go.RowKit

section
variable {α : Type}
theorem hasD_put (S : List (It α)) (d : It α) (r n : Int) : hasD (put S d) r n = (hasD S r n || isAt r n d) := by
  rw [Bool.eq_iff_iff, Bool.or_eq_true, hasD_iff, hasD_iff, isAt_iff]
  constructor
  · rintro ⟨i, hi, h⟩
    rcases mem_put.1 hi with rfl | ⟨hi, -⟩
    · exact .inr h
    · exact .inl ⟨i, hi, h⟩
  · rintro (⟨i, hi, h⟩ | h)
    · cases hh : isAt d.r d.n i
      · exact ⟨i, mem_put.2 (.inr ⟨hi, hh⟩), h⟩
      · rw [isAt_iff] at hh
        exact ⟨d, mem_put.2 (.inl rfl), by omega, by omega⟩
    · exact ⟨d, mem_put.2 (.inl rfl), h⟩
theorem hasD_puts (l : List (It α)) (r n : Int) : hasD (puts l) r n = hasD l r n := by
  unfold puts
  suffices h : ∀ (l S : List (It α)), hasD (l.foldl put S) r n = (hasD S r n || hasD l r n) from by rw [h]; rfl
  intro l
  induction l with
  | nil => intro S; simp [hasD]
  | cons a l ih =>
    intro S
    rw [List.foldl_cons, ih, hasD_put]
    simp [hasD, Bool.or_assoc]
theorem hasD_take {E : List (It α)} {k : Nat} {i : It α} (hi : E[k]? = some i) (r n : Int) : hasD (E.take (k + 1)) r n = (hasD (E.take k) r n || isAt r n i) := by
  rw [List.take_add_one, hi]
  simp [hasD]
theorem find_puts_same {E : List (It α)} {k : Nat} {i : It α} (hi : E[k]? = some i) {r n : Int} (h : i.r = r ∧ i.n = n) : find (puts (E.take (k + 1))) r n = some i := by
  obtain ⟨rfl, rfl⟩ := h
  rw [puts_take hi]; exact find_put_same (Srt.puts _) i
theorem find_puts_other {E : List (It α)} {k : Nat} {i : It α} (hi : E[k]? = some i) {r n : Int} (h : ¬ (i.r = r ∧ i.n = n)) : find (puts (E.take (k + 1))) r n = find (puts (E.take k)) r n := by
  rw [puts_take hi]; exact find_put_other (Srt.puts _) (fun e => h ⟨e.1.symm, e.2.symm⟩)
theorem put_front {S : List (It α)} {d : It α} (h : ∀ i ∈ S, bef d i = true) : put S d = d :: S := by
  unfold put
  rw [List.filter_eq_nil_iff.2 (fun i hi => by rw [bef_asymm (h i hi)]; simp), List.filter_eq_self.2 h]; rfl
theorem put_drop {S : List (It α)} (hS : Srt S) {k : Nat} {d : It α} (hd : S[k]? = some d) : put (S.drop (k + 1)) d = S.drop k := by
  obtain ⟨hk, e⟩ := List.getElem?_eq_some_iff.1 hd
  rw [List.drop_eq_getElem_cons hk, e]
  refine put_front fun i hi => ?_
  have h2 : Srt (S.drop k) := List.Pairwise.sublist (List.drop_sublist k S) hS
  rw [List.drop_eq_getElem_cons hk, e] at h2
  exact (List.pairwise_cons.1 h2).1 i hi
theorem srt_next {S : List (It α)} (hS : Srt S) {k : Nat} {a b : It α} (ha : S[k]? = some a) (hb : S[k + 1]? = some b) : bef a b = true := by
  obtain ⟨hk, e⟩ := List.getElem?_eq_some_iff.1 ha
  obtain ⟨hk', e'⟩ := List.getElem?_eq_some_iff.1 hb
  have := List.pairwise_iff_getElem.1 hS k (k + 1) hk hk' (by omega)
  rw [e, e'] at this; exact this
end

theorem Obg.drewN {B : Nat} {w : World} {g : Nat} {m : Option Nat} {S : List (It Int)} (h : Obg B w g m S) (n : Nat) : Obg B (w.drewN n) g m S := by
  have e : (w.drewN n).heap = w.heap := by simp
  exact ⟨h.bg.kept fun _ _ _ => by rw [e], h.low, h.own⟩
theorem Rw.turn {e : TypeId} {w w' : World} {base g : Nat} {m m' : Option Nat} {v : Value} {S : List (It Int)} (h : Rw e w base v S) (t : Turn g m m' w w') (hg : g < base) (hm : ∀ d, v.ownBlock = some d → m ≠ some d) : Rw e w' base v S :=
  h.keep fun k hk => t.block k (h.lt k hk).2 (by have := (h.lt k hk).1; omega) (hm k hk)
/-- Which stands ahead? -/
theorem before_any (r n r' n' : Int) (w : World) : Calls Try.prog 29 #[.agg (dotc r n), .agg (dotc r' n')] w fun e w' => e = .returned (.bool (decide (r < r' ∨ (r = r' ∧ n < n')))) ∧ Below w.heap.size w w' := by
  have hb0 : Below w.heap.size w ((w.alloc (.cells (dotc r n) 34)).alloc (.cells (dotc r' n') 34)) := ((Below.refl _ _).alloc (Nat.le_refl _) _).alloc (by simp) _
  have hD : LiesD ((w.alloc (.cells (dotc r n) 34)).alloc (.cells (dotc r' n') 34)) w.heap.size r n := (liesD_new w r n).alloc _
  have hD' : LiesD ((w.alloc (.cells (dotc r n) 34)).alloc (.cells (dotc r' n') 34)) (w.heap.size + 1) r' n' := by
    have := liesD_new (w.alloc (.cells (dotc r n) 34)) r' n'
    rwa [World.size_alloc] at this
  obtain ⟨W, hW⟩ : ∃ W, (w.alloc (.cells (dotc r n) 34)).alloc (.cells (dotc r' n') 34) = W := ⟨_, rfl⟩
  rw [hW] at hb0 hD hD'
  have d0 := hD.cell0
  have d1 := hD.cell1
  have e0 := hD'.cell0
  have e1 := hD'.cell1
  clear hD hD'
  have key : (r < r' ∧ decide (r < r' ∨ (r = r' ∧ n < n')) = true) ∨ (¬ r < r' ∧ ¬ r = r' ∧ decide (r < r' ∨ (r = r' ∧ n < n')) = false) ∨ (¬ r < r' ∧ r = r' ∧ n < n' ∧ decide (r < r' ∨ (r = r' ∧ n < n')) = true) ∨ (¬ r < r' ∧ r = r' ∧ ¬ n < n' ∧ decide (r < r' ∨ (r = r' ∧ n < n')) = false) := by
    simp only [decide_eq_true_eq, decide_eq_false_iff_not]
    omega
  generalize decide (r < r' ∨ (r = r' ∧ n < n')) = q at *
  rcases key with ⟨h1, rfl⟩ | ⟨h1, h2, rfl⟩ | ⟨h1, rfl, h3, rfl⟩ | ⟨h1, rfl, h3, rfl⟩
  all_goals
    go_enter Try.func29, Try.ntmps29
    go_wp2
    go_ret
    exact ⟨rfl, hb0⟩
end Go.Proofs.Yteihijejohgfpaa
