/-
  What stands to one another in matrices, plainly.
-/
import Derived.Test.YtcndgbepdgjkeaaMop
namespace Go.Proofs.Ytcndgbepdgjkeaa
set_option maxRecDepth 100000
open Go.RowKit

section
variable {n : Nat} {R R' : Nat → List Int}
theorem metTo_le (hl : ∀ k, (R k).length = 16) : ∀ (k r : Nat), r < k → ∀ i, i < 16 → (metTo n R k).getD i 0 ≤ (R r).getD i 0
  | 0, r, h, _, _ => by omega
  | k + 1, r, h, i, hi => by
    rw [metTo, each_get min _ _ i (metTo_len hl k) (hl k) hi]
    by_cases he : r = k
    · subst he; omega
    · have := metTo_le hl k r (by omega) i hi
      omega
theorem metE_row (hl : ∀ k, (R k).length = 16) {r : Nat} (hr : r < n) : most (metE n R) (R r) = true := (most_spec _ _).2 fun i hi => metTo_le hl n r hr i hi
def noneg (R : Nat → List Int) : Prop := ∀ r i, i < 16 → 0 ≤ (R r).getD i 0
theorem zeros_get (i : Nat) : zeros.getD i 0 = 0 := by
  rw [zeros, List.getD_eq_getElem?_getD, List.getElem?_replicate]
  split <;> rfl
theorem noneg_zero : noneg zeroR := fun _ i _ => by rw [zeroR, zeros_get]; omega
theorem rows_le (hl : ∀ k, (R k).length = 16) {r : Int} {v : List Int} (hv : v.length = 16) (k i : Nat) (hi : i < 16) : (R k).getD i 0 ≤ (seeR n R r v k).getD i 0 := by
  unfold seeR
  split
  · rw [setR]
    split
    · rename_i h; subst h
      rw [each_get max _ _ i (hl _) hv hi]; omega
    · omega
  · omega
theorem noneg_see (hl : ∀ k, (R k).length = 16) {r : Int} {v : List Int} (hv : v.length = 16) (h : noneg R) : noneg (seeR n R r v) := fun k i hi => by
  have := h k i hi
  have := rows_le (n := n) hl (r := r) hv k i hi
  omega
theorem cutE_row (hl : ∀ k, (R k).length = 16) (h : noneg R) {r : Nat} (hr : r < n) (s : List Int) : most (cutE n R s) (R r) = true := by
  unfold cutE
  split
  · exact metE_row hl hr
  · exact (most_spec _ _).2 fun i hi => by rw [zeros_get]; exact h r i hi
theorem cutE_seen (hl : ∀ k, (R k).length = 16) {s : List Int} (hs : s.length = 16) (hf : fine s = true) {r : Nat} (hr : r < n) (hn : n ≤ 16) : (cutE n R s).getD r 0 ≤ s.getD r 0 := by
  unfold cutE
  split
  · rename_i h
    have h1 := wholeTo_iff.1 h r hr
    have h2 := metTo_le (n := n) hl n r hr r (by omega)
    rw [metE]; omega
  · rw [zeros_get]; exact (fine_get s r hs (by omega) hf).1
theorem rowE_mono (h : ∀ k i, i < 16 → (R k).getD i 0 ≤ (R' k).getD i 0) (r : Int) : most (rowE n R r) (rowE n R' r) = true := (most_spec _ _).2 fun i hi => by
  unfold rowE
  split
  · exact h _ i hi
  · exact Int.le_refl _
theorem metTo_mono (hl : ∀ k, (R k).length = 16) (hl' : ∀ k, (R' k).length = 16) (h : ∀ k i, i < 16 → (R k).getD i 0 ≤ (R' k).getD i 0) : ∀ (k i : Nat), i < 16 → (metTo n R k).getD i 0 ≤ (metTo n R' k).getD i 0
  | 0, i, hi => (most_spec _ _).1 (rowE_mono (n := n) h 0) i hi
  | k + 1, i, hi => by
    rw [metTo, metTo, each_get min _ _ i (metTo_len hl k) (hl k) hi, each_get min _ _ i (metTo_len hl' k) (hl' k) hi]
    have := metTo_mono hl hl' h k i hi
    have := h k i hi
    omega
theorem metE_mono (hl : ∀ k, (R k).length = 16) (hl' : ∀ k, (R' k).length = 16) (h : ∀ k i, i < 16 → (R k).getD i 0 ≤ (R' k).getD i 0) : most (metE n R) (metE n R') = true := (most_spec _ _).2 fun i hi => metTo_mono hl hl' h n i hi
theorem cutE_or (s : List Int) : cutE n R s = metE n R ∨ cutE n R s = zeros := by
  unfold cutE
  split
  · exact .inl rfl
  · exact .inr rfl
theorem cutE_whole {s : List Int} (h : wholeTo R s n = true) : cutE n R s = metE n R := by rw [cutE, if_pos h]

/-- Each row is the greatest, number by number, of what was told of it; P tells which calls were made. -/
structure Sup (n : Nat) (O : Nat → Int × List Int) (P : Nat → Prop) (R : Nat → List Int) : Prop where
  len : ∀ k, (R k).length = 16
  low : ∀ r i, i < 16 → 0 ≤ (R r).getD i 0
  all : ∀ r i, i < 16 → ∀ j, P j → okS n (O j).1 (O j).2 = true → (O j).1.toNat = r → (O j).2.getD i 0 ≤ (R r).getD i 0
  one : ∀ r i, i < 16 → (R r).getD i 0 = 0 ∨ ∃ j, P j ∧ okS n (O j).1 (O j).2 = true ∧ (O j).1.toNat = r ∧ (O j).2.getD i 0 = (R r).getD i 0
theorem Sup.zero {n : Nat} {O : Nat → Int × List Int} {P : Nat → Prop} (h : ∀ j, ¬ P j) : Sup n O P zeroR :=
  ⟨fun _ => rfl, noneg_zero, fun _ _ _ j hj => absurd hj (h j), fun _ i _ => .inl (zeros_get i)⟩
theorem Sup.see {n : Nat} {O : Nat → Int × List Int} {P P' : Nat → Prop} {j : Nat} (h : Sup n O P R) (hv : (O j).2.length = 16) (hP : ∀ x, P' x ↔ P x ∨ x = j) : Sup n O P' (seeR n R (O j).1 (O j).2) := by
  have hg : ∀ r i, i < 16 → okS n (O j).1 (O j).2 = true → (O j).1.toNat = r → (seeR n R (O j).1 (O j).2 r).getD i 0 = max ((R r).getD i 0) ((O j).2.getD i 0) := fun r i hi ho hr => by
    rw [seeR, if_pos ho, setR, if_pos hr.symm, hr, each_get max _ _ i (h.len _) hv hi]
  have hn : ∀ r, ¬ (okS n (O j).1 (O j).2 = true ∧ (O j).1.toNat = r) → seeR n R (O j).1 (O j).2 r = R r := fun r hx => by
    unfold seeR
    split
    · rename_i ho
      rw [setR, if_neg (fun e => hx ⟨ho, e.symm⟩)]
    · rfl
  refine ⟨seeR_len h.len hv, noneg_see h.len hv h.low, fun r i hi x hx ho hr => ?_, fun r i hi => ?_⟩
  · have hle := rows_le (n := n) h.len (r := (O j).1) hv r i hi
    rcases (hP x).1 hx with hx | rfl
    · have := h.all r i hi x hx ho hr
      omega
    · rw [hg r i hi ho hr]; omega
  · by_cases hx : okS n (O j).1 (O j).2 = true ∧ (O j).1.toNat = r
    · rw [hg r i hi hx.1 hx.2]
      by_cases hm : (R r).getD i 0 ≤ (O j).2.getD i 0
      · exact .inr ⟨j, (hP j).2 (.inr rfl), hx.1, hx.2, by omega⟩
      · rw [show max ((R r).getD i 0) ((O j).2.getD i 0) = (R r).getD i 0 by omega]
        rcases h.one r i hi with h0 | ⟨x, h1, h2, h3, h4⟩
        · exact .inl h0
        · exact .inr ⟨x, (hP x).2 (.inl h1), h2, h3, h4⟩
    · rw [hn r hx]
      rcases h.one r i hi with h0 | ⟨x, h1, h2, h3, h4⟩
      · exact .inl h0
      · exact .inr ⟨x, (hP x).2 (.inl h1), h2, h3, h4⟩
theorem Sup.uniq {n : Nat} {O : Nat → Int × List Int} {P P' : Nat → Prop} (h : Sup n O P R) (h' : Sup n O P' R') (hP : ∀ x, P x ↔ P' x) : R = R' := by
  have key : ∀ {R R' : Nat → List Int} {P P' : Nat → Prop}, Sup n O P R → Sup n O P' R' → (∀ x, P x → P' x) → ∀ r i, i < 16 → (R r).getD i 0 ≤ (R' r).getD i 0 := fun {R R' P P'} h h' hP r i hi => by
    have hlow := h'.low r i hi
    rcases h.one r i hi with h0 | ⟨x, h1, h2, h3, h4⟩
    · omega
    · have := h'.all r i hi x (hP x h1) h2 h3
      omega
  funext r
  exact vec_ext _ _ (h.len r) (h'.len r) fun i hi => Int.le_antisymm (key h h' (fun x => (hP x).1) r i hi) (key h' h (fun x => (hP x).2) r i hi)
end
section
variable {w w' : World} {a : Option Addr} {len B : Nat} {O : Nat → Int × List Int}
theorem Mops.below (h : Mops w a len O) (hb : Below B w w') (hB : w.heap.size ≤ B) : Mops w' a len O := by
  rcases h with h | ⟨b, off, h1, h2, h3⟩
  · exact .inl h
  · exact .inr ⟨b, off, h1, Nat.lt_of_lt_of_le h2 hb.size, fun i hi => (h3 i hi).same (hb.block b (by omega))⟩
/-- Below a bound: what came in stays. -/
structure MopsB (w : World) (a : Option Addr) (len B : Nat) (O : Nat → Int × List Int) : Prop where
  ops : len = 0 ∨ ∃ b off, a = some ⟨b, off, none⟩ ∧ b < B ∧ ∀ i, i < len → IsMop w b (off + i * 17) (O i)
theorem Mops.bound (h : Mops w a len O) : MopsB w a len w.heap.size O := ⟨h⟩
theorem MopsB.below (h : MopsB w a len B O) (hb : Below B w w') : MopsB w' a len B O := by
  rcases h.ops with h | ⟨b, off, h1, h2, h3⟩
  · exact ⟨.inl h⟩
  · exact ⟨.inr ⟨b, off, h1, h2, fun i hi => (h3 i hi).same (hb.block b h2)⟩⟩
theorem MopsB.at (h : MopsB w a len B O) {k : Nat} (hk : k < len) : ∃ b off, a = some ⟨b, off, none⟩ ∧ b < B ∧ IsMop w b (off + k * 17) (O k) := by
  rcases h.ops with h | ⟨b, off, h1, h2, h3⟩
  · omega
  · exact ⟨b, off, h1, h2, h3 k hk⟩
end
end Go.Proofs.Ytcndgbepdgjkeaa
