/-
  What slices.Sort and slices.Compact of texts come to; what Keys comes to.
-/
import Derived.Test.YtmlfekbmbnfkjabGreatDoorQ28
import Derived.Test.YtmlfekbmbnfkjabGreatDoorQ18
import Derived.Sort.OwnSorted
import Derived.Sort.Grow
import Derived.Lib.OwnBridge
import Derived.Sort.EveryDepth
namespace Go.Proofs.YtmlfekbmbnfkjabGreatDoor
set_option maxRecDepth 100000
set_option maxRecDepth 100000
open Go.RowKit Go.Shelf Go.Sort

abbrev TRow (w : World) (base : Nat) (v : Value) (S : List (List UInt8)) : Prop := w.ownsRow base 9 1 v S.length (S.map encStr)
def tsort (S : List (List UInt8)) : List (List UInt8) := S.mergeSort fun x y => decide (x ≤ y)
/-! Appending a text. -/
theorem TRow.below {w w' : World} {base B : Nat} {v : Value} {S : List (List UInt8)} (h : TRow w base v S) (hb : Below B w w') (hB : w.heap.size ≤ B) : TRow w' base v S := by
  refine ⟨h.1, ?_⟩
  rcases h.2 with hn | ⟨g, cap, cur, e, hbg, hg, rest⟩
  · exact .inl hn
  · have hlt := (Array.getElem?_eq_some_iff.1 hg).1
    exact .inr ⟨g, cap, cur, e, hbg, by rw [hb.block g (by omega)]; exact hg, rest⟩
theorem TRow.lower {w : World} {base b : Nat} {v : Value} {S : List (List UInt8)} (h : TRow w base v S) (hb : b ≤ base) : TRow w b v S := by
  refine ⟨h.1, ?_⟩
  rcases h.2 with hn | ⟨g, cap, cur, e, hbg, rest⟩
  · exact .inl hn
  · exact .inr ⟨g, cap, cur, e, Nat.le_trans hb hbg, rest⟩
theorem TRow.own {w : World} {base : Nat} {v : Value} {S : List (List UInt8)} (h : TRow w base v S) : ∀ k, v.ownBlock = some k → base ≤ k := by
  rcases h.2 with ⟨rfl, -⟩ | ⟨g, cap, cur, rfl, hb, -⟩
  · intro k hk; cases hk
  · intro k hk; cases hk; exact hb
end Go.Proofs.YtmlfekbmbnfkjabGreatDoor

/-
  Texts: two lists of texts that are alike.
-/
namespace Go.Proofs.YtmlfekbmbnfkjabGreatDoor
set_option maxRecDepth 100000
set_option maxRecDepth 100000
open Go.RowKit Go.Shelf Go.Sort

/-- A list of texts, as it is read. -/
def TL (w : World) (ao : Option Addr) (S : List (List UInt8)) : Prop := ∀ j t, S[j]? = some t → ∃ g, ao = some ⟨g, 0, none⟩ ∧ w.cell? ⟨g, j, none⟩ = some (.string (sb t))
theorem TRow.tl {w : World} {base : Nat} {v : Value} {S : List (List UInt8)} (h : TRow w base v S) : ∃ ao c, v = .slice ao S.length c ∧ TL w ao S := by
  rcases h.2 with ⟨rfl, h0⟩ | ⟨g, cap, cur, rfl, hb, hg, hnc, hcm, hcs, htake⟩
  · have : S = [] := List.eq_nil_of_length_eq_zero h0
    subst this
    exact ⟨none, 0, rfl, fun j t h => by cases h⟩
  · refine ⟨some ⟨g, 0, none⟩, cap, rfl, fun j t ht => ⟨g, rfl, ?_⟩⟩
    have h1 := h.cells (g := g) rfl j (encStr t) (by rw [List.getElem?_map, ht]; rfl)
    rw [Addr.add_mid, Nat.zero_add] at h1
    exact h1
theorem TL.below {w w' : World} {ao : Option Addr} {S : List (List UInt8)} {B : Nat} (h : TL w ao S) (hb : Below B w w') (hB : w.heap.size ≤ B) : TL w' ao S := fun j t ht => by
  obtain ⟨g, hg, hc⟩ := h j t ht
  exact ⟨g, hg, (hb.cell (Nat.lt_of_lt_of_le (World.block_lt_of_cell? w _ hc) hB)).trans hc⟩
end Go.Proofs.YtmlfekbmbnfkjabGreatDoor

/-
  The plain side of LiveTwice: a list that is laid twice.
-/
namespace Go.Proofs.YtmlfekbmbnfkjabGreatDoor
set_option maxRecDepth 100000
set_option maxRecDepth 100000
open Go.RowKit Go.Shelf Go.Sort

/-! Keys. -/
theorem strict_one : ∀ X Y : List (List UInt8), X.Pairwise (· < ·) → Y.Pairwise (· < ·) → (∀ z, z ∈ X ↔ z ∈ Y) → X = Y
  | [], [], _, _, _ => rfl
  | [], y :: Y, _, _, h => by have := (h y).2 (by simp); cases this
  | x :: X, [], _, _, h => by have := (h x).1 (by simp); cases this
  | x :: X, y :: Y, hx, hy, h => by
    obtain ⟨x1, x2⟩ := List.pairwise_cons.1 hx
    obtain ⟨y1, y2⟩ := List.pairwise_cons.1 hy
    have e : x = y := by
      rcases List.mem_cons.1 ((h x).1 (by simp)) with e | e
      · exact e
      · rcases List.mem_cons.1 ((h y).2 (by simp)) with e' | e'
        · exact e'.symm
        · exact absurd (y1 x e) (List.lt_asymm (x1 y e'))
    subst e
    rw [strict_one X Y x2 y2 fun z => ⟨fun hz => ?_, fun hz => ?_⟩]
    · rcases List.mem_cons.1 ((h z).1 (List.mem_cons_of_mem _ hz)) with e | e
      · subst e
        exact absurd (x1 z hz) (List.lt_irrefl z)
      · exact e
    · rcases List.mem_cons.1 ((h z).2 (List.mem_cons_of_mem _ hz)) with e | e
      · subst e
        exact absurd (y1 z hz) (List.lt_irrefl z)
      · exact e
end Go.Proofs.YtmlfekbmbnfkjabGreatDoor

/-
  What the reference's Key, Of, With and Keys come to.
-/
namespace Go.Proofs.YtmlfekbmbnfkjabGreatDoor
set_option maxRecDepth 100000
set_option maxRecDepth 100000
open Go.RowKit Go.Shelf Go.Sort

/-! A text into texts that rise. -/
end Go.Proofs.YtmlfekbmbnfkjabGreatDoor

/-
  What the reference's With and Keys come to.
-/
namespace Go.Proofs.YtmlfekbmbnfkjabGreatDoor
set_option maxRecDepth 100000
set_option maxRecDepth 100000
open Go.RowKit Go.Shelf Go.Sort

end Go.Proofs.YtmlfekbmbnfkjabGreatDoor

/-
  Plain facts: the members that events tell, and their dots.
-/
namespace Go.Proofs.YtmlfekbmbnfkjabGreatDoor
set_option maxRecDepth 100000
namespace T13
set_option maxRecDepth 100000
open Go.RowKit Go.Lib

end T13
end Go.Proofs.YtmlfekbmbnfkjabGreatDoor

/-
  What isAdd, adds, Has and Dots come to.
-/
namespace Go.Proofs.YtmlfekbmbnfkjabGreatDoor
set_option maxRecDepth 100000
namespace T13
set_option maxRecDepth 100000
open Go.RowKit Go.Sort

end T13
end Go.Proofs.YtmlfekbmbnfkjabGreatDoor

