/-
  Rows of pairs of texts: appended to, read; at the program's type and at the reference's.
-/
import Derived.Test.YtmlfekbmbnfkjabGreatDoorQ18
import Derived.Test.YtmlfekbmbnfkjabGreatDoorQ29
import Derived.Laws.OwnMore
import Derived.Laws.AppendOwnNone
import Derived.Great.BuildSlice
import Derived.Deep.MidRow
import Derived.OwnWalk
import Derived.Lib.SliceRun
import Derived.BigQuiet
namespace Go.Proofs.YtmlfekbmbnfkjabGreatDoor
set_option maxRecDepth 100000
namespace T14
set_option maxRecDepth 100000
open Go.RowKit Go.Sort

def prl (d : Pr) : List Value := [.string (sb d.1), .string (sb d.2)]
theorem prl_length (d : Pr) : (prl d).length = 2 := rfl
def prs (S : List Pr) : List Value := S.flatMap prl
theorem prs_length : ∀ S : List Pr, (prs S).length = S.length * 2
  | [] => rfl
  | i :: S => by
    have ih := prs_length S
    have e1 : prs (i :: S) = prl i ++ prs S := by simp [prs]
    rw [e1, List.length_append, ih, prl_length, List.length_cons]; omega
theorem prs_append (S T : List Pr) : prs (S ++ T) = prs S ++ prs T := by simp [prs]
/-- A list of pairs, as it is read. -/
def PL (w : World) (ao : Option Addr) (S : List Pr) : Prop := ∀ j d, S[j]? = some d → ∃ g, ao = some ⟨g, 0, none⟩ ∧ w.cell? ⟨g, j * 2, none⟩ = some (.string (sb d.1)) ∧ w.cell? ⟨g, j * 2 + 1, none⟩ = some (.string (sb d.2))
theorem PL.below {w w' : World} {ao : Option Addr} {S : List Pr} {B : Nat} (h : PL w ao S) (hb : Below B w w') (hB : w.heap.size ≤ B) : PL w' ao S := fun j t ht => by
  obtain ⟨g, hg, hc, hd⟩ := h j t ht
  have hl := Nat.lt_of_lt_of_le (World.block_lt_of_cell? w _ hc) hB
  exact ⟨g, hg, (hb.cell (p := ⟨g, j * 2, none⟩) hl).trans hc, (hb.cell (p := ⟨g, j * 2 + 1, none⟩) hl).trans hd⟩
theorem PL.range {w : World} {g : Nat} {S : List Pr} (h : PL w (some ⟨g, 0, none⟩) S) {k : Nat} {d : Pr} (hd : S[k]? = some d) : w.rangeAt g (k * 2) (prl d) := fun j v hv => by
  obtain ⟨g', hg, h0, h1⟩ := h k d hd
  obtain rfl : g = g' := by simpa using hg
  match j, hv with
  | 0, hv => obtain rfl := Option.some.inj hv; exact h0
  | 1, hv => obtain rfl := Option.some.inj hv; exact h1

/-! At the program's type. -/
abbrev PRow (w : World) (base : Nat) (v : Value) (S : List Pr) : Prop := w.ownsRow base 151 2 v S.length (prs S)
theorem PRow.lower {w : World} {base b : Nat} {v : Value} {S : List Pr} (h : PRow w base v S) (hb : b ≤ base) : PRow w b v S := by
  refine ⟨h.1, ?_⟩
  rcases h.2 with hn | ⟨g, cap, cur, e, hbg, rest⟩
  · exact .inl hn
  · exact .inr ⟨g, cap, cur, e, Nat.le_trans hb hbg, rest⟩
theorem PRow.keep {w w' : World} {base : Nat} {v : Value} {S : List Pr} (h : PRow w base v S) (hk : ∀ k, v.ownBlock = some k → w'.heap[k]? = w.heap[k]?) : PRow w' base v S := by
  refine ⟨h.1, ?_⟩
  rcases h.2 with hn | ⟨g, cap, cur, rfl, hbg, hg, rest⟩
  · exact .inl hn
  · exact .inr ⟨g, cap, cur, rfl, hbg, by rw [hk g rfl]; exact hg, rest⟩
theorem PRow.below {w w' : World} {base B : Nat} {v : Value} {S : List Pr} (h : PRow w base v S) (hb : Below B w w') (hB : w.heap.size ≤ B) : PRow w' base v S :=
  h.keep fun k hk => hb.block k (by have := (h.lt k hk).2; omega)
theorem PRow.own {w : World} {base : Nat} {v : Value} {S : List Pr} (h : PRow w base v S) : ∀ k, v.ownBlock = some k → base ≤ k := fun k hk => (h.lt k hk).1
/-! At the reference's type. -/
end T14
end Go.Proofs.YtmlfekbmbnfkjabGreatDoor

/-
  What field's isSet, latest and Get come to.
-/
namespace Go.Proofs.YtmlfekbmbnfkjabGreatDoor
set_option maxRecDepth 100000
namespace T14
set_option maxRecDepth 100000
open Go.RowKit Go.Sort

end T14
end Go.Proofs.YtmlfekbmbnfkjabGreatDoor

/-
  Rows of pairs of a text and a number: appended to, read; at the program's type and at the reference's.
-/
namespace Go.Proofs.YtmlfekbmbnfkjabGreatDoor
set_option maxRecDepth 100000
namespace T15
set_option maxRecDepth 100000
open Go.RowKit

def prl (d : Pr) : List Value := [.string (sb d.1), .int .i64 d.2]
theorem prl_length (d : Pr) : (prl d).length = 2 := rfl
def prs (S : List Pr) : List Value := S.flatMap prl
theorem prs_length : ∀ S : List Pr, (prs S).length = S.length * 2
  | [] => rfl
  | i :: S => by
    have ih := prs_length S
    have e1 : prs (i :: S) = prl i ++ prs S := by simp [prs]
    rw [e1, List.length_append, ih, prl_length, List.length_cons]; omega
theorem prs_append (S T : List Pr) : prs (S ++ T) = prs S ++ prs T := by simp [prs]
/-- A list of pairs, as it is read. -/
def PL (w : World) (ao : Option Addr) (S : List Pr) : Prop := ∀ j d, S[j]? = some d → ∃ g, ao = some ⟨g, 0, none⟩ ∧ w.cell? ⟨g, j * 2, none⟩ = some (.string (sb d.1)) ∧ w.cell? ⟨g, j * 2 + 1, none⟩ = some (.int .i64 d.2)
theorem PL.below {w w' : World} {ao : Option Addr} {S : List Pr} {B : Nat} (h : PL w ao S) (hb : Below B w w') (hB : w.heap.size ≤ B) : PL w' ao S := fun j t ht => by
  obtain ⟨g, hg, hc, hd⟩ := h j t ht
  have hl := Nat.lt_of_lt_of_le (World.block_lt_of_cell? w _ hc) hB
  exact ⟨g, hg, (hb.cell (p := ⟨g, j * 2, none⟩) hl).trans hc, (hb.cell (p := ⟨g, j * 2 + 1, none⟩) hl).trans hd⟩
theorem PL.range {w : World} {g : Nat} {S : List Pr} (h : PL w (some ⟨g, 0, none⟩) S) {k : Nat} {d : Pr} (hd : S[k]? = some d) : w.rangeAt g (k * 2) (prl d) := fun j v hv => by
  obtain ⟨g', hg, h0, h1⟩ := h k d hd
  obtain rfl : g = g' := by simpa using hg
  match j, hv with
  | 0, hv => obtain rfl := Option.some.inj hv; exact h0
  | 1, hv => obtain rfl := Option.some.inj hv; exact h1

/-! At the program's type. -/
abbrev PRow (w : World) (base : Nat) (v : Value) (S : List Pr) : Prop := w.ownsRow base 160 2 v S.length (prs S)
theorem PRow.lower {w : World} {base b : Nat} {v : Value} {S : List Pr} (h : PRow w base v S) (hb : b ≤ base) : PRow w b v S := by
  refine ⟨h.1, ?_⟩
  rcases h.2 with hn | ⟨g, cap, cur, e, hbg, rest⟩
  · exact .inl hn
  · exact .inr ⟨g, cap, cur, e, Nat.le_trans hb hbg, rest⟩
theorem PRow.keep {w w' : World} {base : Nat} {v : Value} {S : List Pr} (h : PRow w base v S) (hk : ∀ k, v.ownBlock = some k → w'.heap[k]? = w.heap[k]?) : PRow w' base v S := by
  refine ⟨h.1, ?_⟩
  rcases h.2 with hn | ⟨g, cap, cur, rfl, hbg, hg, rest⟩
  · exact .inl hn
  · exact .inr ⟨g, cap, cur, rfl, hbg, by rw [hk g rfl]; exact hg, rest⟩
theorem PRow.below {w w' : World} {base B : Nat} {v : Value} {S : List Pr} (h : PRow w base v S) (hb : Below B w w') (hB : w.heap.size ≤ B) : PRow w' base v S :=
  h.keep fun k hk => hb.block k (by have := (h.lt k hk).2; omega)
theorem PRow.own {w : World} {base : Nat} {v : Value} {S : List Pr} (h : PRow w base v S) : ∀ k, v.ownBlock = some k → base ≤ k := fun k hk => (h.lt k hk).1
/-! At the reference's type. -/
/-! Pieces of a list, appended. -/
structure QV (w : World) (ao : Option Addr) (m c : Nat) (F : List Pr) : Prop where
  len : F.length = m
  room : m ≤ c
  zero : ao = none → m = 0 ∧ c = 0
  cells : ∀ ad, ao = some ad → ∀ j u, (prs F)[j]? = some u → w.cell? (ad.add j) = some u
theorem QV.below {w w' : World} {ao : Option Addr} {m c B : Nat} {F : List Pr} (h : QV w ao m c F) (hb : Below B w w') (hB : w.heap.size ≤ B) : QV w' ao m c F :=
  ⟨h.len, h.room, h.zero, fun ad ha j u hu => by
    have h1 := h.cells ad ha j u hu
    have hl := Nat.lt_of_lt_of_le (World.block_lt_of_cell? w _ h1) hB
    exact (hb.cell hl).trans h1⟩
theorem QV.take {w : World} {ao : Option Addr} {m c : Nat} {F : List Pr} (h : QV w ao m c F) {i : Nat} (hi : i ≤ m) : QV w ao i c (F.take i) := by
  have hl := h.len
  have hr := h.room
  refine ⟨by rw [List.length_take]; omega, by omega, fun e => ⟨by have := (h.zero e).1; omega, (h.zero e).2⟩, fun ad ha j u hu => ?_⟩
  refine h.cells ad ha j u ?_
  have e1 : prs F = prs (F.take i) ++ prs (F.drop i) := by rw [← prs_append, List.take_append_drop]
  rw [e1, List.getElem?_append_left ((List.getElem?_eq_some_iff.1 hu).1)]
  exact hu
/-- From a place on. -/
def dropQ (ao : Option Addr) (c k : Nat) : Option Addr := if c = k then ao else ao.map (·.add (k * 2))
theorem QV.drop {w : World} {ao : Option Addr} {m c : Nat} {E : List Pr} (h : QV w ao m c E) {k : Nat} (hk : k ≤ m) : QV w (dropQ ao c k) (m - k) (c - k) (E.drop k) := by
  have hl := h.len
  have hr := h.room
  refine ⟨by rw [List.length_drop]; omega, by omega, fun e => ?_, fun ad ha j u hu => ?_⟩
  · have : ao = none := by
      unfold dropQ at e
      split at e
      · exact e
      · cases ao with
        | none => rfl
        | some _ => cases e
    have := h.zero this
    omega
  · have hlen : (prs (E.take k)).length = k * 2 := by
      rw [prs_length, List.length_take]
      congr 1
      omega
    have e1 : prs E = prs (E.take k) ++ prs (E.drop k) := by rw [← prs_append, List.take_append_drop]
    have hjl := (List.getElem?_eq_some_iff.1 hu).1
    have hu2 : (prs E)[k * 2 + j]? = some u := by
      rw [e1, List.getElem?_append_right (by omega), hlen, show k * 2 + j - k * 2 = j by omega]
      exact hu
    by_cases hck : c = k
    · have : E.drop k = [] := List.drop_eq_nil_of_le (by omega)
      rw [this] at hu
      cases hu
    · unfold dropQ at ha
      rw [if_neg hck] at ha
      cases ao with
      | none => cases ha
      | some a0 =>
        have ha' : a0.add (k * 2) = ad := by simpa using ha
        rw [← ha', Go.Deep.add_add]
        exact h.cells a0 rfl _ _ hu2
end T15
end Go.Proofs.YtmlfekbmbnfkjabGreatDoor

