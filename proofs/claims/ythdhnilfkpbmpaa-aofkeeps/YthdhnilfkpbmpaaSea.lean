/-
  What crc's Seal and Open come to, over the plain words of frames.
-/
import Derived.Test.YthdhnilfkpbmpaaOpn
import Derived.Test.YthdhnilfkpbmpaaFrm
namespace Go.Proofs.Ythdhnilfkpbmpaa
set_option maxRecDepth 100000

open Go.RowKit

theorem Fr.split_two (l : List UInt8) (m : Nat) (h : l.length = m + 2) : l = l.take m ++ [l.getD m 0, l.getD (m + 1) 0] := by
  have h1 : l.drop m = [l.getD m 0, l.getD (m + 1) 0] := by
    rw [List.drop_eq_getElem_cons (by omega), List.drop_eq_getElem_cons (by omega), List.drop_eq_nil_of_le (by omega)]
    simp [List.getD, show m < l.length by omega, show m + 1 < l.length by omega]
  rw [← h1, List.take_append_drop]
theorem Fr.sealed_iff (l : List UInt8) (h2 : 2 ≤ l.length) : Fr.isSealed l = true ↔ Ck.crc (l.take (l.length - 2)) = Ck.word (l.getD (l.length - 2) 0) (l.getD (l.length - 1) 0) := by
  have e : Ck.fold 65535#16 l = Ck.fold (Ck.crc (l.take (l.length - 2))) [l.getD (l.length - 2) 0, l.getD (l.length - 1) 0] := by
    have h := Fr.split_two l (l.length - 2) (by omega)
    rw [show l.length - 2 + 1 = l.length - 1 by omega] at h
    conv => lhs; rw [h]
    rw [Ck.fold_append]
    rfl
  rw [Fr.isSealed, Bool.and_eq_true, decide_eq_true_eq, decide_eq_true_eq, e, Ck.fold_two]
  exact ⟨fun h => h.2, fun h => ⟨h2, h⟩⟩

/-- A new list of bytes is the answer. -/
def OutF (w w' : World) (e : Ending) (l : List UInt8) : Prop := ∃ g c, e = .returned (.slice (some ⟨g, 0, none⟩) l.length c) ∧ Bytes w' (some ⟨g, 0, none⟩) l.length c l ∧ c ≤ maxLen ∧ g < w'.heap.size ∧ Below w.heap.size w w'

theorem own_lt {w : World} {base g n cap : Nat} {l : List UInt8} (h : w.ownsRow base 5 1 (.slice (some ⟨g, 0, none⟩) n cap) n (bs l)) : g < w.heap.size := by
  rcases h.2 with ⟨h', _⟩ | ⟨g', cap', cur, h', _, hg, _⟩
  · cases h'
  · simp only [Value.slice.injEq, Option.some.injEq, Addr.mk.injEq, and_true] at h'
    rw [h'.1]
    exact (Array.getElem?_eq_some_iff.1 hg).1

theorem seal_mod (ao : Option Addr) (c : Nat) (l : List UInt8) (w : World) (hb : Bytes w ao l.length c l) (hm : l.length ≤ 1048576) :
    Calls Try.prog 58 #[.slice ao l.length c] w fun e w' => OutF w w' e (Ck.sealed l) := by
  refine (seal_any ao l.length c l w hb (by omega)).mono ?_
  rintro e w' ⟨g, rfl, ho, hB⟩
  have hs := Fr.sealed_length l
  exact ⟨g, l.length + 2, by rw [hs], by rw [hs]; exact Bytes.own ho, by unfold maxLen; omega, own_lt ho, hB⟩
theorem open_is (ao : Option Addr) (c : Nat) (l : List UInt8) (w : World) (hb : Bytes w ao l.length c l) (hm : l.length ≤ 1048576) (h : Fr.isSealed l = true) :
    Calls Try.prog 60 #[.slice ao l.length c] w fun e w' => ∃ g, e = .returned (.tuple #[.slice (some ⟨g, 0, none⟩) (l.length - 2) (l.length - 2), .bool true]) ∧ Bytes w' (some ⟨g, 0, none⟩) (l.length - 2) (l.length - 2) (l.take (l.length - 2)) ∧ g < w'.heap.size ∧ Below w.heap.size w w' := by
  have h2 : 2 ≤ l.length := by
    rw [Fr.isSealed, Bool.and_eq_true, decide_eq_true_eq] at h
    exact h.1
  refine (open_yes ao l.length c l w hb (by omega) h2 ((Fr.sealed_iff l h2).1 h)).mono ?_
  rintro e w' ⟨g, rfl, ho, hB⟩
  exact ⟨g, rfl, Bytes.own ho, own_lt ho, hB⟩
theorem open_not (ao : Option Addr) (c : Nat) (l : List UInt8) (w : World) (hb : Bytes w ao l.length c l) (hm : l.length ≤ 1048576) (hc : c ≤ maxLen) (h : Fr.isSealed l = false) :
    Calls Try.prog 60 #[.slice ao l.length c] w fun e w' => e = .returned (.tuple #[.slice none 0 0, .bool false]) ∧ Below w.heap.size w w' := by
  by_cases h2 : 2 ≤ l.length
  · refine open_no ao l.length c l w hb (by unfold maxLen; omega) hc h2 (fun e => ?_)
    rw [(Fr.sealed_iff l h2).2 e] at h
    cases h
  · exact (open_few ao l.length c w (by omega)).mono fun _ _ ⟨h1, h2⟩ => ⟨h1, by rw [h2]; exact Below.refl _ _⟩
end Go.Proofs.Ythdhnilfkpbmpaa
