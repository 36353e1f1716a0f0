/-
  What vlq.span and vlq.join come to: where the first number's bytes end, and which number bytes tell. They read alone.
-/
import Derived.Test.YtmlfekbmbnfkjabGreatDoorQ02
import Derived.Laws.Bits64b
namespace Go.Proofs.YtmlfekbmbnfkjabGreatDoor
set_option maxRecDepth 100000
open Go.RowKit

/-- Where bytes lie: nowhere, since there are none; or at an address. -/
theorem Bytes.norm {w : World} {ao : Option Addr} {m c : Nat} {l : List UInt8} (h : Bytes w ao m c l) :
    (m = 0 ∧ l = []) ∨ ∃ b off, ao = some ⟨b, off, .none⟩ ∧ 0 < m ∧ ∀ j, j < m → w.cell? ⟨b, off + j, .none⟩ = some (.int .u8 ((l.getD j 0).toNat : Int)) := by
  by_cases h0 : m = 0
  · exact .inl ⟨h0, List.eq_nil_of_length_eq_zero (h.len.trans h0)⟩
  · right
    cases ao with
    | none => exact absurd (h.none rfl).1 h0
    | some ad =>
      obtain ⟨b, off, spot⟩ := ad
      have hg : ∀ j, j < m → w.cell? ((⟨b, off, spot⟩ : Addr).add j) = some (.int .u8 ((l.getD j 0).toNat : Int)) := by
        intro j hj
        refine h.cells _ rfl j _ ?_
        have hj' : j < l.length := by rw [h.len]; exact hj
        simp [bs, hj']
      have hspot : spot = .none := by simpa [Addr.add] using World.cell?_spot (hg 0 (by omega))
      subst hspot
      exact ⟨b, off, rfl, by omega, fun j hj => by have := hg j hj; rwa [Addr.add_lit] at this⟩

end Go.Proofs.YtmlfekbmbnfkjabGreatDoor

/-
  What vlq.Take comes to. It reads alone.
-/
namespace Go.Proofs.YtmlfekbmbnfkjabGreatDoor
set_option maxRecDepth 100000
open Go.RowKit

theorem Bytes.drop {w : World} {ao : Option Addr} {m c : Nat} {l : List UInt8} (h : Bytes w ao m c l) (a : Nat) (ha : a ≤ m) :
    Bytes w (Option.map (fun x => x.add a) ao) (m - a) (c - a) (l.drop a) :=
  ⟨by rw [List.length_drop, h.len], by have := h.room; omega,
   (fun hn => by
    cases ao with
    | none => have := h.none rfl; omega
    | some ad => cases hn),
   fun ad had j u hu => by
    cases ao with
    | none => cases had
    | some x =>
      obtain rfl := Option.some.inj had
      rw [bs, List.map_drop, List.getElem?_drop] at hu
      have := h.cells x rfl (a + j) u hu
      rwa [Addr.add_add]⟩

theorem Bytes.take {w : World} {ao : Option Addr} {m c : Nat} {l : List UInt8} (h : Bytes w ao m c l) (k : Nat) (hk : k ≤ m) : Bytes w ao k c (l.take k) :=
  ⟨by rw [List.length_take, h.len]; omega, by have := h.room; omega, (fun hn => by have := h.none hn; omega),
   fun ad had j u hu => by
    refine h.cells ad had j u ?_
    rw [bs, List.map_take, List.getElem?_take] at hu
    split at hu
    · exact hu
    · cases hu⟩

end Go.Proofs.YtmlfekbmbnfkjabGreatDoor

