/-
  Events as plain data.
-/
import Derived.Test.YtmlfekbmbnfkjabGreatDoorProg
import Derived.WalkKit
import Derived.Test.YtmlfekbmbnfkjabGreatDoorQ01
namespace Go.Proofs.YtmlfekbmbnfkjabGreatDoor
set_option maxRecDepth 100000
open Go.RowKit

/-- An event. -/
structure Ev where
  r : Int
  n : Int
  t : Int
  deps : List Int
  kind : Int
  key : List UInt8
  field : List UInt8
  value : List UInt8
  num : Int
  rr : Int
  rn : Int
def addsE (k : Int) : Bool := decide (k = 1 ∨ k = 2 ∨ k = 3 ∨ k = 5 ∨ k = 7 ∨ k = 9)
end Go.Proofs.YtmlfekbmbnfkjabGreatDoor

/-
  What vlq.width comes to: a number's count of groups.
-/
namespace Go.Proofs.YtmlfekbmbnfkjabGreatDoor
set_option maxRecDepth 100000
open Go.RowKit

end Go.Proofs.YtmlfekbmbnfkjabGreatDoor

/-
  What vlq.groups comes to: a new list that holds just a number's bytes; nothing that was there has turned.
-/
namespace Go.Proofs.YtmlfekbmbnfkjabGreatDoor
set_option maxRecDepth 100000
open Go.RowKit

/-- Bytes as they lie in memory. -/
def bs (l : List UInt8) : List Value := l.map (fun c => Value.int .u8 (c.toNat : Int))
theorem bs_length (l : List UInt8) : (bs l).length = l.length := by simp [bs]
end Go.Proofs.YtmlfekbmbnfkjabGreatDoor

/-
  What vlq.Put comes to: a new list that holds the bytes that were there and a number's bytes behind; nothing that was there has turned. Asked: that the bytes are fewer than 2^47.
-/
namespace Go.Proofs.YtmlfekbmbnfkjabGreatDoor
set_option maxRecDepth 100000
open Go.RowKit

/-- A list of bytes as a call may be handed it: nil, or an address where they lie. -/
structure Bytes (w : World) (ao : Option Addr) (m c : Nat) (l : List UInt8) : Prop where
  len : l.length = m
  room : m ≤ c
  none : ao = none → m = 0 ∧ c = 0
  cells : ∀ ad, ao = some ad → ∀ j u, (bs l)[j]? = some u → w.cell? (ad.add j) = some u

theorem Bytes.below {w w' : World} {ao : Option Addr} {m c : Nat} {l : List UInt8} {B : Nat} (h : Bytes w ao m c l) (hb : Below B w w') (hB : w.heap.size ≤ B) : Bytes w' ao m c l :=
  ⟨h.len, h.room, h.none, fun ad had j u hu => by
    have hc := h.cells ad had j u hu
    have hlt := World.block_lt_of_cell? w _ hc
    rw [hb.cell (Nat.lt_of_lt_of_le hlt hB)]
    exact hc⟩

theorem Bytes.nil (w : World) : Bytes w .none 0 0 [] := ⟨rfl, Nat.le_refl _, fun _ => ⟨rfl, rfl⟩, fun _ h => by cases h⟩

theorem Bytes.own {w : World} {base g n cap : Nat} {l : List UInt8} (h : w.ownsRow base 5 1 (.slice (some ⟨g, 0, .none⟩) n cap) n (bs l)) : Bytes w (some ⟨g, 0, .none⟩) n cap l :=
  ⟨by have := h.1; rw [bs_length] at this; omega,
   by rcases h.2 with ⟨h', _⟩ | ⟨g', cap', cur, h', _, _, hn, _⟩
      · cases h'
      · simp only [Value.slice.injEq] at h'; omega,
   (fun h => by cases h),
   fun ad had j u hu => by
    obtain rfl := Option.some.inj had
    exact h.cells rfl j u hu⟩

end Go.Proofs.YtmlfekbmbnfkjabGreatDoor

