/-
  Texts as lists of bytes, and back: what the two conversions come to.
-/
import Derived.Test.YthdhnilfkpbmpaaPut
import Derived.Laws.IdiomStrings
namespace Go.Proofs.Ythdhnilfkpbmpaa
open Go.RowKit

/-- A number's bytes as a text. -/
def txt (n : Nat) : ByteArray := ⟨(Vq.num n).toArray⟩
theorem txt_size (n : Nat) : (txt n).size = Vq.wd n := by
  show (Vq.num n).toArray.size = _
  rw [List.size_toArray, Vq.num_length]

theorem own_below {w w' : World} {base : Nat} {v : Value} {n : Nat} {xs : List Value} (h : w.ownsRow base 5 1 v n xs) (hb : Below w.heap.size w w') : w'.ownsRow base 5 1 v n xs := by
  refine h.kept (row := none) ⟨hb.os, hb.tape, hb.output, hb.size, fun k hk _ => hb.block k hk⟩ ?_
  cases v.ownBlock <;> simp

theorem conv_own {w : World} {base g n cap : Nat} {l : List UInt8} (h : w.ownsRow base 5 1 (.slice (some ⟨g, 0, none⟩) n cap) n (bs l)) :
    (convert 54 9 (.slice (some ⟨g, 0, none⟩) n cap)).run Try.prog w = .ok (.string ⟨l.toArray⟩) w := by
  have hl : l.length = n := by have := h.1; rw [bs_length] at this; omega
  subst hl
  refine run_convert_bytes_back w 54 9 5 ⟨g, 0, none⟩ cap l Try.underlying54 Try.underlying5 Try.underlying9 ?_
  intro j hj
  refine h.cells rfl j _ ?_
  simp [bs, hj]

theorem conv_txt {w : World} {base g cap : Nat} {n : Nat} (h : w.ownsRow base 5 1 (.slice (some ⟨g, 0, none⟩) (Vq.wd n) cap) (Vq.wd n) (bs (Vq.num n))) :
    (convert 54 9 (.slice (some ⟨g, 0, none⟩) (Vq.wd n) cap)).run Try.prog w = .ok (.string (txt n)) w := conv_own h

/-- A text turned into bytes. -/
theorem conv_bytes (s : ByteArray) (W : World) (hs : s.size ≤ maxLen) : ∃ cap W', (convert 9 54 (.string s)).run Try.prog W = .ok (.slice (some ⟨W.heap.size, 0, none⟩) s.size cap) W' ∧
    Bytes W' (some ⟨W.heap.size, 0, none⟩) s.size cap s.data.toList ∧ cap ≤ maxLen ∧ Below W.heap.size W W' ∧ W'.heap.size = W.heap.size + 1 := by
  refine ⟨_, _, run_bytes_of_string W 9 54 5 s Try.underlying9 Try.underlying54 Try.underlying5, ⟨?_, grownCap_ge _ _ _ _, (fun h => by cases h), ?_⟩, grownCap_le_maxLen _ _ _ _ hs, ?_, ?_⟩
  · rw [Array.length_toList]; rfl
  · intro ad had j u hu
    obtain rfl := Option.some.inj had
    rw [Addr.add_lit, Nat.zero_add]
    rw [show W.heap.size = W.drew.heap.size from rfl, World.cell?_alloc_mark, bytesRow]
    have hj : j < s.data.size := by
      have := (List.getElem?_eq_some_iff.1 hu).1
      rw [bs_length, Array.length_toList] at this
      exact this
    rw [Array.getElem?_append_left (by rw [Array.size_map]; exact hj), Array.getElem?_map]
    rw [bs, List.getElem?_map, Array.getElem?_toList] at hu
    exact hu
  · exact (Below.refl _ _).drew.alloc (Nat.le_refl _) _
  · simp

end Go.Proofs.Ythdhnilfkpbmpaa
