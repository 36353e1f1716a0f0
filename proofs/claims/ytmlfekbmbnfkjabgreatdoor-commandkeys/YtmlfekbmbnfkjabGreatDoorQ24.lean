/-
  Bytes that were made of a text: the block bears a mark behind its cells. What 'append' to them comes to.
-/
import Derived.Test.YtmlfekbmbnfkjabGreatDoorQ23
import Derived.ArgAppend
import Derived.Shelf.GgSortFunc.RowK
namespace Go.Proofs.YtmlfekbmbnfkjabGreatDoor
set_option maxRecDepth 100000
namespace T21
open Go.RowKit Go.Sort

def Tail (w : World) (g cap : Nat) (l : List UInt8) : Prop :=
  ∃ cur : Array Value, w.heap[g]? = some (.cells cur 5 (cur.size, cur.size + 1)) ∧ cur.size = cap ∧ l.length ≤ cap ∧ cur.toList.take l.length = bs l
theorem Tail.lt {w : World} {g cap : Nat} {l : List UInt8} (h : Tail w g cap l) : g < w.heap.size := by
  obtain ⟨cur, h1, -⟩ := h
  exact (Array.getElem?_eq_some_iff.1 h1).1
theorem Tail.bytes {w : World} {g cap : Nat} {l : List UInt8} (h : Tail w g cap l) : Bytes w (some ⟨g, 0, none⟩) l.length cap l := by
  obtain ⟨cur, h1, h2, h3, h4⟩ := h
  refine ⟨rfl, h3, (fun h => by cases h), fun ad had j u hu => ?_⟩
  obtain rfl := Option.some.inj had
  rw [Addr.add_lit, Nat.zero_add, cell_of_row w g j cur _ _ h1, ← Array.getElem?_toList]
  rw [← h4, List.getElem?_take] at hu
  split at hu
  · exact hu
  · cases hu
theorem Tail.same {w w' : World} {g cap : Nat} {l : List UInt8} (h : Tail w g cap l) (hb : w'.heap[g]? = w.heap[g]?) : Tail w' g cap l := by
  obtain ⟨cur, h1, h2⟩ := h
  exact ⟨cur, by rw [hb]; exact h1, h2⟩
theorem Tail.below {w w' : World} {g cap : Nat} {l : List UInt8} (h : Tail w g cap l) (hb : Below w.heap.size w w') : Tail w' g cap l := h.same (hb.block g h.lt)
theorem Tail.fz {w : World} {g cap j : Nat} {l : List UInt8} (h : Tail w g cap l) (hj : j < cap) : w.frozen? ⟨g, j, none⟩ = false := by
  obtain ⟨cur, h1, h2, -⟩ := h
  unfold World.frozen?
  rw [h1]
  simp only [Bool.and_eq_false_iff, decide_eq_false_iff_not]
  left; omega
theorem Tail.there {w : World} {g cap j : Nat} {l : List UInt8} (h : Tail w g cap l) (hj : j < cap) : (w.cell? ⟨g, j, none⟩).isSome = true := by
  obtain ⟨cur, h1, h2, -⟩ := h
  rw [cell_of_row w g j cur _ _ h1, Array.getElem?_eq_getElem (by omega)]; rfl
theorem Tail.cell {w : World} {g cap j : Nat} {l : List UInt8} (h : Tail w g cap l) (hj : j < l.length) : w.cell? ⟨g, j, none⟩ = some (.int .u8 ((l.getD j 0).toNat : Int)) := by
  have := h.bytes.cells _ rfl j (.int .u8 ((l.getD j 0).toNat : Int)) (by simp [bs, List.getD, hj])
  rwa [Addr.add_lit, Nat.zero_add] at this
theorem size_setC (w : World) (a : Addr) (v : Value) : (w.setCell a v).heap.size = w.heap.size := by simp [World.setCell]
theorem grown_set (w : World) (g j : Nat) (x : Value) : w.grownBy (w.setCell ⟨g, j, none⟩ x) (some g) :=
  ⟨rfl, rfl, rfl, Nat.le_of_eq (size_setC _ _ _).symm, fun k _ hk => Below.heap_setCell w _ _ k (fun e => hk (by rw [e]))⟩
theorem Tail.set {w : World} {g cap j : Nat} {l : List UInt8} (h : Tail w g cap l) (c : UInt8) : Tail (w.setCell ⟨g, j, none⟩ (.int .u8 (c.toNat : Int))) g cap (l.set j c) := by
  obtain ⟨cur, h1, h2, h3, h4⟩ := h
  refine ⟨cur.setIfInBounds j (.int .u8 (c.toNat : Int)), ?_, by rw [Array.size_setIfInBounds]; exact h2, by rw [List.length_set]; exact h3, ?_⟩
  · rw [setCell_eq_setRow w g j cur _ _ _ h1, Array.size_setIfInBounds]
    exact setRow_heap w g cur _ _ _ h1
  · rw [List.length_set, Array.toList_setIfInBounds, List.take_set, h4, bs, bs, List.map_set]
theorem conv_tail (s : ByteArray) (W : World) (hs : s.size ≤ maxLen) : ∃ cap W', (convert 9 91 (.string s)).run Tryz.prog W = .ok (.slice (some ⟨W.heap.size, 0, none⟩) s.size cap) W' ∧
    Tail W' W.heap.size cap s.data.toList ∧ cap ≤ maxLen ∧ Below W.heap.size W W' ∧ W'.heap.size = W.heap.size + 1 := by
  have hr := run_bytes_of_string (P := Tryz.prog) W 9 91 5 s Tryz.underlying9 Tryz.underlying91 Tryz.underlying5
  have hge := grownCap_ge W s.size 0 5
  have hle := grownCap_le_maxLen W s.size 0 5 hs
  have hsz : s.data.size = s.size := rfl
  have hrs : (bytesRow s (grownCap W s.size 0 5)).size = grownCap W s.size 0 5 := by rw [bytesRow, Array.size_append, Array.size_map, Array.size_replicate]; omega
  refine ⟨_, _, hr, ⟨_, heap_alloc_new W.drew _, hrs, by rw [Array.length_toList]; omega, ?_⟩, hle, (Below.refl _ _).drew.alloc (Nat.le_refl _) _, by simp⟩
  rw [bytesRow, Array.toList_append, Array.toList_map, List.take_left' (by rw [List.length_map])]
  rfl

end T21
end Go.Proofs.YtmlfekbmbnfkjabGreatDoor

