/-
  Bytes that were made of a text: the block bears a mark behind its cells. What 'append' to them comes to.
-/
import Derived.Test.YtmlfekbmbnfkjaaGreatDoorQ23
import Derived.ArgAppend
import Derived.Shelf.GgSortFunc.RowK
namespace Go.Proofs.YtmlfekbmbnfkjaaGreatDoor
set_option maxRecDepth 100000
namespace T21
open Go.RowKit Go.Sort

def Tail (w : World) (g cap : Nat) (l : List UInt8) : Prop :=
  ∃ cur : Array Value, w.heap[g]? = some (.cells cur 5 (cur.size, cur.size + 1)) ∧ cur.size = cap ∧ l.length ≤ cap ∧ cur.toList.take l.length = bs l
theorem Tail.lt {w : World} {g cap : Nat} {l : List UInt8} (h : Tail w g cap l) : g < w.heap.size := by
  obtain ⟨cur, h1, -⟩ := h
  exact (Array.getElem?_eq_some_iff.1 h1).1
theorem Tail.bytes {w : World} {g cap : Nat} {l : List UInt8} (h : Tail w g cap l) : Bytes w (some ⟨g, 0, none⟩) l.length cap l := by
  obtain ⟨cur, h1, h2, h3, h4⟩ := h
  refine ⟨rfl, h3, (fun h => by cases h), fun ad had j u hu => ?_⟩
  obtain rfl := Option.some.inj had
  rw [Addr.add_lit, Nat.zero_add, cell_of_row w g j cur _ _ h1, ← Array.getElem?_toList]
  rw [← h4, List.getElem?_take] at hu
  split at hu
  · exact hu
  · cases hu
theorem Tail.same {w w' : World} {g cap : Nat} {l : List UInt8} (h : Tail w g cap l) (hb : w'.heap[g]? = w.heap[g]?) : Tail w' g cap l := by
  obtain ⟨cur, h1, h2⟩ := h
  exact ⟨cur, by rw [hb]; exact h1, h2⟩
theorem Tail.below {w w' : World} {g cap : Nat} {l : List UInt8} (h : Tail w g cap l) (hb : Below w.heap.size w w') : Tail w' g cap l := h.same (hb.block g h.lt)
theorem Tail.fz {w : World} {g cap j : Nat} {l : List UInt8} (h : Tail w g cap l) (hj : j < cap) : w.frozen? ⟨g, j, none⟩ = false := by
  obtain ⟨cur, h1, h2, -⟩ := h
  unfold World.frozen?
  rw [h1]
  simp only [Bool.and_eq_false_iff, decide_eq_false_iff_not]
  left; omega
theorem Tail.there {w : World} {g cap j : Nat} {l : List UInt8} (h : Tail w g cap l) (hj : j < cap) : (w.cell? ⟨g, j, none⟩).isSome = true := by
  obtain ⟨cur, h1, h2, -⟩ := h
  rw [cell_of_row w g j cur _ _ h1, Array.getElem?_eq_getElem (by omega)]; rfl
theorem Tail.cell {w : World} {g cap j : Nat} {l : List UInt8} (h : Tail w g cap l) (hj : j < l.length) : w.cell? ⟨g, j, none⟩ = some (.int .u8 ((l.getD j 0).toNat : Int)) := by
  have := h.bytes.cells _ rfl j (.int .u8 ((l.getD j 0).toNat : Int)) (by simp [bs, List.getD, hj])
  rwa [Addr.add_lit, Nat.zero_add] at this
theorem size_setC (w : World) (a : Addr) (v : Value) : (w.setCell a v).heap.size = w.heap.size := by simp [World.setCell]
theorem grown_set (w : World) (g j : Nat) (x : Value) : w.grownBy (w.setCell ⟨g, j, none⟩ x) (some g) :=
  ⟨rfl, rfl, rfl, Nat.le_of_eq (size_setC _ _ _).symm, fun k _ hk => Below.heap_setCell w _ _ k (fun e => hk (by rw [e]))⟩
theorem Tail.set {w : World} {g cap j : Nat} {l : List UInt8} (h : Tail w g cap l) (c : UInt8) : Tail (w.setCell ⟨g, j, none⟩ (.int .u8 (c.toNat : Int))) g cap (l.set j c) := by
  obtain ⟨cur, h1, h2, h3, h4⟩ := h
  refine ⟨cur.setIfInBounds j (.int .u8 (c.toNat : Int)), ?_, by rw [Array.size_setIfInBounds]; exact h2, by rw [List.length_set]; exact h3, ?_⟩
  · rw [setCell_eq_setRow w g j cur _ _ _ h1, Array.size_setIfInBounds]
    exact setRow_heap w g cur _ _ _ h1
  · rw [List.length_set, Array.toList_setIfInBounds, List.take_set, h4, bs, bs, List.map_set]
theorem conv_tail (s : ByteArray) (W : World) (hs : s.size ≤ maxLen) : ∃ cap W', (convert 9 67 (.string s)).run Tryz.prog W = .ok (.slice (some ⟨W.heap.size, 0, none⟩) s.size cap) W' ∧
    Tail W' W.heap.size cap s.data.toList ∧ cap ≤ maxLen ∧ Below W.heap.size W W' ∧ W'.heap.size = W.heap.size + 1 := by
  have hr := run_bytes_of_string (P := Tryz.prog) W 9 67 5 s Tryz.underlying9 Tryz.underlying67 Tryz.underlying5
  have hge := grownCap_ge W s.size 0 5
  have hle := grownCap_le_maxLen W s.size 0 5 hs
  have hsz : s.data.size = s.size := rfl
  have hrs : (bytesRow s (grownCap W s.size 0 5)).size = grownCap W s.size 0 5 := by rw [bytesRow, Array.size_append, Array.size_map, Array.size_replicate]; omega
  refine ⟨_, _, hr, ⟨_, heap_alloc_new W.drew _, hrs, by rw [Array.length_toList]; omega, ?_⟩, hle, (Below.refl _ _).drew.alloc (Nat.le_refl _) _, by simp⟩
  rw [bytesRow, Array.toList_append, Array.toList_map, List.take_left' (by rw [List.length_map])]
  rfl

theorem heap_setCells_tail {g : Nat} {t : TypeId} {fz : Nat × Nat} : ∀ (vs : List Value) (o : Nat) (w : World) (cur : Array Value), w.heap[g]? = some (.cells cur t fz) → (w.setCells g o vs).heap[g]? = some (.cells (setMany cur o vs) t fz)
  | [], _, _, _, h => h
  | v :: vs, o, w, cur, h => heap_setCells_tail vs (o + 1) (w.setCell ⟨g, o, none⟩ v) (cur.setIfInBounds o v) (by rw [setCell_eq_setRow w g o cur _ _ _ h]; exact setRow_heap w g cur _ _ _ h)
theorem cells_same' (g : Nat) : ∀ (vs : List Value) (o : Nat) (w : World), (w.setCells g o vs).os = w.os ∧ (w.setCells g o vs).tape = w.tape ∧ (w.setCells g o vs).output = w.output ∧ (w.setCells g o vs).heap.size = w.heap.size
  | [], _, _ => ⟨rfl, rfl, rfl, rfl⟩
  | v :: vs, o, w => by
    obtain ⟨h1, h2, h3, h4⟩ := cells_same' g vs (o + 1) (w.setCell ⟨g, o, none⟩ v)
    exact ⟨h1, h2, h3, by rw [World.setCells, h4, size_setC]⟩
theorem cells_other' (g : Nat) : ∀ (vs : List Value) (o : Nat) (w : World) (k : Nat), k ≠ g → (w.setCells g o vs).heap[k]? = w.heap[k]?
  | [], _, _, _, _ => rfl
  | v :: vs, o, w, k, hk => (cells_other' g vs (o + 1) (w.setCell ⟨g, o, none⟩ v) k hk).trans (Below.heap_setCell w ⟨g, o, none⟩ v k hk)

/-- 'append' to such bytes: the bytes of both, wherever they then lie. -/
theorem app_tail {w : World} {g cap : Nat} {l : List UInt8} (h : Tail w g cap l) (hcap : cap ≤ maxLen) {ao : Option Addr} {m c : Nat} {x : List UInt8} (hx : Bytes w ao m c x) (ty : TypeId) (B : Nat) (hB : B ≤ g) (h1 : l.length + m ≤ maxLen) (h2 : l.length + m ≤ 140737488355328) :
    ∃ ao' c' w', (Builtin.append_ #[67, 67] ty #[.slice (some ⟨g, 0, none⟩) l.length cap, .slice ao m c]).run Tryz.prog w = .ok (.slice ao' (l.length + m) c') w' ∧ Bytes w' ao' (l.length + m) c' (l ++ x) ∧ c' ≤ maxLen ∧ Below B w w' := by
  obtain ⟨i0, hi, hz0, hz1, hz2⟩ := info_parts info5
  have ht : Tryz.prog.underlying 67 = some (.slice 5) := Tryz.underlying67
  have hlx := hx.len
  have hbx : (bs x).length = m := by rw [bs_length, hlx]
  cases ao with
  | none =>
    obtain ⟨rfl, rfl⟩ := hx.none rfl
    have hxn : x = [] := List.eq_nil_of_length_eq_zero hlx
    subst hxn
    have hb := h.bytes
    refine ⟨some ⟨g, 0, none⟩, cap, w, ?_, by rw [List.append_nil, Nat.add_zero]; exact hb, hcap, Below.refl _ _⟩
    simp [Builtin.append_, run_underlying ht, sizeOf, typeInfo, hi, Builtin.lenOf, Builtin.firstCells, hb.room, storeCells]
  | some ad =>
    by_cases hr : l.length + m ≤ cap
    · have hrun := run_append_room_cells (P := Tryz.prog) w 67 ty 5 i0 ht hi g 0 l.length cap ad m c (bs x) (by rw [hbx, hz1, Nat.mul_one]) (hx.cells ad rfl) (bs_oneCell x) hr
        (fun j hj => by rw [hz1, Nat.mul_one, Nat.zero_add]; exact h.there (by omega)) (fun j hj => by rw [hz1, Nat.mul_one, Nat.zero_add]; exact h.fz (by omega))
      rw [hz1, Nat.mul_one, Nat.zero_add] at hrun
      obtain ⟨e1, e2, e3, e4⟩ := cells_same' g (bs x) l.length w
      refine ⟨_, _, _, hrun, ?_, hcap, ⟨e1, e2, e3, Nat.le_of_eq e4.symm, fun k hk => cells_other' g _ _ w k (by omega)⟩⟩
      obtain ⟨cur, hg, hcs, hll, htk⟩ := h
      have hg' := heap_setCells_tail (bs x) l.length w cur hg
      refine ⟨by rw [List.length_append, hlx], hr, (fun h => by cases h), fun ad' had j u hu => ?_⟩
      obtain rfl := Option.some.inj had
      have hj : j < l.length + m := by have := (List.getElem?_eq_some_iff.1 hu).1; rw [bs_length, List.length_append, hlx] at this; exact this
      have hjc : j < cur.size := by omega
      rw [Addr.add_lit, Nat.zero_add, cell_of_row _ g j _ _ _ hg', Array.getElem?_eq_getElem (by rw [size_setMany]; exact hjc), ← getElem!_pos (setMany cur l.length (bs x)) j (by rw [size_setMany]; exact hjc), get_setMany _ _ _ _ hjc, hbx]
      rw [bs_append] at hu
      by_cases hjl : j < l.length
      · rw [if_neg (by omega)]
        rw [List.getElem?_append_left (by rw [bs_length]; exact hjl), ← htk, List.getElem?_take_of_lt hjl, Array.getElem?_toList, Array.getElem?_eq_getElem hjc] at hu
        rw [getElem!_pos cur j hjc]; exact hu
      · rw [if_pos ⟨by omega, hj⟩]
        rw [List.getElem?_append_right (by rw [bs_length]; omega), bs_length, List.getElem?_eq_getElem (by rw [hbx]; omega)] at hu
        rw [getElem!_pos _ _ (by rw [hbx]; omega)]; exact hu
    · have hb := h.bytes
      obtain ⟨v', w', hrun, r1, r2⟩ := run_append_arg_grows (P := Tryz.prog) w 67 ty 5 i0 _ 1 1 ht hi hz0 hz1 hz2 rfl (by omega) ⟨g, 0, none⟩ l.length cap (bs l) (by rw [bs_length, Nat.mul_one]) (hb.cells _ rfl) ad m c (bs x) (by rw [hbx, Nat.mul_one]) (hx.cells ad rfl) (by omega) h1 (by omega)
      have hM : Made w' w.heap.size v' (l ++ x) := by rw [Made, List.length_append, hlx, bs_append]; exact r1
      obtain ⟨ao', c', rfl, hB', hc'⟩ := hM.bytes
      rw [List.length_append, hlx] at hrun hB'
      exact ⟨ao', c', w', hrun, hB', hc', ⟨r2.os, r2.tape, r2.output, r2.size, fun k hk => r2.block k (by have := h.lt; omega) (by simp)⟩⟩
end T21
end Go.Proofs.YtmlfekbmbnfkjaaGreatDoor

