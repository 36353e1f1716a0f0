/-
  Rows of sixteen numbers in a block: read and stored. A matrix in memory, and the reference's.
-/
import Derived.Test.YtcndgbepdgjkeaaRjo
import Derived.Test.YtcndgbepdgjkeaaMex
import Derived.Deep.MidRow
import Derived.Laws.MakeOwn
namespace Go.Proofs.Ytcndgbepdgjkeaa
set_option maxRecDepth 100000
open Go.RowKit

section
variable {w w' w'' : World} {g b k o n B r : Nat} {cs : List Value}
theorem cell_same (h : w'.heap[g]? = w.heap[g]?) : w'.cell? ⟨g, k, none⟩ = w.cell? ⟨g, k, none⟩ := by simp only [World.cell?, h]
theorem frozen_same (h : w'.heap[g]? = w.heap[g]?) : w'.frozen? ⟨g, k, none⟩ = w.frozen? ⟨g, k, none⟩ := by simp only [World.frozen?, h]
theorem range_same (h : w'.heap[g]? = w.heap[g]?) (hr : w.rangeAt g o cs) : w'.rangeAt g o cs := fun j v hv => by rw [cell_same h]; exact hr j v hv
theorem there_same (h : w'.heap[g]? = w.heap[g]?) (hr : w.there g o n) : w'.there g o n := fun j hj => by rw [cell_same h, frozen_same h]; exact hr j hj

/-- One block may have turned, and new ones may be there; no other has turned. -/
structure Chg (g : Nat) (w w' : World) : Prop where
  os : w'.os = w.os
  tape : w'.tape = w.tape
  output : w'.output = w.output
  size : w.heap.size ≤ w'.heap.size
  block : ∀ k, k < w.heap.size → k ≠ g → w'.heap[k]? = w.heap[k]?
theorem Chg.refl (g : Nat) (w : World) : Chg g w w := ⟨rfl, rfl, rfl, Nat.le_refl _, fun _ _ _ => rfl⟩
theorem Chg.of_below (h : Below w.heap.size w w') : Chg g w w' := ⟨h.os, h.tape, h.output, h.size, fun k hk _ => h.block k hk⟩
theorem Chg.trans (h : Chg g w w') (h' : Chg g w' w'') : Chg g w w'' :=
  ⟨h'.os.trans h.os, h'.tape.trans h.tape, h'.output.trans h.output, Nat.le_trans h.size h'.size, fun k hk hg => (h'.block k (Nat.lt_of_lt_of_le hk h.size) hg).trans (h.block k hk hg)⟩
theorem Chg.below (h : Chg g w w') (hB : B ≤ g) (hs : B ≤ w.heap.size) : Below B w w' := ⟨h.os, h.tape, h.output, h.size, fun k hk => h.block k (by omega) (by omega)⟩
theorem setCells_heap (b : Nat) : ∀ (vs : List Value) (o : Nat) (w : World), (w.setCells b o vs).os = w.os ∧ (w.setCells b o vs).tape = w.tape ∧ (w.setCells b o vs).output = w.output ∧ (w.setCells b o vs).heap.size = w.heap.size ∧ ∀ k, k ≠ b → (w.setCells b o vs).heap[k]? = w.heap[k]?
  | [], _, _ => ⟨rfl, rfl, rfl, rfl, fun _ _ => rfl⟩
  | v :: r, o, w => by
    obtain ⟨h1, h2, h3, h4, h5⟩ := setCells_heap b r (o + 1) (w.setCell ⟨b, o, none⟩ v)
    refine ⟨h1, h2, h3, ?_, fun k hk => (h5 k hk).trans (Below.heap_setCell w ⟨b, o, none⟩ v k hk)⟩
    rw [World.setCells, h4]
    simp [World.setCell]
theorem Chg.set (w : World) (g o : Nat) (vs : List Value) : Chg g w (w.setCells g o vs) := by
  obtain ⟨h1, h2, h3, h4, h5⟩ := setCells_heap g vs o w
  exact ⟨h1, h2, h3, Nat.le_of_eq h4.symm, fun k _ hk => h5 k hk⟩
theorem Chg.drew (h : Chg g w w') : Chg g w w'.drew := ⟨h.os, h.tape, h.output, h.size, h.block⟩
theorem Lies.chg {l : List Int} (h : Lies w k l) (hc : Chg g w w') (hk : k ≠ g) : Lies w' k l := by rw [Lies, hc.block k h.lt hk]; exact h
end

/-- Rows lie in a block from a cell on. -/
structure Grid (w : World) (g off n : Nat) (R : Nat → List Int) : Prop where
  len : ∀ r, (R r).length = 16
  row : ∀ r, r < n → w.rangeAt g (off + r * 16) ((R r).map (Value.int .i64))
  room : ∀ r, r < n → w.there g (off + r * 16) 16
/-- One row is another one. -/
def setR (R : Nat → List Int) (r : Nat) (l : List Int) : Nat → List Int := fun k => if k = r then l else R k
section
variable {w w' w'' : World} {g b k o n B r off : Nat} {R : Nat → List Int} {l : List Int}
theorem Grid.same (h : Grid w g off n R) (hb : w'.heap[g]? = w.heap[g]?) : Grid w' g off n R := ⟨h.len, fun r hr => range_same hb (h.row r hr), fun r hr => there_same hb (h.room r hr)⟩
theorem setR_len (h : ∀ k, (R k).length = 16) (hl : l.length = 16) (k : Nat) : (setR R r l k).length = 16 := by
  by_cases he : k = r
  · rw [setR, if_pos he]; exact hl
  · rw [setR, if_neg he]; exact h k
theorem Grid.store (h : Grid w g off n R) (hr : r < n) (hl : l.length = 16) : Grid (w.setCells g (off + r * 16) (l.map (Value.int .i64))) g off n (setR R r l) := by
  have hm : (l.map (Value.int .i64)).length = 16 := by rw [List.length_map]; exact hl
  refine ⟨setR_len h.len hl, fun k hk => ?_, fun k hk => World.there_setCells (h.room k hk) _ _ _⟩
  by_cases he : k = r
  · subst he
    rw [setR, if_pos rfl]
    exact World.rangeAt_setCells_same w g _ _ (by rw [hm]; exact h.room k hk)
  · rw [setR, if_neg he]
    refine World.rangeAt_setCells_apart (h.row k hk) _ _ _ (.inr ?_)
    rw [List.length_map, h.len, hm]
    omega
theorem grid_load (h : Grid w g off n R) (hr : r < n) : (loadVar 24 ⟨g, off + r * 16, none⟩).run Try.prog w = .ok (.agg (vals (R r))) w :=
  run_loadVar_mid w g _ 24 _ _ (h.row r hr) Try.underlying24 rfl (by have := size16 (R r) (h.len r); rwa [vals_size, ← List.length_map (f := Value.int .i64)] at this)
theorem grid_store (h : Grid w g off n R) (hr : r < n) (hl : l.length = 16) : (storeVar 24 ⟨g, off + r * 16, none⟩ (.agg (vals l))).run Try.prog w = .ok () (w.setCells g (off + r * 16) (l.map (Value.int .i64))) := by
  have := run_storeVar_mid (P := Try.prog) w g (off + r * 16) 24 (vals l) (by rw [vals_size, hl]; exact h.room r hr) (size16 l hl) (vals_one l)
  rwa [vals, List.toList_toArray] at this
theorem Grid.cell (h : Grid w g off n R) (hr : r < n) (hk : k < 16) : w.cell? ⟨g, off + r * 16 + k, none⟩ = some (.int .i64 ((R r).getD k 0)) :=
  h.row r hr k _ (by have := h.len r; simp [List.getD, show k < (R r).length by omega])
theorem grid_new (w : World) (t : TypeId) (cs : Array Value) (off n : Nat) (h : ∀ j, j < n * 16 → cs[off + j]? = some (.int .i64 0)) : Grid (w.alloc (.cells cs t)) w.heap.size off n (fun _ => zeros) := by
  have hc : ∀ k, (w.alloc (.cells cs t)).cell? ⟨w.heap.size, k, none⟩ = cs[k]? := fun k => by rw [cell_of_row _ w.heap.size k _ _ _ (heap_alloc_new w _)]
  refine ⟨fun _ => rfl, fun r hr j v hv => ?_, fun r hr j hj => ⟨?_, frozen_of_row _ _ _ _ _ (heap_alloc_new w _)⟩⟩
  · have hj : j < 16 := by have := (List.getElem?_eq_some_iff.1 hv).1; simpa [zeros] using this
    have hz : zeros.map (Value.int .i64) = List.replicate 16 (.int .i64 0) := rfl
    have hv' : v = .int .i64 0 := by
      rw [hz, List.getElem?_replicate, if_pos hj] at hv
      exact (Option.some.inj hv).symm
    rw [hc, show off + r * 16 + j = off + (r * 16 + j) by omega, h _ (by omega), hv']
  · rw [hc, show off + r * 16 + j = off + (r * 16 + j) by omega, h _ (by omega)]
    rfl
end
theorem run_indexAt_arr (w : World) (g o r : Nat) (hr : r < 16) : (Instr.indexAt 46 (.pointer (some ⟨g, o, none⟩)) (.int .i64 (r : Int))).run Try.prog w = .ok (.pointer (some ⟨g, o + r * 16, none⟩)) w := by
  have hu : Try.prog.underlying 46 = some (.array 16 24) := by kernel_rfl
  have e : (⟨g, o, none⟩ : Addr).add (r * 16) = ⟨g, o + r * 16, none⟩ := Addr.add_mid _ _ _
  simp [Instr.indexAt, asIntOf, run_underlying hu, Sem.run_bind, Instr.sureAddr, hr, e]
theorem run_indexAt_vo (w : World) (g o k : Nat) (hk : k < 16) : (Instr.indexAt 24 (.pointer (some ⟨g, o, none⟩)) (.int .i64 (k : Int))).run Try.prog w = .ok (.pointer (some ⟨g, o + k, none⟩)) w := by
  have hu : Try.prog.underlying 24 = some (.array 16 3) := by kernel_rfl
  have e : (⟨g, o, none⟩ : Addr).add k = ⟨g, o + k, none⟩ := Addr.add_mid _ _ _
  simp [Instr.indexAt, asIntOf, run_underlying hu, Sem.run_bind, Instr.sureAddr, hk, e]
theorem run_indexAt_vvs (w : World) (b n c r : Nat) (hr : r < n) : (Instr.indexAt 37 (.slice (some ⟨b, 0, none⟩) n c) (.int .i64 (r : Int))).run Try.prog w = .ok (.pointer (some ⟨b, 0 + r * 16, none⟩)) w := by
  have hu : Try.prog.underlying 37 = some (.slice 24) := by kernel_rfl
  have e : (⟨b, 0, none⟩ : Addr).add (r * 16) = ⟨b, 0 + r * 16, none⟩ := Addr.add_mid _ _ _
  simp [Instr.indexAt, asIntOf, run_underlying hu, Sem.run_bind, Instr.sureAddr, hr, e]
theorem field_m0 (w : World) (g : Nat) : (Instr.fieldAt 48 (.pointer (some ⟨g, 0, none⟩)) 0).run Try.prog w = .ok (.pointer (some ⟨g, 0, none⟩)) w := by kernel_rfl
theorem field_m1 (w : World) (g : Nat) : (Instr.fieldAt 48 (.pointer (some ⟨g, 0, none⟩)) 1).run Try.prog w = .ok (.pointer (some ⟨g, 1, none⟩)) w := by kernel_rfl
theorem field_rm (w : World) (g : Nat) : (Instr.fieldAt 39 (.pointer (some ⟨g, 0, none⟩)) 0).run Try.prog w = .ok (.pointer (some ⟨g, 0, none⟩)) w := by kernel_rfl
theorem build_vv0 (w : World) : (Instr.build 24 #[]).run Try.prog w = .ok (.agg (vals zeros)) w := by kernel_rfl

/-- A matrix of n replicas. -/
structure Mat (w : World) (g n : Nat) (R : Nat → List Int) : Prop where
  grid : Grid w g 1 16 R
  num : w.cell? ⟨g, 0, none⟩ = some (.int .i64 (n : Int))
  le : n ≤ 16
/-- The reference's. -/
structure RMat (w : World) (g b n : Nat) (R : Nat → List Int) : Prop where
  grid : Grid w b 0 n R
  cell : w.cell? ⟨g, 0, none⟩ = some (.slice (some ⟨b, 0, none⟩) n n)
  ne : g ≠ b
  pos : 1 ≤ n
  lb : b < w.heap.size
section
variable {w w' w'' : World} {g b k o n B r h : Nat} {R : Nat → List Int} {l : List Int}
theorem Mat.lt (h : Mat w g n R) : g < w.heap.size := World.block_lt_of_cell? w _ h.num
theorem Mat.same (h : Mat w g n R) (hb : w'.heap[g]? = w.heap[g]?) : Mat w' g n R := ⟨h.grid.same hb, by rw [cell_same hb]; exact h.num, h.le⟩
theorem Mat.below (h : Mat w g n R) (hb : Below B w w') (hg : g < B) : Mat w' g n R := h.same (hb.block g hg)
theorem Mat.chg (h : Mat w g n R) (hc : Chg k w w') (hk : g ≠ k) : Mat w' g n R := h.same (hc.block g h.lt hk)
theorem Mat.alloc (h : Mat w g n R) (ob : Obj) : Mat (w.alloc ob) g n R := h.same (Below.heap_alloc w ob g h.lt)
theorem Mat.drew (h : Mat w g n R) : Mat w.drew g n R := h.same rfl
theorem Mat.store (h : Mat w g n R) (hr : r < 16) (hl : l.length = 16) : Mat (w.setCells g (1 + r * 16) (l.map (Value.int .i64))) g n (setR R r l) :=
  ⟨h.grid.store hr hl, by rw [World.cell?_setCells_out g _ _ w ⟨g, 0, none⟩ (fun _ _ => .inl (by show 0 < 1 + r * 16; omega))]; exact h.num, h.le⟩
theorem RMat.lt (h : RMat w g b n R) : g < w.heap.size := World.block_lt_of_cell? w _ h.cell
theorem RMat.same (h : RMat w g b n R) (hg : w'.heap[g]? = w.heap[g]?) (hb : w'.heap[b]? = w.heap[b]?) (hs : w.heap.size ≤ w'.heap.size) : RMat w' g b n R :=
  ⟨h.grid.same hb, by rw [cell_same hg]; exact h.cell, h.ne, h.pos, Nat.lt_of_lt_of_le h.lb hs⟩
theorem RMat.below (h : RMat w g b n R) (hb : Below B w w') (hB : w.heap.size ≤ B) : RMat w' g b n R := h.same (hb.block g (by have := h.lt; omega)) (hb.block b (by have := h.lb; omega)) hb.size
theorem RMat.chg (h : RMat w g b n R) (hc : Chg k w w') (hk : g ≠ k) (hk' : b ≠ k) : RMat w' g b n R := h.same (hc.block g h.lt hk) (hc.block b h.lb hk') hc.size
theorem RMat.alloc (h : RMat w g b n R) (ob : Obj) : RMat (w.alloc ob) g b n R := h.same (Below.heap_alloc w ob g h.lt) (Below.heap_alloc w ob b h.lb) (by simp)
theorem RMat.drew (h : RMat w g b n R) : RMat w.drew g b n R := h.same rfl rfl (Nat.le_refl _)
theorem RMat.store (h : RMat w g b n R) (hr : r < n) (hl : l.length = 16) : RMat (w.setCells b (0 + r * 16) (l.map (Value.int .i64))) g b n (setR R r l) :=
  ⟨h.grid.store hr hl, by rw [World.cell?_setCells_out b _ _ w ⟨g, 0, none⟩ (fun hb _ => absurd hb h.ne)]; exact h.cell, h.ne, h.pos, Nat.lt_of_lt_of_le h.lb (Chg.set w b _ _).size⟩
end
/-- A pointer to a matrix, or none. -/
def MP (w : World) (p : Value) (n : Nat) (R : Nat → List Int) : Prop := (∃ g, p = .pointer (some ⟨g, 0, none⟩) ∧ Mat w g n R) ∨ (p = .pointer none ∧ n = 0 ∧ ∀ r, (R r).length = 16)
section
variable {w w' w'' : World} {g n B r : Nat} {p : Value} {R : Nat → List Int}
theorem Mat.mp (h : Mat w g n R) : MP w (.pointer (some ⟨g, 0, none⟩)) n R := .inl ⟨g, rfl, h⟩
theorem MP.len (h : MP w p n R) : ∀ r, (R r).length = 16 := by
  rcases h with ⟨g, -, h⟩ | ⟨-, -, h⟩
  · exact h.grid.len
  · exact h
theorem MP.le (h : MP w p n R) : n ≤ 16 := by
  rcases h with ⟨g, -, h⟩ | ⟨-, h, -⟩
  · exact h.le
  · omega
theorem MP.mat (h : MP w p n R) (hn : 0 < n) : ∃ g, p = .pointer (some ⟨g, 0, none⟩) ∧ Mat w g n R := by
  rcases h with h | ⟨-, h, -⟩
  · exact h
  · omega
theorem MP.below (h : MP w p n R) (hb : Below B w w') (hB : w.heap.size ≤ B) : MP w' p n R := by
  rcases h with ⟨g, rfl, h⟩ | h
  · exact .inl ⟨g, rfl, h.below hb (Nat.lt_of_lt_of_le h.lt hB)⟩
  · exact .inr h
theorem MP.alloc (h : MP w p n R) (ob : Obj) : MP (w.alloc ob) p n R := by
  rcases h with ⟨g, rfl, h⟩ | h
  · exact .inl ⟨g, rfl, h.alloc ob⟩
  · exact .inr h
end
end Go.Proofs.Ytcndgbepdgjkeaa
