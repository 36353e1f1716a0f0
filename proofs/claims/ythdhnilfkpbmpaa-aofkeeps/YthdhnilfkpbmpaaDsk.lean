/-
  A disk in memory; what New, orZero, Room, Fast, Sync and bytes.Clone come to.
-/
import Derived.Test.YthdhnilfkpbmpaaByd
namespace Go.Proofs.Ythdhnilfkpbmpaa
set_option maxRecDepth 100000

open Go.RowKit

/-- A disk lies in a block: its file is a row of its own, l; f bytes are fast; its room is r. -/
structure Dsk (w : World) (base g : Nat) (v : Value) (l : List UInt8) (f r : Nat) : Prop where
  blk : w.heap[g]? = some (.cells #[v, .int .i64 (f : Int), .int .i64 (r : Int)] 69 (0, 0))
  row : w.ownsRow base 5 1 v l.length (bs l)
  low : base ≤ g
  len : l.length ≤ r
  top : r ≤ 65536
/-- What a call may have turned: the disk's block and its file's; what the file is then is the old row, or a new one. -/
structure Step (g : Nat) (v v' : Value) (w w' : World) : Prop where
  os : w'.os = w.os
  tape : w'.tape = w.tape
  output : w'.output = w.output
  size : w.heap.size ≤ w'.heap.size
  block : ∀ k, k < w.heap.size → k ≠ g → v.ownBlock ≠ some k → w'.heap[k]? = w.heap[k]?
  own : ∀ k, v'.ownBlock = some k → v.ownBlock = some k ∨ w.heap.size ≤ k

theorem Step.refl (g : Nat) (v : Value) (w : World) : Step g v v w w := ⟨rfl, rfl, rfl, Nat.le_refl _, fun _ _ _ _ => rfl, fun _ h => .inl h⟩
theorem Step.trans {g : Nat} {v v' v'' : Value} {a b c : World} (h : Step g v v' a b) (k : Step g v' v'' b c) : Step g v v'' a c :=
  ⟨k.os.trans h.os, k.tape.trans h.tape, k.output.trans h.output, Nat.le_trans h.size k.size,
   fun i hi hg hv => (k.block i (Nat.lt_of_lt_of_le hi h.size) hg (fun e => by rcases h.own i e with h1 | h1; · exact hv h1
                                                                               · omega)).trans (h.block i hi hg hv),
   fun i hi => by
    rcases k.own i hi with h1 | h1
    · exact h.own i h1
    · exact .inr (Nat.le_trans h.size h1)⟩
theorem Step.below {g B : Nat} {v v' : Value} {w w' : World} (h : Step g v v' w w') (hB : B ≤ w.heap.size) (hg : B ≤ g) (hv : ∀ k, v.ownBlock = some k → B ≤ k) : Below B w w' :=
  ⟨h.os, h.tape, h.output, h.size, fun k hk => h.block k (by omega) (by omega) (fun e => by have := hv k e; omega)⟩

theorem Dsk.lt {w : World} {base g f r : Nat} {v : Value} {l : List UInt8} (h : Dsk w base g v l f r) : g < w.heap.size := (Array.getElem?_eq_some_iff.1 h.blk).1
theorem Dsk.own {w : World} {base g f r : Nat} {v : Value} {l : List UInt8} (h : Dsk w base g v l f r) : ∀ k, v.ownBlock = some k → base ≤ k ∧ k < w.heap.size ∧ k ≠ g := by
  intro k hk
  have h1 := h.row.lt k hk
  refine ⟨h1.1, h1.2, ?_⟩
  rintro rfl
  rcases h.row.2 with ⟨rfl, _⟩ | ⟨g', cap, cur, rfl, _, hg, _⟩
  · cases hk
  · simp only [Value.ownBlock, Option.some.injEq] at hk
    rw [hk, h.blk] at hg
    simp only [Option.some.injEq, Obj.cells.injEq] at hg
    exact absurd hg.2.1 (by decide)
theorem Dsk.stepBelow {w w' : World} {base g f r : Nat} {v v' : Value} {l : List UInt8} (h : Dsk w base g v l f r) (hs : Step g v v' w w') (hB : base ≤ w.heap.size) : Below base w w' :=
  hs.below hB h.low (fun k hk => (h.own k hk).1)
/-- What it is, as a slice. -/
theorem Dsk.val {w : World} {base g f r : Nat} {v : Value} {l : List UInt8} (h : Dsk w base g v l f r) : ∃ ao cap, v = .slice ao l.length cap ∧ Bytes w ao l.length cap l ∧ cap ≤ maxLen := by
  rcases h.row.2 with ⟨rfl, h0⟩ | ⟨g', cap, cur, rfl, hb, hg, hnc, hcm, hcs, htake⟩
  · have h1 : l = [] := List.eq_nil_of_length_eq_zero h0
    subst h1
    exact ⟨none, 0, rfl, Bytes.nil w, Nat.zero_le _⟩
  · exact ⟨some ⟨g', 0, none⟩, cap, rfl, Bytes.own h.row, hcm⟩
theorem Dsk.c0 {w : World} {base g f r : Nat} {v : Value} {l : List UInt8} (h : Dsk w base g v l f r) : w.cell? ⟨g, 0, none⟩ = some v := cell_of_row w g 0 _ _ _ h.blk
theorem Dsk.c1 {w : World} {base g f r : Nat} {v : Value} {l : List UInt8} (h : Dsk w base g v l f r) : w.cell? ⟨g, 1, none⟩ = some (.int .i64 (f : Int)) := cell_of_row w g 1 _ _ _ h.blk
theorem Dsk.c2 {w : World} {base g f r : Nat} {v : Value} {l : List UInt8} (h : Dsk w base g v l f r) : w.cell? ⟨g, 2, none⟩ = some (.int .i64 (r : Int)) := cell_of_row w g 2 _ _ _ h.blk
theorem Dsk.fz {w : World} {base g f r : Nat} {v : Value} {l : List UInt8} (h : Dsk w base g v l f r) (i : Nat) : w.frozen? ⟨g, i, none⟩ = false := frozen_of_row w g i _ _ h.blk
/-- Kept where neither its block nor its file's is written. -/
theorem Dsk.kept {w w' : World} {base g f r : Nat} {v : Value} {l : List UInt8} (h : Dsk w base g v l f r) (hb : ∀ k, k < w.heap.size → (k = g ∨ v.ownBlock = some k) → w'.heap[k]? = w.heap[k]?) : Dsk w' base g v l f r := by
  refine ⟨by rw [hb g h.lt (.inl rfl)]; exact h.blk, ⟨h.row.1, ?_⟩, h.low, h.len, h.top⟩
  rcases h.row.2 with hn | ⟨g', cap, cur, rfl, hb', hgg, rest⟩
  · exact .inl hn
  · exact .inr ⟨g', cap, cur, rfl, hb', by rw [hb g' (Array.getElem?_eq_some_iff.1 hgg).1 (.inr rfl)]; exact hgg, rest⟩
theorem Dsk.below {w w' : World} {base g f r B : Nat} {v : Value} {l : List UInt8} (h : Dsk w base g v l f r) (hb : Below B w w') (hB : w.heap.size ≤ B) : Dsk w' base g v l f r :=
  h.kept fun k hk _ => hb.block k (by omega)
/-- Another disk's call. -/
theorem Dsk.step {w w' : World} {base g f r g2 : Nat} {v v2 v2' : Value} {l : List UInt8} (h : Dsk w base g v l f r) (hs : Step g2 v2 v2' w w') (hg : g ≠ g2) (h2 : v2.ownBlock ≠ some g) (h1 : v.ownBlock ≠ some g2) (h3 : ∀ k, v.ownBlock = some k → v2.ownBlock ≠ some k) : Dsk w' base g v l f r :=
  h.kept fun k hk hor => by
    rcases hor with rfl | hv
    · exact hs.block k hk hg h2
    · exact hs.block k hk (fun e => h1 (by rw [hv, e])) (h3 k hv)
theorem set_three0 (w : World) (g : Nat) (a b c x : Value) (t : TypeId) (h : w.heap[g]? = some (.cells #[a, b, c] t (0, 0))) : (w.setCell ⟨g, 0, none⟩ x).heap[g]? = some (.cells #[x, b, c] t (0, 0)) := by
  rw [heap_setCell_same w g 0 _ _ _ h]; rfl
theorem set_three1 (w : World) (g : Nat) (a b c x : Value) (t : TypeId) (h : w.heap[g]? = some (.cells #[a, b, c] t (0, 0))) : (w.setCell ⟨g, 1, none⟩ x).heap[g]? = some (.cells #[a, x, c] t (0, 0)) := by
  rw [heap_setCell_same w g 1 _ _ _ h]; rfl
theorem setCell_size (w : World) (a : Addr) (x : Value) : (w.setCell a x).heap.size = w.heap.size := by simp [World.setCell]
theorem row_off {w : World} {base g : Nat} {v x : Value} {n i : Nat} {xs : List Value} (h : w.ownsRow base 5 1 v n xs) (hg : v.ownBlock ≠ some g) : (w.setCell ⟨g, i, none⟩ x).ownsRow base 5 1 v n xs := by
  refine h.kept (row := some g) ⟨rfl, rfl, rfl, Nat.le_of_eq (setCell_size _ _ _).symm, fun k hk hr => Below.heap_setCell w _ _ k (fun e => hr (by rw [e]))⟩ (.inr hg)
theorem Step.set (g i : Nat) (v : Value) (w : World) (x : Value) : Step g v v w (w.setCell ⟨g, i, none⟩ x) :=
  ⟨rfl, rfl, rfl, Nat.le_of_eq (setCell_size _ _ _).symm, fun k _ hg _ => Below.heap_setCell w _ _ k hg, fun _ h => .inl h⟩
theorem Dsk.notown {w : World} {base g f r : Nat} {v : Value} {l : List UInt8} (h : Dsk w base g v l f r) : v.ownBlock ≠ some g := fun e => (h.own g e).2.2 rfl
/-- All bytes are fast. -/
theorem Dsk.synced {w : World} {base g f r : Nat} {v : Value} {l : List UInt8} (h : Dsk w base g v l f r) : Dsk (w.setCell ⟨g, 1, none⟩ (.int .i64 (l.length : Int))) base g v l l.length r :=
  ⟨set_three1 w g _ _ _ _ _ h.blk, row_off h.row h.notown, h.low, h.len, h.top⟩
/-- The file is another row. -/
theorem Dsk.filed {w : World} {base g f r : Nat} {v v' : Value} {l l' : List UInt8} (h : Dsk w base g v l f r) (h' : w.ownsRow base 5 1 v' l'.length (bs l')) (hn : v'.ownBlock ≠ some g) (hl : l'.length ≤ r) : Dsk (w.setCell ⟨g, 0, none⟩ v') base g v' l' f r :=
  ⟨set_three0 w g _ _ _ _ _ h.blk, row_off h' hn, h.low, hl, h.top⟩

/-- The disk that a pointer stands for. -/
def Orz (w : World) (p : Option Addr) (g : Nat) (w1 : World) : Prop := Calls Try.prog 30 #[.pointer p] w fun e w' => e = .returned (.pointer (some ⟨g, 0, none⟩)) ∧ w' = w1

theorem orz_some (g : Nat) (w : World) : Orz w (some ⟨g, 0, none⟩) g w := by
  unfold Orz
  go_enter Try.func30, Try.ntmps30
  go_wp2
  go_ret
  exact ⟨rfl, rfl⟩
theorem orz_nil (w : World) : Orz w none w.heap.size (w.alloc (.cells #[.slice none 0 0, .int .i64 0, .int .i64 0] 69)) := by
  unfold Orz
  go_enter Try.func30, Try.ntmps30
  go_wp2
  go_ret
  exact ⟨rfl, rfl⟩
theorem dsk_new (w : World) (base r : Nat) (hb : base ≤ w.heap.size) (hr : r ≤ 65536) : Dsk (w.alloc (.cells #[.slice none 0 0, .int .i64 0, .int .i64 (r : Int)] 69)) base w.heap.size (.slice none 0 0) [] 0 r :=
  ⟨heap_alloc_new w _, World.ownsRow_nil _ _ _ _, hb, Nat.zero_le _, hr⟩

/-- What a room is held to. -/
def held (x : Int) : Nat := (min (max x 0) 65536).toNat
theorem held_le (x : Int) : held x ≤ 65536 := by unfold held; omega
theorem held_is (x : Int) : (held x : Int) = min (max x 0) 65536 := by unfold held; omega
set_option maxHeartbeats 400000 in
theorem new_any (x : Int) (w : World) :
    Calls Try.prog 20 #[.int .i64 x] w fun e w' => e = .returned (.pointer (some ⟨w.heap.size, 0, none⟩)) ∧ w' = w.alloc (.cells #[.slice none 0 0, .int .i64 0, .int .i64 (held x : Int)] 69) := by
  have H : Hid (∀ y : Int, y = (held x : Int) → w.alloc (.cells #[.slice none 0 0, .int .i64 0, .int .i64 y] 69) = w.alloc (.cells #[.slice none 0 0, .int .i64 0, .int .i64 (held x : Int)] 69)) := fun y hy => by rw [hy]
  have hh : Hid _ := held_is x
  go_enter Try.func20, Try.ntmps20
  go_wp2
  all_goals
    go_ret
    exact ⟨rfl, H.out _ (by first | exact hh.out.symm | (rw [hh.out]; (repeat' split) <;> omega))⟩

set_option maxHeartbeats 400000 in
theorem room_any (p : Option Addr) (base g : Nat) (v : Value) (l : List UInt8) (f r : Nat) (w w1 : World) (hz : Orz w p g w1) (h : Dsk w1 base g v l f r) :
    Calls Try.prog 23 #[.pointer p] w fun e w' => e = .returned (.int .i64 (r : Int)) ∧ w' = w1 := by
  have hc := h.c2
  clear h
  go_enter Try.func23, Try.ntmps23
  go_wp2_with fail
  refine Calls.mono hz ?_
  rintro e w2 ⟨rfl, rfl⟩
  go_wp2
  go_ret
  exact ⟨rfl, rfl⟩
set_option maxHeartbeats 400000 in
theorem sync_any (p : Option Addr) (base g : Nat) (v : Value) (l : List UInt8) (f r : Nat) (w w1 : World) (hz : Orz w p g w1) (h : Dsk w1 base g v l f r) :
    Calls Try.prog 27 #[.pointer p] w fun e w' => e = .returned (.tuple #[]) ∧ Dsk w' base g v l l.length r ∧ Step g v v w1 w' := by
  have hc := h.c0
  have hc1 := h.c1
  have hf := h.fz 1
  obtain ⟨ao, cap, rfl, -, -⟩ := h.val
  have H : Hid _ := h.synced
  have hl := h.len
  have ht := h.top
  clear h
  generalize l.length = n at *
  go_enter Try.func27, Try.ntmps27
  go_wp2_with fail
  refine Calls.mono hz ?_
  rintro e w2 ⟨rfl, rfl⟩
  go_wp2
  go_end0
  exact ⟨rfl, H.out, Step.set _ _ _ _ _⟩
end Go.Proofs.Ythdhnilfkpbmpaa
