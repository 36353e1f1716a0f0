/-
  A clock in memory; what See, Last and New come to, and the reference's.
-/
import Derived.Test.YtaelhjmoiinbiaaProg
import Derived.Laws.StructEq
import Derived.Laws.Rows
import Derived.Laws.ResultCell
import Derived.WalkKit
namespace Go.Proofs.Ytaelhjmoiinbiaa
open Go.RowKit

/-- A clock lies in a block and stands at t. -/
def Clk (w : World) (g : Nat) (t : Int) : Prop := w.heap[g]? = some (.cells #[.int .i64 t] 44 (0, 0))
theorem Clk.below {B g : Nat} {w w' : World} {t : Int} (h : Clk w g t) (hb : Below B w w') (hg : g < B) : Clk w' g t := by
  rw [Clk, hb.block g hg]; exact h
theorem Clk.lt {w : World} {g : Nat} {t : Int} (h : Clk w g t) : g < w.heap.size := by
  rw [Clk] at h
  exact (Array.getElem?_eq_some_iff.1 h).1
theorem Clk.cell {w : World} {g : Nat} {t : Int} (h : Clk w g t) : w.cell? ⟨g, 0, none⟩ = some (.int .i64 t) := by
  rw [cell_of_row w g 0 _ _ _ h]; rfl
theorem Clk.frozen {w : World} {g : Nat} {t : Int} (h : Clk w g t) : w.frozen? ⟨g, 0, none⟩ = false := frozen_of_row w g 0 _ _ h
theorem Clk.set {w : World} {g : Nat} {t : Int} (h : Clk w g t) (x : Int) : Clk (w.setCell ⟨g, 0, none⟩ (.int .i64 x)) g x := by
  rw [Clk, heap_setCell_same w g 0 _ _ _ h]; rfl
theorem Clk.alloc {w : World} {g : Nat} {t : Int} (h : Clk w g t) (o : Obj) : Clk (w.alloc o) g t := by
  rw [Clk, Below.heap_alloc w o g h.lt]; exact h
theorem clk_new (w : World) (t : Int) : Clk (w.alloc (.cells #[.int .i64 t] 44)) w.heap.size t := heap_alloc_new w _

/-- One block may have turned, no other; none is new. -/
structure Turns (g : Nat) (w w' : World) : Prop where
  os : w'.os = w.os
  tape : w'.tape = w.tape
  output : w'.output = w.output
  size : w'.heap.size = w.heap.size
  block : ∀ k, k ≠ g → w'.heap[k]? = w.heap[k]?
theorem Turns.refl (g : Nat) (w : World) : Turns g w w := ⟨rfl, rfl, rfl, rfl, fun _ _ => rfl⟩
theorem Turns.set (w : World) (g : Nat) (v : Value) : Turns g w (w.setCell ⟨g, 0, none⟩ v) :=
  ⟨rfl, rfl, rfl, by simp [World.setCell], fun k hk => Below.heap_setCell w ⟨g, 0, none⟩ v k hk⟩
theorem Turns.below {g B : Nat} {w w' : World} (h : Turns g w w') (hB : B ≤ g) : Below B w w' :=
  ⟨h.os, h.tape, h.output, Nat.le_of_eq h.size.symm, fun k hk => h.block k (by omega)⟩
theorem Clk.turned {g k : Nat} {w w' : World} {t : Int} (h : Clk w k t) (ht : Turns g w w') (hk : k ≠ g) : Clk w' k t := by
  rw [Clk, ht.block k hk]; exact h

/-- Where a clock stands behind one that it sees. -/
def seen (t x : Int) : Int := max t (min x 1152921504606846975)

set_option maxHeartbeats 400000 in
theorem see_any (g : Nat) (t x : Int) (w : World) (h : Clk w g t) :
    Calls Try.prog 11 #[.pointer (some ⟨g, 0, none⟩), .int .i64 x] w fun e w' => e = .returned (.tuple #[]) ∧ Clk w' g (seen t x) ∧ Turns g w w' := by
  have hc := h.cell
  have hf := h.frozen
  have H : Hid (∀ y, seen t x = y → Clk (w.setCell ⟨g, 0, none⟩ (.int .i64 y)) g (seen t x)) := fun y hy => by rw [hy]; exact h.set y
  clear h
  go_enter Try.func11, Try.ntmps11
  go_wp2
  all_goals
    go_end0
    exact ⟨rfl, H.out _ (by unfold seen; omega), Turns.set w g _⟩

set_option maxHeartbeats 400000 in
theorem see_nil (x : Int) (w : World) :
    Calls Try.prog 11 #[.pointer none, .int .i64 x] w fun e w' => e = .returned (.tuple #[]) ∧ w' = w := by
  go_enter Try.func11, Try.ntmps11
  go_wp2
  (try simp only [Exit.inBlock, Exit.then])
  refine bodyPost_ret (results_none rfl _ _ _) rfl ?_
  exact ⟨rfl, rfl⟩

set_option maxHeartbeats 400000 in
theorem last_any (g : Nat) (t : Int) (w : World) (h : Clk w g t) :
    Calls Try.prog 15 #[.pointer (some ⟨g, 0, none⟩)] w fun e w' => e = .returned (.int .i64 t) ∧ w' = w := by
  have hc := h.cell
  clear h
  go_enter Try.func15, Try.ntmps15
  go_wp2
  go_ret
  exact ⟨rfl, rfl⟩

set_option maxHeartbeats 400000 in
theorem last_nil (w : World) :
    Calls Try.prog 15 #[.pointer none] w fun e w' => e = .returned (.int .i64 0) ∧ w' = w := by
  go_enter Try.func15, Try.ntmps15
  go_wp2
  go_ret
  exact ⟨rfl, rfl⟩

set_option maxHeartbeats 400000 in
theorem new_any (x : Int) (w : World) :
    Calls Try.prog 9 #[.int .i64 x] w fun e w' => e = .returned (.pointer (some ⟨w.heap.size, 0, none⟩)) ∧ Clk w' w.heap.size (seen 0 x) ∧ w.heap.size < w'.heap.size ∧ Below w.heap.size w w' := by
  have hk := clk_new w 0
  have H : Hid (Below w.heap.size w (w.alloc (.cells #[.int .i64 0] 44))) := (Below.refl _ _).alloc (Nat.le_refl _) _
  go_enter Try.func9, Try.ntmps9
  go_wp2_with fail
  refine (see_any _ 0 x _ hk).mono ?_
  rintro e w1 ⟨rfl, h1, t1⟩
  clear hk
  go_wp2
  go_ret
  exact ⟨rfl, h1, h1.lt, H.out.trans (t1.below (Nat.le_refl _))⟩

set_option maxHeartbeats 400000 in
theorem rstart_any (x : Int) (w : World) :
    Calls Try.prog 10 #[.int .i64 x] w fun e w' => e = .returned (.int .i64 (seen 0 x)) ∧ w' = w := by
  have H : Hid (∀ y : Int, seen 0 x = y → Ending.returned (.int .i64 y) = .returned (.int .i64 (seen 0 x))) := fun y hy => by rw [hy]
  go_enter Try.func10, Try.ntmps10
  go_wp2
  all_goals
    go_ret
    exact ⟨H.out _ (by unfold seen; omega), rfl⟩

set_option maxHeartbeats 400000 in
theorem rsee_any (t x : Int) (w : World) :
    Calls Try.prog 12 #[.int .i64 t, .int .i64 x] w fun e w' => e = .returned (.int .i64 (seen t x)) ∧ w' = w := by
  have H : Hid (∀ y : Int, seen t x = y → Ending.returned (.int .i64 y) = .returned (.int .i64 (seen t x))) := fun y hy => by rw [hy]
  go_enter Try.func12, Try.ntmps12
  go_wp2
  all_goals
    go_ret
    exact ⟨H.out _ (by unfold seen; omega), rfl⟩
end Go.Proofs.Ytaelhjmoiinbiaa
