/-
  What byDots and slices.SortFunc come to: the things in their dots' order.
-/
import Derived.Test.YtmlfekbmbnfkjabGreatDoorQ38
import Derived.Test.YtmlfekbmbnfkjabGreatDoorQ21
import Derived.Test.YtmlfekbmbnfkjabGreatDoorQ39
import Derived.Shelf.SlSortCmp.NoneTotal
import Derived.Deep.RegionHeld3
namespace Go.Proofs.YtmlfekbmbnfkjabGreatDoor.E
set_option maxRecDepth 100000
open Go.RowKit Go.Sort

def cfI (i j : It (Cx 26)) : Int := orI (cmpI i.r j.r) (cmpI i.n j.n)

set_option maxHeartbeats 1000000 in
set_option maxRecDepth 100000 in
theorem bydots_any (i j : It (Cx 26)) (w : World) : Calls Tryz.prog 136 #[.agg (xc i), .agg (xc j)] w fun e w' => e = .returned (.int .i64 (cfI i j)) ∧ ∃ q os', w' = grow (w.drewN q) os' := by
  have hr := fun W => compare_any i.r j.r W
  have hn := fun W => compare_any i.n j.n W
  obtain ⟨W, hW⟩ : ∃ W, (w.alloc (.cells (xc i) 112)).alloc (.cells (xc j) 112) = W := ⟨_, rfl⟩
  have hs : W.heap.size = w.heap.size + 2 := by rw [← hW]; simp
  have ha : W.heap[w.heap.size]? = some (.cells (xc i) 112 (0, 0)) := by
    rw [← hW, Below.heap_alloc _ _ _ (by simp)]
    exact heap_alloc_new w _
  have hb : W.heap[w.heap.size + 1]? = some (.cells (xc j) 112 (0, 0)) := by
    rw [← hW]
    have := heap_alloc_new (w.alloc (.cells (xc i) 112)) (.cells (xc j) 112)
    rwa [World.size_alloc] at this
  have c0 : W.cell? ⟨w.heap.size, 0, none⟩ = some (.int .i64 i.r) := cell_of_row W _ 0 _ _ _ ha
  have c1 : W.cell? ⟨w.heap.size, 1, none⟩ = some (.int .i64 i.n) := cell_of_row W _ 1 _ _ _ ha
  have d0 : W.cell? ⟨w.heap.size + 1, 0, none⟩ = some (.int .i64 j.r) := cell_of_row W _ 0 _ _ _ hb
  have d1 : W.cell? ⟨w.heap.size + 1, 1, none⟩ = some (.int .i64 j.n) := cell_of_row W _ 1 _ _ _ hb
  have hor := fun (b : Nat) (W' : World) => or_any (cmpI i.r j.r) (cmpI i.n j.n) b W'
  rw [show cfI i j = orI (cmpI i.r j.r) (cmpI i.n j.n) from rfl]
  have HO : Hid _ := hor
  generalize orI (cmpI i.r j.r) (cmpI i.n j.n) = c at *
  generalize cmpI i.r j.r = p at *
  generalize cmpI i.n j.n = q at *
  obtain ⟨W2, hW2⟩ : ∃ W2, (W.alloc (.cells #[.int .i64 p, .int .i64 q] 3)).drew = W2 := ⟨_, rfl⟩
  have hb2 : Below W.heap.size W W2 := hW2 ▸ ((Below.refl _ W).alloc (Nat.le_refl _) _).drew
  have f0 := (hb2.cell (p := ⟨w.heap.size, 0, none⟩) (by show w.heap.size < _; omega)).trans c0
  have f1 := (hb2.cell (p := ⟨w.heap.size, 1, none⟩) (by show w.heap.size < _; omega)).trans c1
  have f2 := (hb2.cell (p := ⟨w.heap.size + 1, 0, none⟩) (by show w.heap.size + 1 < _; omega)).trans d0
  have f3 := (hb2.cell (p := ⟨w.heap.size + 1, 1, none⟩) (by show w.heap.size + 1 < _; omega)).trans d1
  have hnew : W2.heap[w.heap.size + 2]? = some (.cells #[.int .i64 p, .int .i64 q] 3 (0, 0)) := by
    rw [← hW2, ← hs]
    exact heap_alloc_new W _
  have g0 : W2.cell? ⟨w.heap.size + 2, 0, none⟩ = some (.int .i64 p) := cell_of_row W2 _ 0 _ _ _ hnew
  have g1 : W2.cell? ⟨w.heap.size + 2, 1, none⟩ = some (.int .i64 q) := cell_of_row W2 _ 1 _ _ _ hnew
  have hgw : Hid (∃ k os', W2 = grow (w.drewN k) os') := ⟨1, _, by
    rw [← hW2, ← hW, alloc_eq_grow, alloc_eq_grow, alloc_eq_grow, grow_grow, grow_grow, drew_grow]; rfl⟩
  have hr' : Hid _ := hr
  have hn' : Hid _ := hn
  clear hor hr hn ha hb hb2 hnew
  go_enter Tryz.func136, Tryz.ntmps136
  go_wp2
  clear hW
  go_region_held3 (fun w' => w'.cell? ⟨w.heap.size, 0, none⟩ = some (.int .i64 i.r) ∧ w'.cell? ⟨w.heap.size, 1, none⟩ = some (.int .i64 i.n) ∧ w'.cell? ⟨w.heap.size + 1, 0, none⟩ = some (.int .i64 j.r) ∧ w'.cell? ⟨w.heap.size + 1, 1, none⟩ = some (.int .i64 j.n))
    (first | assumption | exact ⟨f0, f1, f2, f3⟩ | exact ⟨c0, c1, d0, d1⟩)
    (first
    | (go_at_call_of 174 (Value.int IntKind.i64 i.r); refine Calls.mono (hr'.out _) ?_; rintro e wx ⟨rfl, rfl⟩)
    | (go_at_call_of 174 (Value.int IntKind.i64 i.n); refine Calls.mono (hn'.out _) ?_; rintro e wx ⟨rfl, rfl⟩)
    | (go_at_call 173; refine Calls.mono (HO.out _ _ g0 g1) ?_; rintro e wx ⟨rfl, rfl⟩))
  all_goals
    go_wp2
    go_ret
    exact ⟨rfl, hgw.out⟩
end Go.Proofs.YtmlfekbmbnfkjabGreatDoor.E

/-
  What byDots and slices.SortFunc come to: the things in their dots' order.
-/
namespace Go.Proofs.YtmlfekbmbnfkjabGreatDoor.D
set_option maxRecDepth 100000
open Go.RowKit Go.Sort

def cfI (i j : It (Cx 28)) : Int := orI (cmpI i.r j.r) (cmpI i.n j.n)

set_option maxHeartbeats 1000000 in
set_option maxRecDepth 100000 in
theorem bydots_any (i j : It (Cx 28)) (w : World) : Calls Tryz.prog 192 #[.agg (xc i), .agg (xc j)] w fun e w' => e = .returned (.int .i64 (cfI i j)) ∧ ∃ q os', w' = grow (w.drewN q) os' := by
  have hr := fun W => compare_any i.r j.r W
  have hn := fun W => compare_any i.n j.n W
  obtain ⟨W, hW⟩ : ∃ W, (w.alloc (.cells (xc i) 135)).alloc (.cells (xc j) 135) = W := ⟨_, rfl⟩
  have hs : W.heap.size = w.heap.size + 2 := by rw [← hW]; simp
  have ha : W.heap[w.heap.size]? = some (.cells (xc i) 135 (0, 0)) := by
    rw [← hW, Below.heap_alloc _ _ _ (by simp)]
    exact heap_alloc_new w _
  have hb : W.heap[w.heap.size + 1]? = some (.cells (xc j) 135 (0, 0)) := by
    rw [← hW]
    have := heap_alloc_new (w.alloc (.cells (xc i) 135)) (.cells (xc j) 135)
    rwa [World.size_alloc] at this
  have c0 : W.cell? ⟨w.heap.size, 0, none⟩ = some (.int .i64 i.r) := cell_of_row W _ 0 _ _ _ ha
  have c1 : W.cell? ⟨w.heap.size, 1, none⟩ = some (.int .i64 i.n) := cell_of_row W _ 1 _ _ _ ha
  have d0 : W.cell? ⟨w.heap.size + 1, 0, none⟩ = some (.int .i64 j.r) := cell_of_row W _ 0 _ _ _ hb
  have d1 : W.cell? ⟨w.heap.size + 1, 1, none⟩ = some (.int .i64 j.n) := cell_of_row W _ 1 _ _ _ hb
  have hor := fun (b : Nat) (W' : World) => or_any (cmpI i.r j.r) (cmpI i.n j.n) b W'
  rw [show cfI i j = orI (cmpI i.r j.r) (cmpI i.n j.n) from rfl]
  have HO : Hid _ := hor
  generalize orI (cmpI i.r j.r) (cmpI i.n j.n) = c at *
  generalize cmpI i.r j.r = p at *
  generalize cmpI i.n j.n = q at *
  obtain ⟨W2, hW2⟩ : ∃ W2, (W.alloc (.cells #[.int .i64 p, .int .i64 q] 3)).drew = W2 := ⟨_, rfl⟩
  have hb2 : Below W.heap.size W W2 := hW2 ▸ ((Below.refl _ W).alloc (Nat.le_refl _) _).drew
  have f0 := (hb2.cell (p := ⟨w.heap.size, 0, none⟩) (by show w.heap.size < _; omega)).trans c0
  have f1 := (hb2.cell (p := ⟨w.heap.size, 1, none⟩) (by show w.heap.size < _; omega)).trans c1
  have f2 := (hb2.cell (p := ⟨w.heap.size + 1, 0, none⟩) (by show w.heap.size + 1 < _; omega)).trans d0
  have f3 := (hb2.cell (p := ⟨w.heap.size + 1, 1, none⟩) (by show w.heap.size + 1 < _; omega)).trans d1
  have hnew : W2.heap[w.heap.size + 2]? = some (.cells #[.int .i64 p, .int .i64 q] 3 (0, 0)) := by
    rw [← hW2, ← hs]
    exact heap_alloc_new W _
  have g0 : W2.cell? ⟨w.heap.size + 2, 0, none⟩ = some (.int .i64 p) := cell_of_row W2 _ 0 _ _ _ hnew
  have g1 : W2.cell? ⟨w.heap.size + 2, 1, none⟩ = some (.int .i64 q) := cell_of_row W2 _ 1 _ _ _ hnew
  have hgw : Hid (∃ k os', W2 = grow (w.drewN k) os') := ⟨1, _, by
    rw [← hW2, ← hW, alloc_eq_grow, alloc_eq_grow, alloc_eq_grow, grow_grow, grow_grow, drew_grow]; rfl⟩
  have hr' : Hid _ := hr
  have hn' : Hid _ := hn
  clear hor hr hn ha hb hb2 hnew
  go_enter Tryz.func192, Tryz.ntmps192
  go_wp2
  clear hW
  go_region_held3 (fun w' => w'.cell? ⟨w.heap.size, 0, none⟩ = some (.int .i64 i.r) ∧ w'.cell? ⟨w.heap.size, 1, none⟩ = some (.int .i64 i.n) ∧ w'.cell? ⟨w.heap.size + 1, 0, none⟩ = some (.int .i64 j.r) ∧ w'.cell? ⟨w.heap.size + 1, 1, none⟩ = some (.int .i64 j.n))
    (first | assumption | exact ⟨f0, f1, f2, f3⟩ | exact ⟨c0, c1, d0, d1⟩)
    (first
    | (go_at_call_of 174 (Value.int IntKind.i64 i.r); refine Calls.mono (hr'.out _) ?_; rintro e wx ⟨rfl, rfl⟩)
    | (go_at_call_of 174 (Value.int IntKind.i64 i.n); refine Calls.mono (hn'.out _) ?_; rintro e wx ⟨rfl, rfl⟩)
    | (go_at_call 173; refine Calls.mono (HO.out _ _ g0 g1) ?_; rintro e wx ⟨rfl, rfl⟩))
  all_goals
    go_wp2
    go_ret
    exact ⟨rfl, hgw.out⟩
end Go.Proofs.YtmlfekbmbnfkjabGreatDoor.D

