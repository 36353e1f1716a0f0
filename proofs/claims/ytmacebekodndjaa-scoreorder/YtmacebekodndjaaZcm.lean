/-
  What the function comes to by which score's All puts pairs in order.
-/
import Derived.Test.YtmacebekodndjaaZco
import Derived.Deep.RegionHeld3
import Derived.Sort.Grow
import Derived.Shelf.SlSortCmp.Insertion
namespace Go.Proofs.Ytmacebekodndjaa
set_option maxRecDepth 100000
open Go.RowKit Go.Sort

def cfP (i j : Pr) : Int := orI (cmpI i.2 j.2) (cmpS i.1 j.1)
set_option maxHeartbeats 1000000 in
theorem zcmp_any (i j : Pr) (w : World) : Calls Try.prog 21 #[.agg (prc i), .agg (prc j)] w fun e w' => e = .returned (.int .i64 (cfP i j)) ∧ ∃ q os', w' = grow (w.drewN q) os' := by
  obtain ⟨ir, iN⟩ := i
  obtain ⟨jr, jn⟩ := j
  show Calls Try.prog 21 #[.agg #[.string (sb ir), .int .i64 iN], .agg #[.string (sb jr), .int .i64 jn]] w fun e w' => e = .returned (.int .i64 (orI (cmpI iN jn) (cmpS ir jr))) ∧ ∃ q os', w' = grow (w.drewN q) os'
  have hr := fun W => compares_any ir jr W
  have hn := fun W => compare_any iN jn W
  obtain ⟨W, hW⟩ : ∃ W, (w.alloc (.cells #[.string (sb ir), .int .i64 iN] 45)).alloc (.cells #[.string (sb jr), .int .i64 jn] 45) = W := ⟨_, rfl⟩
  have hs : W.heap.size = w.heap.size + 2 := by rw [← hW]; simp
  have ha : W.heap[w.heap.size]? = some (.cells #[.string (sb ir), .int .i64 iN] 45 (0, 0)) := by
    rw [← hW, Below.heap_alloc _ _ _ (by simp)]
    exact heap_alloc_new w _
  have hb : W.heap[w.heap.size + 1]? = some (.cells #[.string (sb jr), .int .i64 jn] 45 (0, 0)) := by
    rw [← hW]
    have := heap_alloc_new (w.alloc (.cells #[.string (sb ir), .int .i64 iN] 45)) (.cells #[.string (sb jr), .int .i64 jn] 45)
    rwa [World.size_alloc] at this
  have c0 : W.cell? ⟨w.heap.size, 0, none⟩ = some (.string (sb ir)) := cell_of_row W _ 0 _ _ _ ha
  have c1 : W.cell? ⟨w.heap.size, 1, none⟩ = some (.int .i64 iN) := cell_of_row W _ 1 _ _ _ ha
  have d0 : W.cell? ⟨w.heap.size + 1, 0, none⟩ = some (.string (sb jr)) := cell_of_row W _ 0 _ _ _ hb
  have d1 : W.cell? ⟨w.heap.size + 1, 1, none⟩ = some (.int .i64 jn) := cell_of_row W _ 1 _ _ _ hb
  have hor := fun (b : Nat) (W' : World) => or_any (cmpI iN jn) (cmpS ir jr) b W'
  have HO : Hid _ := hor
  generalize orI (cmpI iN jn) (cmpS ir jr) = c at *
  generalize cmpI iN jn = p at *
  generalize cmpS ir jr = q at *
  obtain ⟨W2, hW2⟩ : ∃ W2, (W.alloc (.cells #[.int .i64 p, .int .i64 q] 3)).drew = W2 := ⟨_, rfl⟩
  have hb2 : Below W.heap.size W W2 := hW2 ▸ ((Below.refl _ W).alloc (Nat.le_refl _) _).drew
  have f0 := (hb2.cell (p := ⟨w.heap.size, 0, none⟩) (by show w.heap.size < _; omega)).trans c0
  have f1 := (hb2.cell (p := ⟨w.heap.size, 1, none⟩) (by show w.heap.size < _; omega)).trans c1
  have f2 := (hb2.cell (p := ⟨w.heap.size + 1, 0, none⟩) (by show w.heap.size + 1 < _; omega)).trans d0
  have f3 := (hb2.cell (p := ⟨w.heap.size + 1, 1, none⟩) (by show w.heap.size + 1 < _; omega)).trans d1
  have hnew : W2.heap[w.heap.size + 2]? = some (.cells #[.int .i64 p, .int .i64 q] 3 (0, 0)) := by
    rw [← hW2, ← hs]
    exact heap_alloc_new W _
  have g0 : W2.cell? ⟨w.heap.size + 2, 0, none⟩ = some (.int .i64 p) := cell_of_row W2 _ 0 _ _ _ hnew
  have g1 : W2.cell? ⟨w.heap.size + 2, 1, none⟩ = some (.int .i64 q) := cell_of_row W2 _ 1 _ _ _ hnew
  have hgw : Hid (∃ k os', W2 = grow (w.drewN k) os') := ⟨1, _, by
    rw [← hW2, ← hW, alloc_eq_grow, alloc_eq_grow, alloc_eq_grow, grow_grow, grow_grow, drew_grow]; rfl⟩
  have hr' : Hid _ := hr
  have hn' : Hid _ := hn
  clear hor hr hn ha hb hb2 hnew
  go_enter Try.func21, Try.ntmps21
  go_wp2
  clear hW
  go_region_held3 (fun w' => w'.cell? ⟨w.heap.size, 0, none⟩ = some (.string (sb ir)) ∧ w'.cell? ⟨w.heap.size, 1, none⟩ = some (.int .i64 iN) ∧ w'.cell? ⟨w.heap.size + 1, 0, none⟩ = some (.string (sb jr)) ∧ w'.cell? ⟨w.heap.size + 1, 1, none⟩ = some (.int .i64 jn))
    (first | assumption | exact ⟨f0, f1, f2, f3⟩ | exact ⟨c0, c1, d0, d1⟩)
    (first
    | (go_at_call 24; refine Calls.mono (hr'.out _) ?_; rintro e wx ⟨rfl, rfl⟩)
    | (go_at_call 23; refine Calls.mono (hn'.out _) ?_; rintro e wx ⟨rfl, rfl⟩)
    | (go_at_call 22; refine Calls.mono (HO.out _ _ g0 g1) ?_; rintro e wx ⟨rfl, rfl⟩))
  all_goals
    go_wp2
    go_ret
    exact ⟨rfl, hgw.out⟩

/-! The order of pairs. -/
theorem cfP_lt (i j : Pr) : ltOf cfP i j = decide (Bef i j) := by
  unfold ltOf cfP orI cmpI cmpS Bef
  by_cases h1 : i.2 < j.2
  · simp [h1]
  · by_cases h2 : j.2 < i.2
    · have : ¬ i.2 = j.2 := by omega
      simp [h1, h2, this]
    · have e : i.2 = j.2 := by omega
      by_cases h3 : i.1 < j.1
      · simp [e, h3]
      · by_cases h4 : j.1 < i.1 <;> simp [e, h3, h4]
theorem cfP_swo : SWO (ltOf (α := Pr) cfP) where
  irrefl x := by rw [cfP_lt]; exact decide_eq_false (bef_irrefl x)
  trans x y z h1 h2 := by
    rw [cfP_lt, decide_eq_true_eq] at *
    exact bef_trans h1 h2
  ntrans x y z h1 h2 := by
    rw [cfP_lt, decide_eq_false_iff_not] at *
    intro h3
    by_cases e1 : x = y
    · subst e1; exact h2 h3
    · by_cases e2 : y = z
      · subst e2; exact h1 h3
      · exact bef_irrefl _ (bef_trans h3 (bef_trans (bef_total h2 e2) (bef_total h1 e1)))
end Go.Proofs.Ytmacebekodndjaa
