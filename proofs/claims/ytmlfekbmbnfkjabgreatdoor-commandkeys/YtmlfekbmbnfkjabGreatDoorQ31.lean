/-
  outcomeOf, over planners that hand on texts.
-/
import Derived.Test.YtmlfekbmbnfkjabGreatDoorQ30
namespace Go.Proofs.YtmlfekbmbnfkjabGreatDoor
set_option maxRecDepth 100000
open Go.RowKit

theorem outcomeofL_free (p : Option Addr) (c : Cl) (r : Rw22) (O : Po) (w : World) (hN : rowN c.name = some r) (hEn : ∀ (xs : Array Value) (u : World), (callFunc r.fn xs).run Tryz.prog u = .ok (.enter r.fn xs) u) (hP : ∀ u, Below w.heap.size w u → PlanC r.fn p c O u) (hi : r.is = 0) : PlanC 15 p c O w := by
  obtain ⟨nm, ky, fd, vl, n, m⟩ := c
  have F0 := fr_new w ⟨nm, ky, fd, vl, n, m⟩
  obtain ⟨W0, hW0⟩ : ∃ W0, (w.alloc (.cells (clc ⟨nm, ky, fd, vl, n, m⟩) 38)).alloc (.cells outz 53) = W0 := ⟨_, rfl⟩
  rw [hW0] at F0
  have hW1 : (w.alloc (.cells (clc ⟨nm, ky, fd, vl, n, m⟩) 38)).alloc (.cells #[.int .i64 0, .string ⟨#[]⟩, .int .i64 0, .slice none 0 0, .int .i64 0, .string ⟨#[]⟩, .string ⟨#[]⟩, .string ⟨#[]⟩, .int .i64 0, .int .i64 0, .int .i64 0, .bool false] 53) = W0 := hW0
  obtain ⟨B, hB⟩ : ∃ B, w.heap.size = B := ⟨_, rfl⟩
  rw [hB] at F0
  have FW0 : Hid (Fr w W0 B (B + 1) ⟨nm, ky, fd, vl, n, m⟩) := F0.1
  have hOW0 : Hid (W0.heap[B + 1]? = some (.cells outz 53 (0, 0))) := F0.2
  clear hW0 F0
  obtain ⟨rn, rt, ri, rf⟩ := r
  have HP : Hid (∀ u, Below w.heap.size w u → _) := hP
  clear hP
  have HEN : Hid (∀ (xs : Array Value) (u : World), (callFunc rf xs).run Tryz.prog u = .ok (.enter rf xs) u) := hEn
  clear hEn
  have hRW := rowof_any nm W0
  have hN : rowN nm = some ⟨rn, rt, ri, rf⟩ := hN
  rw [hN] at hRW
  have hc0 : W0.cell? ⟨B, 0, none⟩ = some (.string (sb nm)) := by rw [cell_of_row W0 B 0 _ _ _ FW0.out.cl]; rfl
  have hi : ri = 0 := hi
  subst hi
  go_enter Tryz.func15, Tryz.ntmps15
  have hC := hRW
  have hc1 := FW0.out.c1
  have hc2 := FW0.out.c2
  have hc3 := FW0.out.c3
  have hc4 := FW0.out.c4
  have hc5 := FW0.out.c5
  have hld := FW0.out.load
  go_wp2_with (first | (refine wpList_loadR (ty := 38) (x := .tmp 3) (ad := ⟨B, 0, none⟩) (v := .agg (clc ⟨nm, ky, fd, vl, n, m⟩)) rfl rfl rfl hld ?_))
  refine Calls.mono hC ?_
  rintro ex w1 ⟨rfl, hb⟩
  have Fw1 : Hid (Fr w w1 B (B + 1) ⟨nm, ky, fd, vl, n, m⟩) := FW0.out.below hb
  have hOw1 : Hid (w1.heap[B + 1]? = some (.cells outz 53 (0, 0))) := (hb.block _ (heap_lt22 hOW0.out)).trans hOW0.out
  clear hC hb hc1 hc2 hc3 hc4 hc5 hld
  clear hc0 hRW hN
  have hnew := heap_alloc_new w1 (.cells rwz 62)
  have hst := storeVar_rw (cs := (rwc ⟨rn, rt, 0, rf⟩).toArray) hnew rfl rfl (rwc_one _)
  have hgr := setRow_heap (w1.alloc (.cells rwz 62)) w1.heap.size _ ((rwc ⟨rn, rt, 0, rf⟩).toArray) _ _ hnew
  have hbe : Below w1.heap.size w1 ((w1.alloc (.cells rwz 62)).setRow w1.heap.size ((rwc ⟨rn, rt, 0, rf⟩).toArray)) := below_setRow (below_alloc22 _ _) (Nat.le_refl _) _
  generalize (w1.alloc (.cells rwz 62)).setRow w1.heap.size ((rwc ⟨rn, rt, 0, rf⟩).toArray) = w2 at *
  have Fw2 : Hid (Fr w w2 B (B + 1) ⟨nm, ky, fd, vl, n, m⟩) := Fw1.out.below hbe
  have hOw2 : Hid (w2.heap[B + 1]? = some (.cells outz 53 (0, 0))) := (hbe.block _ (heap_lt22 hOw1.out)).trans hOw1.out
  have Xw2 : Hid (w2.heap[w1.heap.size]? = some (.cells ((rwc ⟨rn, rt, 0, rf⟩).toArray) 62 (0, 0))) := hgr
  have HCB0 : Hid (B + 1 < w1.heap.size) := heap_lt22 hOw1.out
  clear hnew hgr hbe
  have hNE := HCB0.out
  go_wp2_with (first | (refine wpList_storeR (ty := 62) (x := .tmp 5) (y := .tmp 11) (ad := ⟨w1.heap.size, 0, none⟩) (v := .agg ((rwc ⟨rn, rt, 0, rf⟩).toArray)) (w' := w2) rfl rfl rfl rfl hst ?_))
  clear hst
  obtain ⟨D, hD⟩ : ∃ W, W = w2.drew := ⟨_, rfl⟩
  have SD : Fr w D B (B + 1) ⟨nm, ky, fd, vl, n, m⟩ ∧ D.heap[w1.heap.size]? = some (.cells (rwc ⟨rn, rt, 0, rf⟩).toArray 62 (0, 0)) := by rw [hD]; exact ⟨Fw2.out.drew, Xw2.out⟩
  have hOD : D.heap[B + 1]? = some (.cells outz 53 (0, 0)) := by rw [hD]; exact hOw2.out
  refine wp_region_noPanic ?_
  refine wp_region_held_drew (S := fun W' : World => Fr w W' B (B + 1) ⟨nm, ky, fd, vl, n, m⟩ ∧ W'.heap[w1.heap.size]? = some (.cells (rwc ⟨rn, rt, 0, rf⟩).toArray 62 (0, 0))) (by kernel_rfl) (by rw [← hD]; exact SD) (fun hHeld => ?_)
  rw [← hD] at hHeld ⊢
  clear hD
  refine wpAnyH_take (i := 0) (oi := { dst := some 16, op := _, type := _, pos := _, after := _, guard := _ }) (v := .pointer (some ⟨w1.heap.size, 2, none⟩)) rfl (by kernel_rfl) (by kernel_rfl) (by kernel_rfl) (fun _ _ _ h => h) (Or.inl ⟨by rfl, ?_⟩) (by assumption) ?_
  · intro w9 hSw
    exact y_field rfl rfl (field_rw2 _ _)
  simp only [Act.put, List.setIfInBounds_toArray, List.set_cons_zero, List.set_cons_succ]
  refine wpAnyH_take (i := 1) (oi := { dst := some 17, op := _, type := _, pos := _, after := _, guard := _ }) (v := .int .i64 0) rfl (by kernel_rfl) (by kernel_rfl) (by kernel_rfl) (fun _ _ _ h => h) (Or.inl ⟨by rfl, ?_⟩) (by assumption) ?_
  · intro w9 hSw
    exact y_load rfl rfl (row_is22 hSw.2)
  simp only [Act.put, List.setIfInBounds_toArray, List.set_cons_zero, List.set_cons_succ]
  refine wpAnyH_take (i := 2) (oi := { dst := some 18, op := _, type := _, pos := _, after := _, guard := _ }) (v := .bool false) rfl (by kernel_rfl) (by kernel_rfl) (by kernel_rfl) (fun _ _ _ h => h) (Or.inl ⟨by rfl, ?_⟩) (by assumption) ?_
  · intro w9 hSw
    exact y_bin22 rfl rfl rfl (guard_int22 _ _ _) (neq_int22 _ 0 0)
  simp only [Act.put, List.setIfInBounds_toArray, List.set_cons_zero, List.set_cons_succ]
  refine wpAnyH_take (i := 3) (oi := { dst := some 19, op := _, type := _, pos := _, after := _, guard := _ }) (v := .bool false) rfl (by kernel_rfl) (by kernel_rfl) (by kernel_rfl) (fun _ _ _ h => h) (Or.inl ⟨by rfl, ?_⟩) (by assumption) ?_
  · intro w9 hSw
    exact y_move rfl rfl
  simp only [Act.put, List.setIfInBounds_toArray, List.set_cons_zero, List.set_cons_succ]
  refine wpAnyH_take (i := 4) (oi := { dst := some 20, op := _, type := _, pos := _, after := _, guard := _ }) (v := undef) rfl (by kernel_rfl) (by kernel_rfl) (by kernel_rfl) (fun _ _ _ h => h) (Or.inr ⟨by rfl, rfl⟩) (by assumption) ?_
  simp only [Act.put, List.setIfInBounds_toArray, List.set_cons_zero, List.set_cons_succ]
  refine wpAnyH_take (i := 5) (oi := { dst := some 21, op := _, type := _, pos := _, after := _, guard := _ }) (v := undef) rfl (by kernel_rfl) (by kernel_rfl) (by kernel_rfl) (fun _ _ _ h => h) (Or.inr ⟨by rfl, rfl⟩) (by assumption) ?_
  simp only [Act.put, List.setIfInBounds_toArray, List.set_cons_zero, List.set_cons_succ]
  refine wpAnyH_take (i := 6) (oi := { dst := some 22, op := _, type := _, pos := _, after := _, guard := _ }) (v := undef) rfl (by kernel_rfl) (by kernel_rfl) (by kernel_rfl) (fun _ _ _ h => h) (Or.inr ⟨by rfl, rfl⟩) (by assumption) ?_
  simp only [Act.put, List.setIfInBounds_toArray, List.set_cons_zero, List.set_cons_succ]
  refine wpAnyH_take (i := 7) (oi := { dst := some 23, op := _, type := _, pos := _, after := _, guard := _ }) (v := undef) rfl (by kernel_rfl) (by kernel_rfl) (by kernel_rfl) (fun _ _ _ h => h) (Or.inr ⟨by rfl, rfl⟩) (by assumption) ?_
  simp only [Act.put, List.setIfInBounds_toArray, List.set_cons_zero, List.set_cons_succ]
  refine wpAnyH_take (i := 8) (oi := { dst := some 24, op := _, type := _, pos := _, after := _, guard := _ }) (v := undef) rfl (by kernel_rfl) (by kernel_rfl) (by kernel_rfl) (fun _ _ _ h => h) (Or.inr ⟨by rfl, rfl⟩) (by assumption) ?_
  simp only [Act.put, List.setIfInBounds_toArray, List.set_cons_zero, List.set_cons_succ]
  refine wpAnyH_take (i := 9) (oi := { dst := some 25, op := _, type := _, pos := _, after := _, guard := _ }) (v := undef) rfl (by kernel_rfl) (by kernel_rfl) (by kernel_rfl) (fun _ _ _ h => h) (Or.inr ⟨by rfl, rfl⟩) (by assumption) ?_
  simp only [Act.put, List.setIfInBounds_toArray, List.set_cons_zero, List.set_cons_succ]
  refine wpAnyH_take (i := 10) (oi := { dst := some 26, op := _, type := _, pos := _, after := _, guard := _ }) (v := undef) rfl (by kernel_rfl) (by kernel_rfl) (by kernel_rfl) (fun _ _ _ h => h) (Or.inr ⟨by rfl, rfl⟩) (by assumption) ?_
  simp only [Act.put, List.setIfInBounds_toArray, List.set_cons_zero, List.set_cons_succ]
  refine wpAnyH_take (i := 11) (oi := { dst := some 27, op := _, type := _, pos := _, after := _, guard := _ }) (v := .bool false) rfl (by kernel_rfl) (by kernel_rfl) (by kernel_rfl) (fun _ _ _ h => h) (Or.inl ⟨by rfl, ?_⟩) (by assumption) ?_
  · intro w9 hSw
    exact y_pick22 (b := false) rfl rfl rfl rfl
  simp only [Act.put, List.setIfInBounds_toArray, List.set_cons_zero, List.set_cons_succ]
  refine wpAnyH_done (by kernel_rfl) ?_ _
  refine NoPanic.normal ?_
  clear hHeld
  have FD : Hid (Fr w D B (B + 1) ⟨nm, ky, fd, vl, n, m⟩) := SD.1
  have hOD : Hid (D.heap[B + 1]? = some (.cells outz 53 (0, 0))) := hOD
  have XD : Hid (D.heap[w1.heap.size]? = some (.cells (rwc ⟨rn, rt, 0, rf⟩).toArray 62 (0, 0))) := SD.2
  clear SD
  have HLB : Hid (w.heap.size ≤ B) := FW0.out.lo
  have HLU : Hid (B + 1 < D.heap.size) := heap_lt22 hOD.out
  have hld := FD.out.load
  have hcf := row_fn22 XD.out
  have hPP : Calls Tryz.prog rf #[.pointer p, .agg (clc ⟨nm, ky, fd, vl, n, m⟩)] D (PlanR O D) := HP.out D FD.out.be
  go_wp2_with (first | (refine wpList_loadR (ty := 38) (x := .tmp 3) (ad := ⟨B, 0, none⟩) (v := .agg (clc ⟨nm, ky, fd, vl, n, m⟩)) rfl rfl rfl hld ?_) | (refine wpList_dyn (f := rf) (xs := [.tmp 31, .tmp 32]) (vs := [.pointer p, .agg (clc ⟨nm, ky, fd, vl, n, m⟩)]) rfl rfl rfl rfl (HEN.out _ _) hPP ?_))
  rintro ex w3 hPR
  obtain ⟨ao, q9, cc, rfl, hX, hb⟩ := hPR
  refine ⟨_, rfl, ?_⟩
  have Fw3 : Hid (Fr w w3 B (B + 1) ⟨nm, ky, fd, vl, n, m⟩) := FD.out.below hb
  have hOw3 : Hid (w3.heap[B + 1]? = some (.cells outz 53 (0, 0))) := (hb.block _ (heap_lt22 hOD.out)).trans hOD.out
  have HX : Hid (TRow w3 D.heap.size (.slice ao q9 cc) O.L) := hX
  clear hld hcf hPP hb hX
  have hst := storeVar_out (cs := O.out ao q9 cc) hOw3.out rfl rfl (O.out_one _ _ _)
  have hgw4 := setRow_heap w3 (B + 1) _ (O.out ao q9 cc) _ _ hOw3.out
  have Fw4 := Fw3.out.set (O.out ao q9 cc)
  have HR4 : TRow (w3.setRow (B + 1) (O.out ao q9 cc)) D.heap.size (.slice ao q9 cc) O.L := HX.out.keep (fun k hk => setRow_ne22 _ _ _ _ (by have := HX.out.own k hk; have := HLU.out; omega))
  generalize w3.setRow (B + 1) (O.out ao q9 cc) = w4 at *
  go_wp2_with (first | (refine wpList_storeR (ty := 53) (x := .tmp 4) (y := .tmp 33) (ad := ⟨B + 1, 0, none⟩) (v := .agg (O.out ao q9 cc)) (w' := w4) rfl rfl rfl rfl hst ?_))
  refine ret_out rfl rfl rfl hgw4 rfl ?_
  exact ⟨_, _, _, rfl, HR4.lower (by have := HLU.out; have := HLB.out; omega), by first | exact Fw4.be | (rw [← hB]; exact Fw4.be)⟩
theorem outcomeofL_any (p : Option Addr) (c : Cl) (r : Rw22) (O : Po) (t : Int) (w : World) (hN : rowN c.name = some r) (hEn : ∀ (xs : Array Value) (u : World), (callFunc r.fn xs).run Tryz.prog u = .ok (.enter r.fn xs) u) (hP : ∀ u, Below w.heap.size w u → PlanC r.fn p c O u) (hT : ∀ u, Below w.heap.size w u → Calls Tryz.prog 28 #[.pointer p, .string (sb c.key)] u fun x w' => x = .returned (.int .i64 t) ∧ Below u.heap.size u w') (hi : ¬ r.is = 0) (hz : isoE t r.is = false) : PlanC 15 p c O w := by
  obtain ⟨nm, ky, fd, vl, n, m⟩ := c
  have F0 := fr_new w ⟨nm, ky, fd, vl, n, m⟩
  obtain ⟨W0, hW0⟩ : ∃ W0, (w.alloc (.cells (clc ⟨nm, ky, fd, vl, n, m⟩) 38)).alloc (.cells outz 53) = W0 := ⟨_, rfl⟩
  rw [hW0] at F0
  have hW1 : (w.alloc (.cells (clc ⟨nm, ky, fd, vl, n, m⟩) 38)).alloc (.cells #[.int .i64 0, .string ⟨#[]⟩, .int .i64 0, .slice none 0 0, .int .i64 0, .string ⟨#[]⟩, .string ⟨#[]⟩, .string ⟨#[]⟩, .int .i64 0, .int .i64 0, .int .i64 0, .bool false] 53) = W0 := hW0
  obtain ⟨B, hB⟩ : ∃ B, w.heap.size = B := ⟨_, rfl⟩
  rw [hB] at F0
  have FW0 : Hid (Fr w W0 B (B + 1) ⟨nm, ky, fd, vl, n, m⟩) := F0.1
  have hOW0 : Hid (W0.heap[B + 1]? = some (.cells outz 53 (0, 0))) := F0.2
  clear hW0 F0
  obtain ⟨rn, rt, ri, rf⟩ := r
  have HP : Hid (∀ u, Below w.heap.size w u → _) := hP
  clear hP
  have HEN : Hid (∀ (xs : Array Value) (u : World), (callFunc rf xs).run Tryz.prog u = .ok (.enter rf xs) u) := hEn
  clear hEn
  have hRW := rowof_any nm W0
  have hN : rowN nm = some ⟨rn, rt, ri, rf⟩ := hN
  rw [hN] at hRW
  have hc0 : W0.cell? ⟨B, 0, none⟩ = some (.string (sb nm)) := by rw [cell_of_row W0 B 0 _ _ _ FW0.out.cl]; rfl
  have HT : Hid (∀ u, Below w.heap.size w u → _) := hT
  clear hT
  have hi : ¬ ri = 0 := hi
  have HNQ : Hid (∀ W : World, (binOp .neq 3 (.int .i64 ri) (.int .i64 0)).run Tryz.prog W = .ok (.bool true) W) := fun W => by rw [neq_int22]; simp [hi]
  have HZ : Hid (isoE t ri = false) := hz
  clear hi hz
  go_enter Tryz.func15, Tryz.ntmps15
  have hC := hRW
  have hc1 := FW0.out.c1
  have hc2 := FW0.out.c2
  have hc3 := FW0.out.c3
  have hc4 := FW0.out.c4
  have hc5 := FW0.out.c5
  have hld := FW0.out.load
  go_wp2_with (first | (refine wpList_loadR (ty := 38) (x := .tmp 3) (ad := ⟨B, 0, none⟩) (v := .agg (clc ⟨nm, ky, fd, vl, n, m⟩)) rfl rfl rfl hld ?_))
  refine Calls.mono hC ?_
  rintro ex w1 ⟨rfl, hb⟩
  have Fw1 : Hid (Fr w w1 B (B + 1) ⟨nm, ky, fd, vl, n, m⟩) := FW0.out.below hb
  have hOw1 : Hid (w1.heap[B + 1]? = some (.cells outz 53 (0, 0))) := (hb.block _ (heap_lt22 hOW0.out)).trans hOW0.out
  clear hC hb hc1 hc2 hc3 hc4 hc5 hld
  clear hc0 hRW hN
  have hnew := heap_alloc_new w1 (.cells rwz 62)
  have hst := storeVar_rw (cs := (rwc ⟨rn, rt, ri, rf⟩).toArray) hnew rfl rfl (rwc_one _)
  have hgr := setRow_heap (w1.alloc (.cells rwz 62)) w1.heap.size _ ((rwc ⟨rn, rt, ri, rf⟩).toArray) _ _ hnew
  have hbe : Below w1.heap.size w1 ((w1.alloc (.cells rwz 62)).setRow w1.heap.size ((rwc ⟨rn, rt, ri, rf⟩).toArray)) := below_setRow (below_alloc22 _ _) (Nat.le_refl _) _
  generalize (w1.alloc (.cells rwz 62)).setRow w1.heap.size ((rwc ⟨rn, rt, ri, rf⟩).toArray) = w2 at *
  have Fw2 : Hid (Fr w w2 B (B + 1) ⟨nm, ky, fd, vl, n, m⟩) := Fw1.out.below hbe
  have hOw2 : Hid (w2.heap[B + 1]? = some (.cells outz 53 (0, 0))) := (hbe.block _ (heap_lt22 hOw1.out)).trans hOw1.out
  have Xw2 : Hid (w2.heap[w1.heap.size]? = some (.cells ((rwc ⟨rn, rt, ri, rf⟩).toArray) 62 (0, 0))) := hgr
  have HCB0 : Hid (B + 1 < w1.heap.size) := heap_lt22 hOw1.out
  clear hnew hgr hbe
  have hNE := HCB0.out
  go_wp2_with (first | (refine wpList_storeR (ty := 62) (x := .tmp 5) (y := .tmp 11) (ad := ⟨w1.heap.size, 0, none⟩) (v := .agg ((rwc ⟨rn, rt, ri, rf⟩).toArray)) (w' := w2) rfl rfl rfl rfl hst ?_))
  clear hst
  obtain ⟨D, hD⟩ : ∃ W, W = w2.drew := ⟨_, rfl⟩
  have SD : Fr w D B (B + 1) ⟨nm, ky, fd, vl, n, m⟩ ∧ D.heap[w1.heap.size]? = some (.cells (rwc ⟨rn, rt, ri, rf⟩).toArray 62 (0, 0)) := by rw [hD]; exact ⟨Fw2.out.drew, Xw2.out⟩
  have hOD : D.heap[B + 1]? = some (.cells outz 53 (0, 0)) := by rw [hD]; exact hOw2.out
  refine wp_region_noPanic ?_
  refine wp_region_held_drew (S := fun W' : World => Fr w W' B (B + 1) ⟨nm, ky, fd, vl, n, m⟩ ∧ W'.heap[w1.heap.size]? = some (.cells (rwc ⟨rn, rt, ri, rf⟩).toArray 62 (0, 0))) (by kernel_rfl) (by rw [← hD]; exact SD) (fun hHeld => ?_)
  rw [← hD] at hHeld ⊢
  clear hD
  refine wpAnyH_take (i := 0) (oi := { dst := some 16, op := _, type := _, pos := _, after := _, guard := _ }) (v := .pointer (some ⟨w1.heap.size, 2, none⟩)) rfl (by kernel_rfl) (by kernel_rfl) (by kernel_rfl) (fun _ _ _ h => h) (Or.inl ⟨by rfl, ?_⟩) (by assumption) ?_
  · intro w9 hSw
    exact y_field rfl rfl (field_rw2 _ _)
  simp only [Act.put, List.setIfInBounds_toArray, List.set_cons_zero, List.set_cons_succ]
  refine wpAnyH_take (i := 1) (oi := { dst := some 17, op := _, type := _, pos := _, after := _, guard := _ }) (v := .int .i64 ri) rfl (by kernel_rfl) (by kernel_rfl) (by kernel_rfl) (fun _ _ _ h => h) (Or.inl ⟨by rfl, ?_⟩) (by assumption) ?_
  · intro w9 hSw
    exact y_load rfl rfl (row_is22 hSw.2)
  simp only [Act.put, List.setIfInBounds_toArray, List.set_cons_zero, List.set_cons_succ]
  refine wpAnyH_take (i := 2) (oi := { dst := some 18, op := _, type := _, pos := _, after := _, guard := _ }) (v := .bool true) rfl (by kernel_rfl) (by kernel_rfl) (by kernel_rfl) (fun _ _ _ h => h) (Or.inl ⟨by rfl, ?_⟩) (by assumption) ?_
  · intro w9 hSw
    exact y_bin22 rfl rfl rfl (guard_int22 _ _ _) (HNQ.out _)
  simp only [Act.put, List.setIfInBounds_toArray, List.set_cons_zero, List.set_cons_succ]
  refine wpAnyH_take (i := 3) (oi := { dst := some 19, op := _, type := _, pos := _, after := _, guard := _ }) (v := .bool true) rfl (by kernel_rfl) (by kernel_rfl) (by kernel_rfl) (fun _ _ _ h => h) (Or.inl ⟨by rfl, ?_⟩) (by assumption) ?_
  · intro w9 hSw
    exact y_move rfl rfl
  simp only [Act.put, List.setIfInBounds_toArray, List.set_cons_zero, List.set_cons_succ]
  refine wpAnyH_take (i := 4) (oi := { dst := some 20, op := _, type := _, pos := _, after := _, guard := _ }) (v := .pointer p) rfl (by kernel_rfl) (by kernel_rfl) (by kernel_rfl) (fun _ _ _ h => h) (Or.inl ⟨by rfl, ?_⟩) (by assumption) ?_
  · intro w9 hSw
    exact y_move rfl rfl
  simp only [Act.put, List.setIfInBounds_toArray, List.set_cons_zero, List.set_cons_succ]
  refine wpAnyH_take (i := 5) (oi := { dst := some 21, op := _, type := _, pos := _, after := _, guard := _ }) (v := .pointer (some ⟨B, 1, none⟩)) rfl (by kernel_rfl) (by kernel_rfl) (by kernel_rfl) (fun _ _ _ h => h) (Or.inl ⟨by rfl, ?_⟩) (by assumption) ?_
  · intro w9 hSw
    exact y_field rfl rfl (fieldc1 _ _)
  simp only [Act.put, List.setIfInBounds_toArray, List.set_cons_zero, List.set_cons_succ]
  refine wpAnyH_take (i := 6) (oi := { dst := some 22, op := _, type := _, pos := _, after := _, guard := _ }) (v := .string (sb ky)) rfl (by kernel_rfl) (by kernel_rfl) (by kernel_rfl) (fun _ _ _ h => h) (Or.inl ⟨by rfl, ?_⟩) (by assumption) ?_
  · intro w9 hSw
    exact y_load rfl rfl hSw.1.l1
  simp only [Act.put, List.setIfInBounds_toArray, List.set_cons_zero, List.set_cons_succ]
  refine wpAnyH_take (i := 8) (oi := { dst := some 24, op := _, type := _, pos := _, after := _, guard := _ }) (v := .pointer (some ⟨w1.heap.size, 2, none⟩)) rfl (by kernel_rfl) (by kernel_rfl) (by kernel_rfl) (fun _ _ _ h => h) (Or.inl ⟨by rfl, ?_⟩) (by assumption) ?_
  · intro w9 hSw
    exact y_field rfl rfl (field_rw2 _ _)
  simp only [Act.put, List.setIfInBounds_toArray, List.set_cons_zero, List.set_cons_succ]
  refine wpAnyH_take (i := 9) (oi := { dst := some 25, op := _, type := _, pos := _, after := _, guard := _ }) (v := .int .i64 ri) rfl (by kernel_rfl) (by kernel_rfl) (by kernel_rfl) (fun _ _ _ h => h) (Or.inl ⟨by rfl, ?_⟩) (by assumption) ?_
  · intro w9 hSw
    exact y_load rfl rfl (row_is22 hSw.2)
  simp only [Act.put, List.setIfInBounds_toArray, List.set_cons_zero, List.set_cons_succ]
  clear hHeld
  refine wpAnyH_ready (rs := [7]) (by kernel_rfl) (by simp) ?_
  refine AllReadyH.cons (o := { dst := some 23, op := _, type := _, pos := _, after := _, guard := _ }) rfl (fun K hK => ?_) AllReadyH.nil
  rw [if_pos (by rfl)]
  have hCq1 := HT.out D SD.1.be
  refine y_call (f := 28) (xs := [.tmp 20, .tmp 22]) (vs := [.pointer p, .string (sb ky)]) rfl rfl (enters_stype _ _) hCq1 ?_
  rintro ex q1 ⟨rfl, hb⟩
  refine ⟨_, rfl, ?_⟩
  have Sq1 : Fr w q1 B (B + 1) ⟨nm, ky, fd, vl, n, m⟩ ∧ q1.heap[w1.heap.size]? = some (.cells (rwc ⟨rn, rt, ri, rf⟩).toArray 62 (0, 0)) := ⟨SD.1.below hb, (hb.block _ (heap_lt22 SD.2)).trans SD.2⟩
  have hOq1 : q1.heap[B + 1]? = some (.cells outz 53 (0, 0)) := (hb.block _ (heap_lt22 hOD)).trans hOD
  clear hCq1 hb
  refine hK.out _ _ Sq1 (fun hHeld => ?_)
  clear hK K
  simp only [Act.put, List.setIfInBounds_toArray, List.set_cons_zero, List.set_cons_succ]
  clear hHeld
  refine wpAnyH_ready (rs := [10]) (by kernel_rfl) (by simp) ?_
  refine AllReadyH.cons (o := { dst := some 26, op := _, type := _, pos := _, after := _, guard := _ }) rfl (fun K hK => ?_) AllReadyH.nil
  rw [if_pos (by rfl)]
  have hCq2 := isother_any t ri q1
  refine y_call (f := 27) (xs := [.tmp 23, .tmp 25]) (vs := [.int .i64 t, .int .i64 ri]) rfl rfl (enters_isother _ _) hCq2 ?_
  rintro ex q2 ⟨rfl, hb⟩
  refine ⟨_, rfl, ?_⟩
  have Sq2 : Fr w q2 B (B + 1) ⟨nm, ky, fd, vl, n, m⟩ ∧ q2.heap[w1.heap.size]? = some (.cells (rwc ⟨rn, rt, ri, rf⟩).toArray 62 (0, 0)) := ⟨Sq1.1.below hb, (hb.block _ (heap_lt22 Sq1.2)).trans Sq1.2⟩
  have hOq2 : q2.heap[B + 1]? = some (.cells outz 53 (0, 0)) := (hb.block _ (heap_lt22 hOq1)).trans hOq1
  clear hCq2 hb
  refine hK.out _ _ Sq2 (fun hHeld => ?_)
  clear hK K
  simp only [Act.put, List.setIfInBounds_toArray, List.set_cons_zero, List.set_cons_succ]
  refine wpAnyH_take (i := 11) (oi := { dst := some 27, op := _, type := _, pos := _, after := _, guard := _ }) (v := .bool (isoE t ri)) rfl (by kernel_rfl) (by kernel_rfl) (by kernel_rfl) (fun _ _ _ h => h) (Or.inl ⟨by rfl, ?_⟩) (by assumption) ?_
  · intro w9 hSw
    exact y_pick22 (b := true) rfl rfl rfl rfl
  simp only [Act.put, List.setIfInBounds_toArray, List.set_cons_zero, List.set_cons_succ]
  refine wpAnyH_done (by kernel_rfl) ?_ _
  refine NoPanic.normal ?_
  clear hHeld
  rw [HZ.out]
  have Fq2 : Hid (Fr w q2 B (B + 1) ⟨nm, ky, fd, vl, n, m⟩) := Sq2.1
  have hOq2x : Hid (q2.heap[B + 1]? = some (.cells outz 53 (0, 0))) := hOq2
  have Xq2 : Hid (q2.heap[w1.heap.size]? = some (.cells (rwc ⟨rn, rt, ri, rf⟩).toArray 62 (0, 0))) := Sq2.2
  clear SD Sq1 Sq2 hOD hOq1 hOq2
  have HLB : Hid (w.heap.size ≤ B) := FW0.out.lo
  have HLU : Hid (B + 1 < q2.heap.size) := heap_lt22 hOq2x.out
  have hld := Fq2.out.load
  have hcf := row_fn22 Xq2.out
  have hPP : Calls Tryz.prog rf #[.pointer p, .agg (clc ⟨nm, ky, fd, vl, n, m⟩)] q2 (PlanR O q2) := HP.out q2 Fq2.out.be
  go_wp2_with (first | (refine wpList_loadR (ty := 38) (x := .tmp 3) (ad := ⟨B, 0, none⟩) (v := .agg (clc ⟨nm, ky, fd, vl, n, m⟩)) rfl rfl rfl hld ?_) | (refine wpList_dyn (f := rf) (xs := [.tmp 31, .tmp 32]) (vs := [.pointer p, .agg (clc ⟨nm, ky, fd, vl, n, m⟩)]) rfl rfl rfl rfl (HEN.out _ _) hPP ?_))
  rintro ex w3 hPR
  obtain ⟨ao, q9, cc, rfl, hX, hb⟩ := hPR
  refine ⟨_, rfl, ?_⟩
  have Fw3 : Hid (Fr w w3 B (B + 1) ⟨nm, ky, fd, vl, n, m⟩) := Fq2.out.below hb
  have hOw3 : Hid (w3.heap[B + 1]? = some (.cells outz 53 (0, 0))) := (hb.block _ (heap_lt22 hOq2x.out)).trans hOq2x.out
  have HX : Hid (TRow w3 q2.heap.size (.slice ao q9 cc) O.L) := hX
  clear hld hcf hPP hb hX
  have hst := storeVar_out (cs := O.out ao q9 cc) hOw3.out rfl rfl (O.out_one _ _ _)
  have hgw4 := setRow_heap w3 (B + 1) _ (O.out ao q9 cc) _ _ hOw3.out
  have Fw4 := Fw3.out.set (O.out ao q9 cc)
  have HR4 : TRow (w3.setRow (B + 1) (O.out ao q9 cc)) q2.heap.size (.slice ao q9 cc) O.L := HX.out.keep (fun k hk => setRow_ne22 _ _ _ _ (by have := HX.out.own k hk; have := HLU.out; omega))
  generalize w3.setRow (B + 1) (O.out ao q9 cc) = w4 at *
  go_wp2_with (first | (refine wpList_storeR (ty := 53) (x := .tmp 4) (y := .tmp 33) (ad := ⟨B + 1, 0, none⟩) (v := .agg (O.out ao q9 cc)) (w' := w4) rfl rfl rfl rfl hst ?_))
  refine ret_out rfl rfl rfl hgw4 rfl ?_
  exact ⟨_, _, _, rfl, HR4.lower (by have := HLU.out; have := HLB.out; omega), by first | exact Fw4.be | (rw [← hB]; exact Fw4.be)⟩
end Go.Proofs.YtmlfekbmbnfkjabGreatDoor

