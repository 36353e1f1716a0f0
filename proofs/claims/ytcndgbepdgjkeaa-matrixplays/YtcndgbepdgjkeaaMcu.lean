/-
  What Cut and See come to.
-/
import Derived.Test.YtcndgbepdgjkeaaMco
namespace Go.Proofs.Ytcndgbepdgjkeaa
set_option maxRecDepth 100000
open Go.RowKit

theorem gtr_yes (w : World) {a b : Int} (h : b < a) : (binOp .gtr 3 (.int .i64 a) (.int .i64 b)).run Try.prog w = .ok (.bool true) w := by rw [gtr_run, decide_eq_true h]
theorem gtr_no (w : World) {a b : Int} (h : ¬ b < a) : (binOp .gtr 3 (.int .i64 a) (.int .i64 b)).run Try.prog w = .ok (.bool false) w := by rw [gtr_run, decide_eq_false h]

set_option maxHeartbeats 2000000 in
theorem mcut_any (p : Value) (n : Nat) (R : Nat → List Int) (s : List Int) (hs : s.length = 16) (w : World) (h : MP w p n R) :
    Calls Try.prog 15 #[p, .agg (vals s)] w fun e w' => e = .returned (.agg (vals (cutE n R s))) ∧ Below w.heap.size w w' := by
  obtain ⟨hA, hZ, hb0⟩ := boxed2 w s zeros
  have hM := (h.alloc (.cells (vals s) 24)).alloc (.cells (vals zeros) 24)
  generalize hW : (w.alloc (.cells (vals s) 24)).alloc (.cells (vals zeros) 24) = W at *
  rw [zeros_vals] at hW
  have hS := msize_any p n R W hM
  have hlen := h.len
  clear h
  go_enter Try.func15, Try.ntmps15
  go_wp2_with fail
  refine Calls.mono hS ?_
  rintro e w1 ⟨rfl, hw⟩
  obtain rfl := hw.symm
  clear hw hS
  go_wp2_with fail
  go_loopw [8] (fun i wr => ∃ k : Nat, k ≤ n ∧ i = .int .i64 (k : Int) ∧ wholeTo R s k = true ∧ Lies wr w.heap.size s ∧ Lies wr (w.heap.size + 1) zeros ∧ MP wr p n R ∧ Below w.heap.size w wr) (fun i _ => n - (intOf i).toNat)
  case atStart => exact ⟨0, Nat.zero_le _, rfl, rfl, hA, hZ, hM, hb0⟩
  case round =>
    clear hA hZ hM hb0 hW
    obtain ⟨k, hk, rfl, hwh, hA, hZ, hM, hB⟩ := hrel
    have HW : Hid _ := hwh
    clear hwh
    by_cases hkn : k < n
    · obtain ⟨g, rfl, hm⟩ := hM.mat (by omega)
      have hk16 : k < 16 := by have := hm.le; omega
      have hc1 := hm.grid.cell hk16 hk16
      have hc2 := hA.cell (k := k) (by omega)
      have hSd : wr.drew.cell? ⟨g, 1 + k * 16 + k, none⟩ = some (.int .i64 ((R k).getD k 0)) ∧ wr.drew.cell? ⟨w.heap.size, k, none⟩ = some (.int .i64 (s.getD k 0)) := ⟨hc1, hc2⟩
      have Hs : Hid ((R k).getD k 0 ≤ s.getD k 0 → wholeTo R s (k + 1) = true) := fun h => wholeTo_succ HW.out h
      have Hn : Hid (s.getD k 0 < (R k).getD k 0 → cutE n R s = zeros) := fun h => by rw [cutE, wholeTo_not hkn h]; rfl
      have HA : Hid (Lies wr.drew w.heap.size s) := hA.drew
      have HZ : Hid (Lies wr.drew (w.heap.size + 1) zeros) := hZ.drew
      have HM : Hid (Mat wr.drew g n R) := hm.drew
      have HB : Hid (Below w.heap.size w wr.drew) := hB.drew
      clear hc1 hc2 hA hZ hM hB hm HW
      generalize (R k).getD k 0 = x at *
      generalize s.getD k 0 = y at *
      by_cases hxy : y < x
      · go_wp2_with fail
        refine wp_region_noPanic ?_
        refine wp_region_held_drew (S := fun W' : World => W'.cell? ⟨g, 1 + k * 16 + k, none⟩ = some (.int .i64 x) ∧ W'.cell? ⟨w.heap.size, k, none⟩ = some (.int .i64 y)) (by kernel_rfl) hSd (fun hHeld => ?_)
        refine wpAnyH_take (i := 0) (oi := { dst := some 11, op := _, type := _, pos := _, after := _, guard := _ }) (v := .pointer (some ⟨g, 0, none⟩)) rfl (by kernel_rfl) (by kernel_rfl) (by kernel_rfl) (fun _ _ _ h => h) (Or.inl ⟨by rfl, ?_⟩) (by assumption) ?_
        · intro w9 hSw
          exact y_move rfl rfl
        simp only [Act.put, List.setIfInBounds_toArray, List.set_cons_zero, List.set_cons_succ]
        refine wpAnyH_take (i := 1) (oi := { dst := some 12, op := _, type := _, pos := _, after := _, guard := _ }) (v := .int .i64 (k : Int)) rfl (by kernel_rfl) (by kernel_rfl) (by kernel_rfl) (fun _ _ _ h => h) (Or.inl ⟨by rfl, ?_⟩) (by assumption) ?_
        · intro w9 hSw
          exact y_move rfl rfl
        simp only [Act.put, List.setIfInBounds_toArray, List.set_cons_zero, List.set_cons_succ]
        refine wpAnyH_take (i := 2) (oi := { dst := some 13, op := _, type := _, pos := _, after := _, guard := _ }) (v := .int .i64 (k : Int)) rfl (by kernel_rfl) (by kernel_rfl) (by kernel_rfl) (fun _ _ _ h => h) (Or.inl ⟨by rfl, ?_⟩) (by assumption) ?_
        · intro w9 hSw
          exact y_move rfl rfl
        simp only [Act.put, List.setIfInBounds_toArray, List.set_cons_zero, List.set_cons_succ]
        refine wpAnyH_take (i := 3) (oi := { dst := some 14, op := _, type := _, pos := _, after := _, guard := _ }) (v := .pointer (some ⟨g, 0, none⟩)) rfl (by kernel_rfl) (by kernel_rfl) (by kernel_rfl) (fun _ _ _ h => h) (Or.inl ⟨by rfl, ?_⟩) (by assumption) ?_
        · intro w9 hSw
          exact y_nil rfl rfl
        simp only [Act.put, List.setIfInBounds_toArray, List.set_cons_zero, List.set_cons_succ]
        refine wpAnyH_take (i := 4) (oi := { dst := some 15, op := _, type := _, pos := _, after := _, guard := _ }) (v := .pointer (some ⟨g, 1, none⟩)) rfl (by kernel_rfl) (by kernel_rfl) (by kernel_rfl) (fun _ _ _ h => h) (Or.inl ⟨by rfl, ?_⟩) (by assumption) ?_
        · intro w9 hSw
          exact y_field rfl rfl (field_m1 _ _)
        simp only [Act.put, List.setIfInBounds_toArray, List.set_cons_zero, List.set_cons_succ]
        refine wpAnyH_take (i := 5) (oi := { dst := some 16, op := _, type := _, pos := _, after := _, guard := _ }) (v := .pointer (some ⟨g, 1 + k * 16, none⟩)) rfl (by kernel_rfl) (by kernel_rfl) (by kernel_rfl) (fun _ _ _ h => h) (Or.inl ⟨by rfl, ?_⟩) (by assumption) ?_
        · intro w9 hSw
          exact y_index rfl rfl rfl (run_indexAt_arr _ _ _ k hk16)
        simp only [Act.put, List.setIfInBounds_toArray, List.set_cons_zero, List.set_cons_succ]
        refine wpAnyH_take (i := 6) (oi := { dst := some 17, op := _, type := _, pos := _, after := _, guard := _ }) (v := .pointer (some ⟨g, 1 + k * 16 + k, none⟩)) rfl (by kernel_rfl) (by kernel_rfl) (by kernel_rfl) (fun _ _ _ h => h) (Or.inl ⟨by rfl, ?_⟩) (by assumption) ?_
        · intro w9 hSw
          exact y_index rfl rfl rfl (run_indexAt_vo _ _ _ k hk16)
        simp only [Act.put, List.setIfInBounds_toArray, List.set_cons_zero, List.set_cons_succ]
        refine wpAnyH_take (i := 7) (oi := { dst := some 18, op := _, type := _, pos := _, after := _, guard := _ }) (v := .int .i64 x) rfl (by kernel_rfl) (by kernel_rfl) (by kernel_rfl) (fun _ _ _ h => h) (Or.inl ⟨by rfl, ?_⟩) (by assumption) ?_
        · intro w9 hSw
          exact y_load rfl rfl (load_int_run hSw.1)
        simp only [Act.put, List.setIfInBounds_toArray, List.set_cons_zero, List.set_cons_succ]
        refine wpAnyH_take (i := 8) (oi := { dst := some 19, op := _, type := _, pos := _, after := _, guard := _ }) (v := .int .i64 (k : Int)) rfl (by kernel_rfl) (by kernel_rfl) (by kernel_rfl) (fun _ _ _ h => h) (Or.inl ⟨by rfl, ?_⟩) (by assumption) ?_
        · intro w9 hSw
          exact y_move rfl rfl
        simp only [Act.put, List.setIfInBounds_toArray, List.set_cons_zero, List.set_cons_succ]
        refine wpAnyH_take (i := 9) (oi := { dst := some 20, op := _, type := _, pos := _, after := _, guard := _ }) (v := .pointer (some ⟨w.heap.size, k, none⟩)) rfl (by kernel_rfl) (by kernel_rfl) (by kernel_rfl) (fun _ _ _ h => h) (Or.inl ⟨by rfl, ?_⟩) (by assumption) ?_
        · intro w9 hSw
          exact y_index rfl rfl rfl (run_indexAt_vec _ _ k hk16)
        simp only [Act.put, List.setIfInBounds_toArray, List.set_cons_zero, List.set_cons_succ]
        refine wpAnyH_take (i := 10) (oi := { dst := some 21, op := _, type := _, pos := _, after := _, guard := _ }) (v := .int .i64 y) rfl (by kernel_rfl) (by kernel_rfl) (by kernel_rfl) (fun _ _ _ h => h) (Or.inl ⟨by rfl, ?_⟩) (by assumption) ?_
        · intro w9 hSw
          exact y_load rfl rfl (load_int_run hSw.2)
        simp only [Act.put, List.setIfInBounds_toArray, List.set_cons_zero, List.set_cons_succ]
        refine wpAnyH_take (i := 11) (oi := { dst := some 22, op := _, type := _, pos := _, after := _, guard := _ }) (v := .bool true) rfl (by kernel_rfl) (by kernel_rfl) (by kernel_rfl) (fun _ _ _ h => h) (Or.inl ⟨by rfl, ?_⟩) (by assumption) ?_
        · intro w9 hSw
          exact y_bin rfl rfl rfl (eqGuard_int _) (gtr_yes _ (by omega))
        simp only [Act.put, List.setIfInBounds_toArray, List.set_cons_zero, List.set_cons_succ]
        refine wpAnyH_done (by kernel_rfl) ?_ _
        refine NoPanic.normal ?_
        clear hHeld
        have hb4 := build_vv0 wr.drew
        have hZ := HZ.out
        clear hSd
        go_wp2_with (first
          | (refine wpList_b0 (ty := 24) (v := .agg (vals zeros)) rfl rfl hb4 ?_)
          | (refine wpList_storeR (ty := 24) (x := .tmp 4) (y := .tmp 23) (ad := ⟨w.heap.size + 1, 0, none⟩) (v := .agg (vals zeros)) rfl rfl rfl rfl (store_run hZ rfl rfl) ?_))
        exact ret_vec rfl rfl rfl (hZ.row _) rfl ⟨by rw [Hn.out hxy], below_setRow HB.out (by omega) _⟩
      · go_wp2_with fail
        refine wp_region_noPanic ?_
        refine wp_region_held_drew (S := fun W' : World => W'.cell? ⟨g, 1 + k * 16 + k, none⟩ = some (.int .i64 x) ∧ W'.cell? ⟨w.heap.size, k, none⟩ = some (.int .i64 y)) (by kernel_rfl) hSd (fun hHeld => ?_)
        refine wpAnyH_take (i := 0) (oi := { dst := some 11, op := _, type := _, pos := _, after := _, guard := _ }) (v := .pointer (some ⟨g, 0, none⟩)) rfl (by kernel_rfl) (by kernel_rfl) (by kernel_rfl) (fun _ _ _ h => h) (Or.inl ⟨by rfl, ?_⟩) (by assumption) ?_
        · intro w9 hSw
          exact y_move rfl rfl
        simp only [Act.put, List.setIfInBounds_toArray, List.set_cons_zero, List.set_cons_succ]
        refine wpAnyH_take (i := 1) (oi := { dst := some 12, op := _, type := _, pos := _, after := _, guard := _ }) (v := .int .i64 (k : Int)) rfl (by kernel_rfl) (by kernel_rfl) (by kernel_rfl) (fun _ _ _ h => h) (Or.inl ⟨by rfl, ?_⟩) (by assumption) ?_
        · intro w9 hSw
          exact y_move rfl rfl
        simp only [Act.put, List.setIfInBounds_toArray, List.set_cons_zero, List.set_cons_succ]
        refine wpAnyH_take (i := 2) (oi := { dst := some 13, op := _, type := _, pos := _, after := _, guard := _ }) (v := .int .i64 (k : Int)) rfl (by kernel_rfl) (by kernel_rfl) (by kernel_rfl) (fun _ _ _ h => h) (Or.inl ⟨by rfl, ?_⟩) (by assumption) ?_
        · intro w9 hSw
          exact y_move rfl rfl
        simp only [Act.put, List.setIfInBounds_toArray, List.set_cons_zero, List.set_cons_succ]
        refine wpAnyH_take (i := 3) (oi := { dst := some 14, op := _, type := _, pos := _, after := _, guard := _ }) (v := .pointer (some ⟨g, 0, none⟩)) rfl (by kernel_rfl) (by kernel_rfl) (by kernel_rfl) (fun _ _ _ h => h) (Or.inl ⟨by rfl, ?_⟩) (by assumption) ?_
        · intro w9 hSw
          exact y_nil rfl rfl
        simp only [Act.put, List.setIfInBounds_toArray, List.set_cons_zero, List.set_cons_succ]
        refine wpAnyH_take (i := 4) (oi := { dst := some 15, op := _, type := _, pos := _, after := _, guard := _ }) (v := .pointer (some ⟨g, 1, none⟩)) rfl (by kernel_rfl) (by kernel_rfl) (by kernel_rfl) (fun _ _ _ h => h) (Or.inl ⟨by rfl, ?_⟩) (by assumption) ?_
        · intro w9 hSw
          exact y_field rfl rfl (field_m1 _ _)
        simp only [Act.put, List.setIfInBounds_toArray, List.set_cons_zero, List.set_cons_succ]
        refine wpAnyH_take (i := 5) (oi := { dst := some 16, op := _, type := _, pos := _, after := _, guard := _ }) (v := .pointer (some ⟨g, 1 + k * 16, none⟩)) rfl (by kernel_rfl) (by kernel_rfl) (by kernel_rfl) (fun _ _ _ h => h) (Or.inl ⟨by rfl, ?_⟩) (by assumption) ?_
        · intro w9 hSw
          exact y_index rfl rfl rfl (run_indexAt_arr _ _ _ k hk16)
        simp only [Act.put, List.setIfInBounds_toArray, List.set_cons_zero, List.set_cons_succ]
        refine wpAnyH_take (i := 6) (oi := { dst := some 17, op := _, type := _, pos := _, after := _, guard := _ }) (v := .pointer (some ⟨g, 1 + k * 16 + k, none⟩)) rfl (by kernel_rfl) (by kernel_rfl) (by kernel_rfl) (fun _ _ _ h => h) (Or.inl ⟨by rfl, ?_⟩) (by assumption) ?_
        · intro w9 hSw
          exact y_index rfl rfl rfl (run_indexAt_vo _ _ _ k hk16)
        simp only [Act.put, List.setIfInBounds_toArray, List.set_cons_zero, List.set_cons_succ]
        refine wpAnyH_take (i := 7) (oi := { dst := some 18, op := _, type := _, pos := _, after := _, guard := _ }) (v := .int .i64 x) rfl (by kernel_rfl) (by kernel_rfl) (by kernel_rfl) (fun _ _ _ h => h) (Or.inl ⟨by rfl, ?_⟩) (by assumption) ?_
        · intro w9 hSw
          exact y_load rfl rfl (load_int_run hSw.1)
        simp only [Act.put, List.setIfInBounds_toArray, List.set_cons_zero, List.set_cons_succ]
        refine wpAnyH_take (i := 8) (oi := { dst := some 19, op := _, type := _, pos := _, after := _, guard := _ }) (v := .int .i64 (k : Int)) rfl (by kernel_rfl) (by kernel_rfl) (by kernel_rfl) (fun _ _ _ h => h) (Or.inl ⟨by rfl, ?_⟩) (by assumption) ?_
        · intro w9 hSw
          exact y_move rfl rfl
        simp only [Act.put, List.setIfInBounds_toArray, List.set_cons_zero, List.set_cons_succ]
        refine wpAnyH_take (i := 9) (oi := { dst := some 20, op := _, type := _, pos := _, after := _, guard := _ }) (v := .pointer (some ⟨w.heap.size, k, none⟩)) rfl (by kernel_rfl) (by kernel_rfl) (by kernel_rfl) (fun _ _ _ h => h) (Or.inl ⟨by rfl, ?_⟩) (by assumption) ?_
        · intro w9 hSw
          exact y_index rfl rfl rfl (run_indexAt_vec _ _ k hk16)
        simp only [Act.put, List.setIfInBounds_toArray, List.set_cons_zero, List.set_cons_succ]
        refine wpAnyH_take (i := 10) (oi := { dst := some 21, op := _, type := _, pos := _, after := _, guard := _ }) (v := .int .i64 y) rfl (by kernel_rfl) (by kernel_rfl) (by kernel_rfl) (fun _ _ _ h => h) (Or.inl ⟨by rfl, ?_⟩) (by assumption) ?_
        · intro w9 hSw
          exact y_load rfl rfl (load_int_run hSw.2)
        simp only [Act.put, List.setIfInBounds_toArray, List.set_cons_zero, List.set_cons_succ]
        refine wpAnyH_take (i := 11) (oi := { dst := some 22, op := _, type := _, pos := _, after := _, guard := _ }) (v := .bool false) rfl (by kernel_rfl) (by kernel_rfl) (by kernel_rfl) (fun _ _ _ h => h) (Or.inl ⟨by rfl, ?_⟩) (by assumption) ?_
        · intro w9 hSw
          exact y_bin rfl rfl rfl (eqGuard_int _) (gtr_no _ (by omega))
        simp only [Act.put, List.setIfInBounds_toArray, List.set_cons_zero, List.set_cons_succ]
        refine wpAnyH_done (by kernel_rfl) ?_ _
        refine NoPanic.normal ?_
        clear hHeld
        clear hSd
        go_wp2
        go_roundw
        case rel => exact ⟨k + 1, by omega, by go_num, Hs.out (by omega), HA.out, HZ.out, HM.out.mp, HB.out⟩
        case measure => simp [intOf]; omega
    · obtain rfl : k = n := by omega
      have hT := mstab_any p k R wr hM
      have hl16 := metE_len (n := k) hlen
      have He : Hid (cutE k R s = metE k R) := by show _ = _; rw [cutE, HW.out]; rfl
      have HB : Hid (Below w.heap.size w wr) := hB
      clear hM hB HW hA
      generalize metE k R = M at *
      go_wp2_with fail
      refine Calls.mono hT ?_
      rintro e w4 ⟨rfl, hb4⟩
      have hZ4 := hZ.below hb4 hZ.lt
      have HB4 : Hid (Below w.heap.size w w4) := HB.out.trans (hb4.mono HB.out.size)
      clear hZ hb4 HB hT
      go_wp2_with (refine wpList_storeR (ty := 24) (x := .tmp 4) (y := .tmp 26) (ad := ⟨w.heap.size + 1, 0, none⟩) (v := .agg (vals M)) rfl rfl rfl rfl (store_run hZ4 hl16 rfl) ?_)
      exact ret_vec rfl rfl rfl (hZ4.row _) hl16 ⟨by rw [He.out], below_setRow HB4.out (by omega) _⟩

theorem MP.at {w : World} {g n : Nat} {R : Nat → List Int} (h : MP w (.pointer (some ⟨g, 0, none⟩)) n R) : Mat w g n R := by
  rcases h with ⟨g', e, h⟩ | ⟨e, -⟩
  · injection e with e; injection e with e; injection e with e; subst e; exact h
  · cases e
set_option maxHeartbeats 2000000 in
theorem msee_any (p : Value) (n : Nat) (R : Nat → List Int) (r : Int) (v : List Int) (hv : v.length = 16) (w : World) (h : MP w p n R) (g : Nat) (hg : ∀ g', p = .pointer (some ⟨g', 0, none⟩) → g' = g) :
    Calls Try.prog 11 #[p, .int .i64 r, .agg (vals v)] w fun e w' => e = .returned (.int .i64 (seeN n r v)) ∧ MP w' p n (seeR n R r v) ∧ Chg g w w' ∧ (okS n r v = false → Below w.heap.size w w') := by
  have hV := lies_new w v
  have hb0 : Below w.heap.size w (w.alloc (.cells (vals v) 24)) := (Below.refl _ w).alloc (Nat.le_refl _) _
  have hM := h.alloc (.cells (vals v) 24)
  generalize hW : w.alloc (.cells (vals v) 24) = W at *
  have hH := mhas_any p n R r W hM
  have hR := right_any v hv W
  by_cases hi : inM n r = true
  · rw [hi] at hH
    by_cases hf : fine v = true
    · rw [hf] at hR
      have hok : okS n r v = true := by rw [okS, hi, hf]; rfl
      obtain ⟨k, rfl, hk⟩ := inM_yes hi
      obtain ⟨g', rfl, hm0⟩ := h.mat (by omega)
      obtain rfl := hg g' rfl
      have hgl := hm0.lt
      have hk16 : k < 16 := by have := hm0.le; omega
      have hR16 := hm0.grid.len k
      have HsR : Hid (seeR n R (k : Int) v = setR R k (each max (R k) v)) := by show _ = _; rw [seeR, if_pos hok, Int.toNat_natCast]
      rw [show seeN n (k : Int) v = 0 by rw [seeN, if_pos hok]]
      have hm := hM.at
      have Hok : Hid (okS n (k : Int) v = true) := hok
      clear hok hi hf h hM hm0 hg
      go_enter Try.func11, Try.ntmps11
      go_wp2_with fail
      refine Calls.mono hH ?_
      rintro e w1 ⟨rfl, hw⟩
      obtain rfl := hw.symm
      clear hw hH
      go_wp2_with (refine load_vec_w rfl rfl rfl hV hv ?_)
      refine Calls.mono hR ?_
      rintro e w2 ⟨rfl, hb2⟩
      have hVd := (hV.below hb2 hV.lt).drew
      have hmd := (hm.below hb2 hm.lt).drew
      have HB2 : Hid (Below w.heap.size w w2.drew) := (hb0.trans (hb2.mono hb0.size)).drew
      clear hV hm hb0 hb2 hR hW
      go_wp2_with fail
      refine wp_region_noPanic ?_
      refine wp_region_held_drew (S := fun W' : World => Lies W' w.heap.size v) (by kernel_rfl) hVd (fun hHeld => ?_)
      refine wpAnyH_take (i := 0) (oi := { dst := some 16, op := _, type := _, pos := _, after := _, guard := _ }) (v := .pointer (some ⟨g', 0, none⟩)) rfl (by kernel_rfl) (by kernel_rfl) (by kernel_rfl) (fun _ _ _ h => h) (Or.inl ⟨by rfl, ?_⟩) (by assumption) ?_
      · intro w9 hSw
        exact y_move rfl rfl
      simp only [Act.put, List.setIfInBounds_toArray, List.set_cons_zero, List.set_cons_succ]
      refine wpAnyH_take (i := 1) (oi := { dst := some 17, op := _, type := _, pos := _, after := _, guard := _ }) (v := .int .i64 (k : Int)) rfl (by kernel_rfl) (by kernel_rfl) (by kernel_rfl) (fun _ _ _ h => h) (Or.inl ⟨by rfl, ?_⟩) (by assumption) ?_
      · intro w9 hSw
        exact y_move rfl rfl
      simp only [Act.put, List.setIfInBounds_toArray, List.set_cons_zero, List.set_cons_succ]
      refine wpAnyH_take (i := 2) (oi := { dst := some 18, op := _, type := _, pos := _, after := _, guard := _ }) (v := .pointer (some ⟨g', 0, none⟩)) rfl (by kernel_rfl) (by kernel_rfl) (by kernel_rfl) (fun _ _ _ h => h) (Or.inl ⟨by rfl, ?_⟩) (by assumption) ?_
      · intro w9 hSw
        exact y_move rfl rfl
      simp only [Act.put, List.setIfInBounds_toArray, List.set_cons_zero, List.set_cons_succ]
      refine wpAnyH_take (i := 3) (oi := { dst := some 19, op := _, type := _, pos := _, after := _, guard := _ }) (v := .int .i64 (k : Int)) rfl (by kernel_rfl) (by kernel_rfl) (by kernel_rfl) (fun _ _ _ h => h) (Or.inl ⟨by rfl, ?_⟩) (by assumption) ?_
      · intro w9 hSw
        exact y_move rfl rfl
      simp only [Act.put, List.setIfInBounds_toArray, List.set_cons_zero, List.set_cons_succ]
      refine wpAnyH_take (i := 4) (oi := { dst := some 20, op := _, type := _, pos := _, after := _, guard := _ }) (v := .pointer (some ⟨g', 0, none⟩)) rfl (by kernel_rfl) (by kernel_rfl) (by kernel_rfl) (fun _ _ _ h => h) (Or.inl ⟨by rfl, ?_⟩) (by assumption) ?_
      · intro w9 hSw
        exact y_nil rfl rfl
      simp only [Act.put, List.setIfInBounds_toArray, List.set_cons_zero, List.set_cons_succ]
      refine wpAnyH_take (i := 5) (oi := { dst := some 21, op := _, type := _, pos := _, after := _, guard := _ }) (v := .pointer (some ⟨g', 1, none⟩)) rfl (by kernel_rfl) (by kernel_rfl) (by kernel_rfl) (fun _ _ _ h => h) (Or.inl ⟨by rfl, ?_⟩) (by assumption) ?_
      · intro w9 hSw
        exact y_field rfl rfl (field_m1 _ _)
      simp only [Act.put, List.setIfInBounds_toArray, List.set_cons_zero, List.set_cons_succ]
      refine wpAnyH_take (i := 6) (oi := { dst := some 22, op := _, type := _, pos := _, after := _, guard := _ }) (v := .pointer (some ⟨g', 1 + k * 16, none⟩)) rfl (by kernel_rfl) (by kernel_rfl) (by kernel_rfl) (fun _ _ _ h => h) (Or.inl ⟨by rfl, ?_⟩) (by assumption) ?_
      · intro w9 hSw
        exact y_index rfl rfl rfl (run_indexAt_arr _ _ _ k hk16)
      simp only [Act.put, List.setIfInBounds_toArray, List.set_cons_zero, List.set_cons_succ]
      refine wpAnyH_take (i := 8) (oi := { dst := some 24, op := _, type := _, pos := _, after := _, guard := _ }) (v := .agg (vals (v))) rfl (by kernel_rfl) (by kernel_rfl) (by kernel_rfl) (fun _ _ _ h => h) (Or.inl ⟨by rfl, ?_⟩) (by assumption) ?_
      · intro w9 hSw
        exact y_load rfl rfl (load_run hSw hv)
      simp only [Act.put, List.setIfInBounds_toArray, List.set_cons_zero, List.set_cons_succ]
      refine wpAnyH_take (i := 10) (oi := { dst := some 26, op := _, type := _, pos := _, after := _, guard := _ }) (v := .pointer (some ⟨g', 0, none⟩)) rfl (by kernel_rfl) (by kernel_rfl) (by kernel_rfl) (fun _ _ _ h => h) (Or.inl ⟨by rfl, ?_⟩) (by assumption) ?_
      · intro w9 hSw
        exact y_nil rfl rfl
      simp only [Act.put, List.setIfInBounds_toArray, List.set_cons_zero, List.set_cons_succ]
      refine wpAnyH_take (i := 11) (oi := { dst := some 27, op := _, type := _, pos := _, after := _, guard := _ }) (v := .pointer (some ⟨g', 1, none⟩)) rfl (by kernel_rfl) (by kernel_rfl) (by kernel_rfl) (fun _ _ _ h => h) (Or.inl ⟨by rfl, ?_⟩) (by assumption) ?_
      · intro w9 hSw
        exact y_field rfl rfl (field_m1 _ _)
      simp only [Act.put, List.setIfInBounds_toArray, List.set_cons_zero, List.set_cons_succ]
      clear hHeld
      refine wpAnyH_ready (rs := [7]) (by kernel_rfl) (by simp) ?_
      refine AllReadyH.cons (o := { dst := some 23, op := _, type := _, pos := _, after := _, guard := _ }) rfl (fun K hK => ?_) AllReadyH.nil
      rw [if_pos (by rfl)]
      refine y_ldw (ty := 24) (x := .tmp 22) (ad := ⟨g', 1 + k * 16, none⟩) (v := .agg (vals (R k))) rfl rfl (grid_load hmd.grid hk16) ?_
      refine hK.out _ _ hVd (fun hHeld => ?_)
      clear hK K
      simp only [Act.put, List.setIfInBounds_toArray, List.set_cons_zero, List.set_cons_succ]
      clear hHeld
      refine wpAnyH_ready (rs := [9]) (by kernel_rfl) (by simp) ?_
      refine AllReadyH.cons (o := { dst := some 25, op := _, type := _, pos := _, after := _, guard := _ }) rfl (fun K hK => ?_) AllReadyH.nil
      rw [if_pos (by rfl)]
      refine y_call (f := 24) (xs := [.tmp 23, .tmp 24]) (vs := [.agg (vals (R k)), .agg (vals (v))]) rfl rfl (enters_join _ _) (join_any (R k) v hR16 hv w2.drew) ?_
      rintro ex w4 ⟨rfl, hb4⟩
      refine ⟨_, rfl, ?_⟩
      have hM4 := hmd.below hb4 hmd.lt
      have hV4 := hVd.below hb4 hVd.lt
      have hC4 : Chg g' w w4 := Chg.of_below (HB2.out.trans (hb4.mono HB2.out.size))
      refine hK.out _ _ hV4 (fun hHeld => ?_)
      clear hK K
      simp only [Act.put, List.setIfInBounds_toArray, List.set_cons_zero, List.set_cons_succ]
      refine wpAnyH_take (i := 12) (oi := { dst := some 28, op := _, type := _, pos := _, after := _, guard := _ }) (v := .pointer (some ⟨g', 1 + k * 16, none⟩)) rfl (by kernel_rfl) (by kernel_rfl) (by kernel_rfl) (fun _ _ _ h => h) (Or.inl ⟨by rfl, ?_⟩) (by assumption) ?_
      · intro w9 hSw
        exact y_index rfl rfl rfl (run_indexAt_arr _ _ _ k hk16)
      simp only [Act.put, List.setIfInBounds_toArray, List.set_cons_zero, List.set_cons_succ]
      clear hHeld
      obtain ⟨w5, hw5⟩ : ∃ w5, w5 = w4.setCells g' (1 + k * 16) ((each max (R k) v).map (Value.int .i64)) := ⟨_, rfl⟩
      have hst := grid_store hM4.grid hk16 (each_length max (R k) v hR16 hv)
      have hM5 := hM4.store hk16 (each_length max (R k) v hR16 hv)
      have hC5 := hC4.trans (Chg.set w4 g' (1 + k * 16) ((each max (R k) v).map (Value.int .i64)))
      have hV5 := hV4.chg (Chg.set w4 g' (1 + k * 16) ((each max (R k) v).map (Value.int .i64))) (by omega)
      rw [← hw5] at hst hM5 hC5 hV5
      refine wpAnyH_ready (rs := [13]) (by kernel_rfl) (by simp) ?_
      refine AllReadyH.cons (o := { dst := none, op := _, type := _, pos := _, after := _, guard := _ }) rfl (fun K hK => ?_) AllReadyH.nil
      rw [if_pos (by rfl)]
      refine y_store (ty := 24) (x := .tmp 28) (y := .tmp 25) (ad := ⟨g', 1 + k * 16, none⟩) (v := .agg (vals (each max (R k) v))) (w' := w5) rfl rfl rfl hst ?_
      refine hK.out _ _ hV5 (fun hHeld => ?_)
      clear hK K
      simp only [Act.put]
      refine wpAnyH_done (by kernel_rfl) ?_ _
      refine NoPanic.normal ?_
      clear hHeld
      clear hst hw5 hM4 hV4 hC4 hb4 hVd hmd
      have HM5 : Hid (Mat w5 g' n (setR R k (each max (R k) v))) := hM5
      have HC : Hid (Chg g' w w5) := hC5
      clear hM5 hC5 hV5
      go_wp2
      go_ret
      exact ⟨rfl, by rw [HsR.out]; exact HM5.out.mp, HC.out, fun h => by rw [Hok.out] at h; cases h⟩
    · have hf' : fine v = false := by simpa using hf
      rw [hf'] at hR
      have hok : okS n r v = false := by rw [okS, hi, hf']; rfl
      have HsR : Hid (seeR n R r v = R) := by show _ = _; rw [seeR, hok]; rfl
      rw [show seeN n r v = 1 by rw [seeN, hok]; rfl]
      clear hok hi hf hf' h hg
      go_enter Try.func11, Try.ntmps11
      go_wp2_with fail
      refine Calls.mono hH ?_
      rintro e w1 ⟨rfl, hw⟩
      obtain rfl := hw.symm
      clear hw hH
      go_wp2_with (refine load_vec_w rfl rfl rfl hV hv ?_)
      refine Calls.mono hR ?_
      rintro e w2 ⟨rfl, hb2⟩
      have HM : Hid (MP w2 p n R) := hM.below hb2 (Nat.le_refl _)
      have HC : Hid (Below w.heap.size w w2) := hb0.trans (hb2.mono hb0.size)
      clear hV hM hb0 hb2 hR hW
      go_wp2
      go_ret
      exact ⟨rfl, by rw [HsR.out]; exact HM.out, Chg.of_below HC.out, fun _ => HC.out⟩
  · have hi' : inM n r = false := by simpa using hi
    rw [hi'] at hH
    have hok : okS n r v = false := by rw [okS, hi']; rfl
    have HsR : Hid (seeR n R r v = R) := by show _ = _; rw [seeR, hok]; rfl
    rw [show seeN n r v = 1 by rw [seeN, hok]; rfl]
    have HM : Hid (MP W p n R) := hM
    have HC : Hid (Below w.heap.size w W) := hb0
    clear hok hi hi' h hg hR hV hM hb0
    go_enter Try.func11, Try.ntmps11
    go_wp2_with fail
    refine Calls.mono hH ?_
    rintro e w1 ⟨rfl, hw⟩
    obtain rfl := hw.symm
    clear hw hH
    go_wp2
    go_ret
    exact ⟨rfl, by rw [HsR.out]; exact HM.out, Chg.of_below HC.out, fun _ => HC.out⟩
theorem msee_mat (g n : Nat) (R : Nat → List Int) (r : Int) (v : List Int) (hv : v.length = 16) (w : World) (h : Mat w g n R) :
    Calls Try.prog 11 #[.pointer (some ⟨g, 0, none⟩), .int .i64 r, .agg (vals v)] w fun e w' => e = .returned (.int .i64 (seeN n r v)) ∧ Mat w' g n (seeR n R r v) ∧ Chg g w w' :=
  (msee_any _ n R r v hv w h.mp g (fun g' e => by injection e with e; injection e with e; injection e with e; exact e.symm)).mono fun e w' ⟨h1, h2, h3, _⟩ => ⟨h1, h2.at, h3⟩
theorem okS_none (r : Int) (v : List Int) : okS 0 r v = false := by
  rw [okS, show inM 0 r = false from decide_eq_false (by omega)]; rfl
theorem msee_none (p : Value) (R : Nat → List Int) (r : Int) (v : List Int) (hv : v.length = 16) (w : World) (h : MP w p 0 R) :
    Calls Try.prog 11 #[p, .int .i64 r, .agg (vals v)] w fun e w' => e = .returned (.int .i64 1) ∧ Below w.heap.size w w' := by
  have hg : ∃ g, ∀ g', p = .pointer (some ⟨g', 0, none⟩) → g' = g := by
    rcases h with ⟨g, rfl, -⟩ | ⟨rfl, -⟩
    · exact ⟨g, fun g' e => by injection e with e; injection e with e; injection e with e; exact e.symm⟩
    · exact ⟨0, fun g' e => by cases e⟩
  obtain ⟨g, hg⟩ := hg
  refine (msee_any p 0 R r v hv w h g hg).mono fun e w' ⟨h1, _, _, h4⟩ => ⟨?_, h4 (okS_none r v)⟩
  rw [h1, seeN, okS_none r v]; rfl
theorem mrow_none (p : Value) (R : Nat → List Int) (r : Int) (w : World) (h : MP w p 0 R) : Calls Try.prog 17 #[p, .int .i64 r] w fun e w' => e = .returned (.agg (vals zeros)) ∧ Below w.heap.size w w' := by
  have := mrow_any p 0 R r w h
  rwa [rowE, show inM 0 r = false from decide_eq_false (by omega), if_neg (by decide)] at this
theorem mstab_none (p : Value) (R : Nat → List Int) (w : World) (h : MP w p 0 R) : Calls Try.prog 13 #[p] w fun e w' => e = .returned (.agg (vals zeros)) ∧ Below w.heap.size w w' := mstab_any p 0 R w h
theorem mcut_none (p : Value) (R : Nat → List Int) (s : List Int) (hs : s.length = 16) (w : World) (h : MP w p 0 R) : Calls Try.prog 15 #[p, .agg (vals s)] w fun e w' => e = .returned (.agg (vals zeros)) ∧ Below w.heap.size w w' := mcut_any p 0 R s hs w h
/-! Three of replica 0. -/
def three : List Int := [3, 0, 0, 0, 0, 0, 0, 0, 0, 0, 0, 0, 0, 0, 0, 0]
theorem build_three (w : World) : (Instr.build 24 #[(0, .int .i64 3)]).run Try.prog w = .ok (.agg (vals three)) w := by kernel_rfl
set_option maxHeartbeats 1000000 in
theorem mawake_any (w : World) : Calls Try.prog 8 #[] w fun e w' => e = .returned (.bool true) ∧ Below w.heap.size w w' := by
  have hN := mnew_any 1 w
  have hM0 := mat_new w 1 (by decide)
  have hb0 : Below w.heap.size w (w.alloc (.cells (mcells 1) 48)) := (Below.refl _ w).alloc (Nat.le_refl _) _
  rw [show clampN 1 = 1 from rfl] at hN
  generalize w.alloc (.cells (mcells 1) 48) = W0 at *
  obtain ⟨g, hg⟩ : ∃ g, w.heap.size = g := ⟨_, rfl⟩
  rw [hg] at hN hM0 hb0 ⊢
  have hS := msee_mat g 1 zeroR 0 three rfl W0 hM0
  have hb3 := fun W => build_three W
  have hsz : g ≤ W0.heap.size := hg ▸ hb0.size
  have pv := plain_vec
  have q := fun W => run_equalIn_vec W 9998 three three rfl rfl
  clear hM0
  go_enter Try.func8, Try.ntmps8
  go_wp2_with fail
  refine Calls.mono hN ?_
  rintro e w1 ⟨rfl, hw⟩
  obtain rfl := hw.symm
  clear hw hN
  go_wp2_with (refine wpList_b1 (ty := 24) (i := 0) (x := .const (.int .i64 3)) (p := .int .i64 3) (v := .agg (vals three)) rfl rfl rfl (hb3 _) ?_)
  refine Calls.mono hS ?_
  rintro e w2 ⟨rfl, hM2, hC2⟩
  rw [show seeN 1 0 three = 0 from rfl]
  have HB2 : Hid (Below g w w2) := hb0.trans (hC2.below (Nat.le_refl _) hsz)
  have hT := mstab_any _ 1 _ w2 hM2.mp
  rw [show metE 1 (seeR 1 zeroR 0 three) = three from rfl] at hT
  clear hS hC2 hb0
  go_wp2_with (refine wpList_b1 (ty := 24) (i := 0) (x := .const (.int .i64 3)) (p := .int .i64 3) (v := .agg (vals three)) rfl rfl rfl (hb3 _) ?_)
  refine Calls.mono hT ?_
  rintro e w3 ⟨rfl, hb3'⟩
  have hM3 := hM2.below hb3' hM2.lt
  have HB3 : Hid (Below g w w3) := HB2.out.trans (hb3'.mono (Nat.le_of_lt hM2.lt))
  have hR := mrow_any _ 1 _ 0 w3 hM3.mp
  rw [show rowE 1 (seeR 1 zeroR 0 three) 0 = three from rfl] at hR
  clear hT hM2 hb3' HB2 hM3
  go_wp2_with (refine wpList_b1 (ty := 24) (i := 0) (x := .const (.int .i64 3)) (p := .int .i64 3) (v := .agg (vals three)) rfl rfl rfl (hb3 _) ?_)
  refine Calls.mono hR ?_
  rintro e w4 ⟨rfl, hb4⟩
  have HB4 : Hid (Below g w w4) := HB3.out.trans (hb4.mono (by have := HB3.out.size; omega))
  clear hR hb4 HB3
  go_wp2_with (refine wpList_b1 (ty := 24) (i := 0) (x := .const (.int .i64 3)) (p := .int .i64 3) (v := .agg (vals three)) rfl rfl rfl (hb3 _) ?_)
  go_ret
  exact ⟨rfl, HB4.out⟩
end Go.Proofs.Ytcndgbepdgjkeaa
