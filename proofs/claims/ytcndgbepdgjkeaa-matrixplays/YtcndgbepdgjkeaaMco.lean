/-
  What the matrix' functions come to.
-/
import Derived.Test.YtcndgbepdgjkeaaMpu
import Derived.Lib.MinMax
namespace Go.Proofs.Ytcndgbepdgjkeaa
set_option maxRecDepth 100000
open Go.RowKit

theorem enters_msee (xs : Array Value) (w : World) : (callFunc 11 xs).run Try.prog w = .ok (.enter 11 xs) w := enters Try.func11 (by kernel_rfl) (by kernel_rfl) xs w
theorem enters_mstab (xs : Array Value) (w : World) : (callFunc 13 xs).run Try.prog w = .ok (.enter 13 xs) w := enters Try.func13 (by kernel_rfl) (by kernel_rfl) xs w
theorem enters_mcut (xs : Array Value) (w : World) : (callFunc 15 xs).run Try.prog w = .ok (.enter 15 xs) w := enters Try.func15 (by kernel_rfl) (by kernel_rfl) xs w
theorem enters_mrow (xs : Array Value) (w : World) : (callFunc 17 xs).run Try.prog w = .ok (.enter 17 xs) w := enters Try.func17 (by kernel_rfl) (by kernel_rfl) xs w
theorem store_run {w : World} {g : Nat} {l m : List Int} (hg : Lies w g m) (hl : l.length = 16) (hm : m.length = 16) : (storeVar 24 ⟨g, 0, none⟩ (.agg (vals l))).run Try.prog w = .ok () (w.setRow g (vals l)) :=
  run_storeVar_row w g 24 24 _ (vals l) hg (size16 l hl) (by rw [vals_size, vals_size, hl, hm]) (vals_one l)

set_option maxHeartbeats 400000 in
theorem msize_any (p : Value) (n : Nat) (R : Nat → List Int) (w : World) (h : MP w p n R) : Calls Try.prog 25 #[p] w fun e w' => e = .returned (.int .i64 (n : Int)) ∧ w' = w := by
  rcases h with ⟨g, rfl, h⟩ | ⟨rfl, rfl, -⟩
  · have hc := h.num
    clear h
    go_enter Try.func25, Try.ntmps25
    go_wp2
    go_ret
    exact ⟨rfl, rfl⟩
  · go_enter Try.func25, Try.ntmps25
    go_wp2
    go_ret
    exact ⟨rfl, rfl⟩

set_option maxHeartbeats 400000 in
theorem mhas_any (p : Value) (n : Nat) (R : Nat → List Int) (r : Int) (w : World) (h : MP w p n R) : Calls Try.prog 22 #[p, .int .i64 r] w fun e w' => e = .returned (.bool (inM n r)) ∧ w' = w := by
  have hS := msize_any p n R w h
  clear h
  by_cases h0 : 0 ≤ r
  · by_cases h1 : r < (n : Int)
    · rw [show inM n r = true from decide_eq_true ⟨h0, h1⟩]
      go_enter Try.func22, Try.ntmps22
      go_wp2_with fail
      refine Calls.mono hS ?_
      rintro e w1 ⟨rfl, hw⟩
      obtain rfl := hw.symm
      clear hw
      go_wp2
      go_ret
      exact ⟨rfl, rfl⟩
    · rw [show inM n r = false from decide_eq_false (fun h => h1 h.2)]
      go_enter Try.func22, Try.ntmps22
      go_wp2_with fail
      refine Calls.mono hS ?_
      rintro e w1 ⟨rfl, hw⟩
      obtain rfl := hw.symm
      clear hw
      go_wp2
      go_ret
      refine ⟨?_, rfl⟩
      show Ending.returned (.bool (decide (r < (n : Int)))) = _
      rw [decide_eq_false (by omega)]
  · rw [show inM n r = false from decide_eq_false (fun h => h0 h.1)]
    go_enter Try.func22, Try.ntmps22
    go_wp2
    go_ret
    exact ⟨rfl, rfl⟩

/-- A new matrix' cells. -/
def mcells (n : Nat) : Array Value := (Value.int .i64 (n : Int) :: List.replicate 256 (.int .i64 0)).toArray
theorem build_mat (w : World) (n : Nat) : (Instr.build 48 #[(0, .int .i64 (n : Int))]).run Try.prog w = .ok (.agg (mcells n)) w := by kernel_rfl
theorem build_mat0 (w : World) : (Instr.build 48 #[]).run Try.prog w = .ok (.agg (mcells 0)) w := by kernel_rfl
theorem mat_new (w : World) (n : Nat) (hn : n ≤ 16) : Mat (w.alloc (.cells (mcells n) 48)) w.heap.size n zeroR := by
  refine ⟨grid_new w _ _ 1 16 fun j hj => ?_, ?_, hn⟩
  · rw [mcells, List.getElem?_toArray, Nat.add_comm, List.getElem?_cons_succ, List.getElem?_replicate, if_pos (by omega)]
  · rw [cell_of_row _ w.heap.size 0 _ _ _ (heap_alloc_new w _)]
    rfl

set_option maxHeartbeats 1000000 in
theorem mnew_any (x : Int) (w : World) : Calls Try.prog 9 #[.int .i64 x] w fun e w' => e = .returned (.pointer (some ⟨w.heap.size, 0, none⟩)) ∧ w' = w.alloc (.cells (mcells (clampN x)) 48) := by
  by_cases h1 : x < 1
  · have e : clampN x = 1 := by unfold clampN; omega
    rw [e]
    clear e
    have hb : (Instr.build 48 #[(0, .int .i64 1)]).run Try.prog w = .ok (.agg (mcells 1)) w := build_mat w 1
    have e1 : max x 1 = 1 := by omega
    have e2 : min (1 : Int) 16 = 1 := by omega
    generalize mcells _ = C at *
    go_enter Try.func9, Try.ntmps9
    go_wp2_with (refine wpList_b1 (ty := 48) (i := 0) (x := .tmp 5) (p := .int .i64 1) (v := .agg C) rfl rfl rfl hb ?_)
    go_ret
    exact ⟨rfl, rfl⟩
  · by_cases h2 : 16 < x
    · have e : clampN x = 16 := by unfold clampN; omega
      rw [e]
      clear e
      have hb : (Instr.build 48 #[(0, .int .i64 16)]).run Try.prog w = .ok (.agg (mcells 16)) w := build_mat w 16
      have e1 : max x 1 = x := by omega
      have e2 : min x 16 = 16 := by omega
      generalize mcells _ = C at *
      go_enter Try.func9, Try.ntmps9
      go_wp2_with (refine wpList_b1 (ty := 48) (i := 0) (x := .tmp 5) (p := .int .i64 16) (v := .agg C) rfl rfl rfl hb ?_)
      go_ret
      exact ⟨rfl, rfl⟩
    · obtain ⟨k, hk⟩ : ∃ k : Nat, x = (k : Int) := ⟨x.toNat, by omega⟩
      subst hk
      have e : clampN (k : Int) = k := by unfold clampN; omega
      rw [e]
      clear e
      have hb : (Instr.build 48 #[(0, .int .i64 (k : Int))]).run Try.prog w = .ok (.agg (mcells k)) w := build_mat w k
      have e1 : max (k : Int) 1 = (k : Int) := by omega
      have e2 : min (k : Int) 16 = (k : Int) := by omega
      generalize mcells _ = C at *
      go_enter Try.func9, Try.ntmps9
      go_wp2_with (refine wpList_b1 (ty := 48) (i := 0) (x := .tmp 5) (p := .int .i64 (k : Int)) (v := .agg C) rfl rfl rfl hb ?_)
      go_ret
      exact ⟨rfl, rfl⟩

set_option maxHeartbeats 1000000 in
theorem mrow_any (p : Value) (n : Nat) (R : Nat → List Int) (r : Int) (w : World) (h : MP w p n R) :
    Calls Try.prog 17 #[p, .int .i64 r] w fun e w' => e = .returned (.agg (vals (rowE n R r))) ∧ Below w.heap.size w w' := by
  have hZ := lies_new w zeros
  have hb0 : Below w.heap.size w (w.alloc (.cells (vals zeros) 24)) := (Below.refl _ w).alloc (Nat.le_refl _) _
  have hM := h.alloc (.cells (vals zeros) 24)
  generalize hW : w.alloc (.cells (vals zeros) 24) = W at *
  rw [zeros_vals] at hW
  have hH := mhas_any p n R r W hM
  by_cases hi : inM n r = true
  · obtain ⟨k, rfl, hk⟩ := inM_yes hi
    obtain ⟨g, rfl, hm⟩ := hM.mat (by omega)
    have hk16 : k < 16 := by have := hm.le; omega
    have hix := fun (W : World) => run_indexAt_arr W g 1 k hk16
    have hld := grid_load hm.grid hk16
    have hlen := hm.grid.len k
    rw [hi] at hH
    rw [rowE_in hk]
    generalize hl : R k = l at *
    clear hl h hM hm hi
    go_enter Try.func17, Try.ntmps17
    go_wp2_with fail
    refine Calls.mono hH ?_
    rintro e w1 ⟨rfl, hw⟩
    obtain rfl := hw.symm
    clear hw
    go_wp2_with (first
      | (refine wpList_loadR (ty := 24) (x := .tmp 14) (ad := ⟨g, 1 + k * 16, none⟩) (v := .agg (vals l)) rfl rfl rfl hld ?_)
      | (refine wpList_storeR (ty := 24) (x := .tmp 4) (y := .tmp 15) (ad := ⟨w.heap.size, 0, none⟩) (v := .agg (vals l)) rfl rfl rfl rfl (store_run hZ hlen rfl) ?_))
    exact ret_vec rfl rfl rfl (hZ.row _) hlen ⟨rfl, below_setRow hb0 (Nat.le_refl _) _⟩
  · have hi' : inM n r = false := by simpa using hi
    rw [hi'] at hH
    rw [rowE, hi', if_neg (by decide)]
    have hb4 := build_vv0 W
    clear h hM hi hi'
    go_enter Try.func17, Try.ntmps17
    go_wp2_with fail
    refine Calls.mono hH ?_
    rintro e w1 ⟨rfl, hw⟩
    obtain rfl := hw.symm
    clear hw
    go_wp2_with (first
      | (refine wpList_b0 (ty := 24) (v := .agg (vals zeros)) rfl rfl hb4 ?_)
      | (refine wpList_storeR (ty := 24) (x := .tmp 4) (y := .tmp 9) (ad := ⟨w.heap.size, 0, none⟩) (v := .agg (vals zeros)) rfl rfl rfl rfl (store_run hZ rfl rfl) ?_))
    exact ret_vec rfl rfl rfl (hZ.row _) rfl ⟨rfl, below_setRow hb0 (Nat.le_refl _) _⟩

set_option maxHeartbeats 2000000 in
theorem mstab_any (p : Value) (n : Nat) (R : Nat → List Int) (w : World) (h : MP w p n R) :
    Calls Try.prog 13 #[p] w fun e w' => e = .returned (.agg (vals (metE n R))) ∧ Below w.heap.size w w' := by
  have hZ := lies_new w zeros
  have hb0 : Below w.heap.size w (w.alloc (.cells (vals zeros) 24)) := (Below.refl _ w).alloc (Nat.le_refl _) _
  have hM := h.alloc (.cells (vals zeros) 24)
  generalize hW : w.alloc (.cells (vals zeros) 24) = W at *
  rw [zeros_vals] at hW
  have hR := mrow_any p n R 0 W hM
  have hlen := h.len
  have hr0 : (rowE n R 0).length = 16 := rowE_len hlen
  clear h
  go_enter Try.func13, Try.ntmps13
  go_wp2_with fail
  refine Calls.mono hR ?_
  rintro e w1 ⟨rfl, hb1⟩
  have hZ1 := hZ.below hb1 hZ.lt
  have hM1 := hM.below hb1 (Nat.le_refl _)
  have hB1 : Below w.heap.size w w1 := hb0.trans (hb1.mono hb0.size)
  have hgt : w.heap.size < w1.heap.size := hZ1.lt
  clear hZ hM hb0 hb1 hR
  have hZ2 := (hZ1.alloc (.cells (vals zeros) 24)).rowOther (g := w1.heap.size) (vals (rowE n R 0)) (by omega)
  have hL2 := (lies_new w1 zeros).row (rowE n R 0)
  have hL1 := lies_new w1 zeros
  have hM2 : MP ((w1.alloc (.cells (vals zeros) 24)).setRow w1.heap.size (vals (rowE n R 0))) p n R := by
    have h1 := hM1.below (w' := (w1.alloc (.cells (vals zeros) 24)).setRow w1.heap.size (vals (rowE n R 0))) (below_setRow ((Below.refl _ w1).alloc (Nat.le_refl _) _) (Nat.le_refl _) _) (Nat.le_refl _)
    exact h1
  have hB2 : Below w.heap.size w ((w1.alloc (.cells (vals zeros) 24)).setRow w1.heap.size (vals (rowE n R 0))) := below_setRow (hB1.alloc hB1.size _) hB1.size _
  have hS := msize_any p n R _ hM2
  generalize hG : w1.heap.size = G at *
  generalize hW2 : (w1.alloc (.cells (vals zeros) 24)).setRow G (vals (rowE n R 0)) = W2 at *
  rw [zeros_vals] at hW2
  clear hM1 hZ1 hB1
  go_wp2_with (refine wpList_storeR (ty := 24) (x := .tmp 3) (y := .tmp 6) (ad := ⟨G, 0, none⟩) (v := .agg (vals (rowE n R 0))) rfl rfl rfl rfl (store_run hL1 hr0 rfl) ?_)
  clear hL1
  refine Calls.mono hS ?_
  rintro e w3 ⟨rfl, hw⟩
  obtain rfl := hw.symm
  clear hw hS
  go_wp2_with fail
  go_loopw [9] (fun i wr => ∃ k : Nat, k ≤ n ∧ i = .int .i64 (k : Int) ∧ Lies wr G (metTo n R k) ∧ Lies wr w.heap.size zeros ∧ MP wr p n R ∧ Below w.heap.size w wr) (fun i _ => n - (intOf i).toNat)
  case atStart => exact ⟨0, Nat.zero_le _, rfl, hL2, hZ2, hM2, hB2⟩
  case round =>
    clear hL2 hZ2 hM2 hB2 hW2 hW
    obtain ⟨k, hk, rfl, hL, hZ, hM, hB⟩ := hrel
    by_cases hkn : k < n
    · obtain ⟨g, rfl, hm⟩ := hM.mat (by omega)
      have hk16 : k < 16 := by have := hm.le; omega
      have hmd := hm.drew
      have hA16 := metTo_len (n := n) hlen k
      have hR16 := hlen k
      have hne : g ≠ G := by
        rintro rfl
        have h1 := hm.num
        have h2 := hm.grid.cell (r := 15) (k := 15) (by omega) (by omega)
        rw [cell_of_row wr g _ _ _ _ hL] at h2
        have : (vals (metTo n R k))[1 + 15 * 16 + 15]? = none := Array.getElem?_eq_none (by rw [vals_size, hA16]; omega)
        rw [this] at h2
        cases h2
      have Hn : Hid (metTo n R (k + 1) = each min (metTo n R k) (R k)) := rfl
      generalize hA : metTo n R k = A at *
      go_wp2_with fail
      refine wp_region_noPanic ?_
      refine wp_region_held_drew (S := fun W' : World => Mat W' g n R) (by kernel_rfl) hmd (fun hHeld => ?_)
      refine wpAnyH_take (i := 1) (oi := { dst := some 13, op := _, type := _, pos := _, after := _, guard := _ }) (v := .pointer (some ⟨g, 0, none⟩)) rfl (by kernel_rfl) (by kernel_rfl) (by kernel_rfl) (fun _ _ _ h => h) (Or.inl ⟨by rfl, ?_⟩) (by assumption) ?_
      · intro w9 hSw
        exact y_move rfl rfl
      simp only [Act.put, List.setIfInBounds_toArray, List.set_cons_zero, List.set_cons_succ]
      refine wpAnyH_take (i := 2) (oi := { dst := some 14, op := _, type := _, pos := _, after := _, guard := _ }) (v := .int .i64 (k : Int)) rfl (by kernel_rfl) (by kernel_rfl) (by kernel_rfl) (fun _ _ _ h => h) (Or.inl ⟨by rfl, ?_⟩) (by assumption) ?_
      · intro w9 hSw
        exact y_move rfl rfl
      simp only [Act.put, List.setIfInBounds_toArray, List.set_cons_zero, List.set_cons_succ]
      refine wpAnyH_take (i := 3) (oi := { dst := some 15, op := _, type := _, pos := _, after := _, guard := _ }) (v := .pointer (some ⟨g, 0, none⟩)) rfl (by kernel_rfl) (by kernel_rfl) (by kernel_rfl) (fun _ _ _ h => h) (Or.inl ⟨by rfl, ?_⟩) (by assumption) ?_
      · intro w9 hSw
        exact y_nil rfl rfl
      simp only [Act.put, List.setIfInBounds_toArray, List.set_cons_zero, List.set_cons_succ]
      refine wpAnyH_take (i := 4) (oi := { dst := some 16, op := _, type := _, pos := _, after := _, guard := _ }) (v := .pointer (some ⟨g, 1, none⟩)) rfl (by kernel_rfl) (by kernel_rfl) (by kernel_rfl) (fun _ _ _ h => h) (Or.inl ⟨by rfl, ?_⟩) (by assumption) ?_
      · intro w9 hSw
        exact y_field rfl rfl (field_m1 _ _)
      simp only [Act.put, List.setIfInBounds_toArray, List.set_cons_zero, List.set_cons_succ]
      refine wpAnyH_take (i := 5) (oi := { dst := some 17, op := _, type := _, pos := _, after := _, guard := _ }) (v := .pointer (some ⟨g, 1 + k * 16, none⟩)) rfl (by kernel_rfl) (by kernel_rfl) (by kernel_rfl) (fun _ _ _ h => h) (Or.inl ⟨by rfl, ?_⟩) (by assumption) ?_
      · intro w9 hSw
        exact y_index rfl rfl rfl (run_indexAt_arr _ _ _ k hk16)
      simp only [Act.put, List.setIfInBounds_toArray, List.set_cons_zero, List.set_cons_succ]
      refine wpAnyH_take (i := 6) (oi := { dst := some 18, op := _, type := _, pos := _, after := _, guard := _ }) (v := .agg (vals (R k))) rfl (by kernel_rfl) (by kernel_rfl) (by kernel_rfl) (fun _ _ _ h => h) (Or.inl ⟨by rfl, ?_⟩) (by assumption) ?_
      · intro w9 hSw
        exact y_load rfl rfl (grid_load hSw.grid hk16)
      simp only [Act.put, List.setIfInBounds_toArray, List.set_cons_zero, List.set_cons_succ]
      clear hHeld
      refine wpAnyH_ready (rs := [0]) (by kernel_rfl) (by simp) ?_
      refine AllReadyH.cons (o := { dst := some 12, op := _, type := _, pos := _, after := _, guard := _ }) rfl (fun K hK => ?_) AllReadyH.nil
      rw [if_pos (by rfl)]
      refine y_ldw (ty := 24) (x := .tmp 3) (ad := ⟨G, 0, none⟩) (v := .agg (vals (A))) rfl rfl (load_run hL.drew hA16) ?_
      refine hK.out _ _ hmd (fun hHeld => ?_)
      clear hK K
      simp only [Act.put, List.setIfInBounds_toArray, List.set_cons_zero, List.set_cons_succ]
      clear hHeld
      refine wpAnyH_ready (rs := [7]) (by kernel_rfl) (by simp) ?_
      refine AllReadyH.cons (o := { dst := some 19, op := _, type := _, pos := _, after := _, guard := _ }) rfl (fun K hK => ?_) AllReadyH.nil
      rw [if_pos (by rfl)]
      refine y_call (f := 26) (xs := [.tmp 12, .tmp 18]) (vs := [.agg (vals (A)), .agg (vals (R k))]) rfl rfl (enters_meet _ _) (meet_any A (R k) hA16 hR16 wr.drew) ?_
      rintro ex w4 ⟨rfl, hb4⟩
      refine ⟨_, rfl, ?_⟩
      have hM4 := hmd.below hb4 hmd.lt
      have hL4 := hL.drew.below hb4 hL.drew.lt
      have hZ4 := hZ.drew.below hb4 hZ.drew.lt
      refine hK.out _ _ hM4 (fun hHeld => ?_)
      clear hK K
      simp only [Act.put, List.setIfInBounds_toArray, List.set_cons_zero, List.set_cons_succ]
      clear hHeld
      have hM5 : Mat (w4.setRow G (vals (each min A (R k)))) g n R := hM4.same (setRow_other w4 G g _ hne)
      refine wpAnyH_ready (rs := [8]) (by kernel_rfl) (by simp) ?_
      refine AllReadyH.cons (o := { dst := none, op := _, type := _, pos := _, after := _, guard := _ }) rfl (fun K hK => ?_) AllReadyH.nil
      rw [if_pos (by rfl)]
      refine y_store (ty := 24) (x := .tmp 3) (y := .tmp 19) (ad := ⟨G, 0, none⟩) (v := .agg (vals (each min A (R k)))) (w' := w4.setRow G (vals (each min A (R k)))) rfl rfl rfl (store_run hL4 (each_length min A (R k) hA16 hR16) hA16) ?_
      refine hK.out _ _ hM5 (fun hHeld => ?_)
      clear hK K
      simp only [Act.put]
      refine wpAnyH_done (by kernel_rfl) ?_ _
      refine NoPanic.normal ?_
      clear hHeld
      have hL5 : Hid (Lies (w4.setRow G (vals (each min A (R k)))) G (each min A (R k))) := hL4.row _
      have hZ5 : Hid (Lies (w4.setRow G (vals (each min A (R k)))) w.heap.size zeros) := hZ4.rowOther _ (by omega)
      have hB5 : Hid (Below w.heap.size w (w4.setRow G (vals (each min A (R k))))) := below_setRow (hB.drew.trans (hb4.mono hB.size)) (by omega) _
      have HM5 : Hid (Mat (w4.setRow G (vals (each min A (R k)))) g n R) := hM5
      clear hL hZ hM hB hm hmd hM4 hL4 hZ4 hM5 hb4
      go_wp2
      go_roundw
      case rel => exact ⟨k + 1, by omega, by go_num, by rw [Hn.out]; exact hL5.out, hZ5.out, HM5.out.mp, hB5.out⟩
      case measure => simp [intOf]; omega
    · obtain rfl : k = n := by omega
      have hA16 := metTo_len (n := k) hlen k
      have HB : Hid (Below w.heap.size w wr) := hB
      clear hM hB
      go_wp2_with (first
        | (refine wpList_loadR (ty := 24) (x := .tmp 3) (ad := ⟨G, 0, none⟩) (v := .agg (vals (metTo k R k))) rfl rfl rfl (load_run hL hA16) ?_)
        | (refine wpList_storeR (ty := 24) (x := .tmp 2) (y := .tmp 21) (ad := ⟨w.heap.size, 0, none⟩) (v := .agg (vals (metTo k R k))) rfl rfl rfl rfl (store_run hZ hA16 rfl) ?_))
      exact ret_vec rfl rfl rfl (hZ.row _) hA16 ⟨rfl, below_setRow HB.out (Nat.le_refl _) _⟩
end Go.Proofs.Ytcndgbepdgjkeaa
