/-
  MatrixPlays, the walk.
-/
import Derived.Test.YtcndgbepdgjkeaaMrf
namespace Go.Proofs.Ytcndgbepdgjkeaa
set_option maxRecDepth 100000
open Go.RowKit

theorem eqGuard_vv (w : World) {op : BinOp} {x y : Operand} (a b : List Int) : (eqGuard op 24 x y (.agg (vals a)) (.agg (vals b))).run Try.prog w = .ok () w := by
  have := plain_vec
  go_simp
theorem neq_int_same (w : World) (a : Int) : (binOp .neq 3 (.int .i64 a) (.int .i64 a)).run Try.prog w = .ok (.bool false) w := by
  simp [binOp, Op.intCmp]
set_option maxHeartbeats 1000000 in
theorem lplays_far (x : Int) (a : Option Addr) (len cap : Nat) (s : List Int) (w : World) (hl : 300 < len) : Calls Try.prog 3 #[.int .i64 x, .slice a len cap, .agg (vals s)] w fun e w' => e = .returned (.bool true) ∧ Below w.heap.size w w' := by
  have hS0 := lies_new w s
  have hb0 : Below w.heap.size w (w.alloc (.cells (vals s) 24)) := (Below.refl _ w).alloc (Nat.le_refl _) _
  have hl0 : w.heap.size < (w.alloc (.cells (vals s) 24)).heap.size := by simp
  generalize hW0 : w.alloc (.cells (vals s) 24) = W0 at *
  have hA := mawake_any W0
  go_enter Try.func3, Try.ntmps3
  go_wp2_with fail
  refine Calls.mono hA ?_
  rintro e w1 ⟨rfl, hb1⟩
  have hB1 : Below w.heap.size w w1 := hb0.trans (hb1.mono hb0.size)
  have hA2 := mawake_any w1
  have HB1 : Hid (Below w.heap.size w w1) := hB1
  clear hS0 hb0 hb1 hA hl0 hB1
  go_wp2_with fail
  refine Calls.mono hA2 ?_
  rintro e w3 ⟨rfl, hb3⟩
  have HB3 : Hid (Below w.heap.size w w3) := HB1.out.trans (hb3.mono HB1.out.size)
  clear hb3 hA2
  go_wp2
  go_ret
  exact ⟨rfl, HB3.out⟩
set_option maxHeartbeats 8000000 in
theorem lplays_go (x : Int) (a : Option Addr) (len cap : Nat) (s : List Int) (hs : s.length = 16) (w : World) (O : Nat → Int × List Int) (hl : ¬ 300 < len) (hO : Mops w a len O) : Calls Try.prog 3 #[.int .i64 x, .slice a len cap, .agg (vals s)] w fun e w' => e = .returned (.bool true) ∧ Below w.heap.size w w' := by
  have hS0 := lies_new w s
  have hb0 : Below w.heap.size w (w.alloc (.cells (vals s) 24)) := (Below.refl _ w).alloc (Nat.le_refl _) _
  have hl0 : w.heap.size < (w.alloc (.cells (vals s) 24)).heap.size := by simp
  generalize hW0 : w.alloc (.cells (vals s) 24) = W0 at *
  have hA := mawake_any W0
  have hd : decide ((300 : Int) < (len : Int)) = false := decide_eq_false (by omega)
  have hO0 := hO.bound
  go_enter Try.func3, Try.ntmps3
  go_wp2_with fail
  refine Calls.mono hA ?_
  rintro e w1 ⟨rfl, hb1⟩
  have hB1 : Below w.heap.size w w1 := hb0.trans (hb1.mono hb0.size)
  have hS1 := hS0.below hb1 hl0
  have hN := mnew_any x w1
  have hM2 := mat_new w1 (clampN x) (clampN_le x)
  have hB3 : Below w.heap.size w (w1.alloc (.cells (mcells (clampN x)) 48)) := hB1.alloc hB1.size _
  have hS3 := hS1.alloc (.cells (mcells (clampN x)) 48)
  have hFG : w.heap.size < w1.heap.size := hS1.lt
  have hO3 := hO0.below hB3
  have hGl : w1.heap.size < (w1.alloc (.cells (mcells (clampN x)) 48)).heap.size := hM2.lt
  generalize hG : w1.heap.size = G at *
  generalize hW3 : w1.alloc (.cells (mcells (clampN x)) 48) = W3 at *
  have hn16 := clampN_le x
  have hRN := rmnew_any x W3
  generalize clampN x = n at *
  clear hb1 hB1 hS1 hO0 hO hS0 hb0 hA hl0 hW0
  go_wp2_with fail
  refine Calls.mono hN ?_
  rintro e w3 ⟨rfl, hw⟩
  obtain rfl := hw.symm
  clear hw hN hW3 hG
  go_wp2_with fail
  refine Calls.mono hRN ?_
  rintro e w4 ⟨g, q, rfl, hRM4, hg4, hq4, hb4⟩
  have hGg : G < g := by omega
  have hGq : G < q := by omega
  have hM4 := hM2.below hb4 hM2.lt
  have hS4 := hS3.below hb4 hS3.lt
  have hB4 := hB3.trans (hb4.mono hB3.size)
  have hO4 := hO3.below (hb4.mono hB3.size)
  clear hM2 hS3 hB3 hO3 hb4 hRN hg4 hq4 hGl
  go_wp2_with fail
  go_loopw [28] (fun i wr => ∃ (k : Nat) (R : Nat → List Int), k ≤ len ∧ i = .int .i64 (k : Int) ∧ Mat wr G n R ∧ RMat wr g q n R ∧ Lies wr w.heap.size s ∧ MopsB wr a len w.heap.size O ∧ Below w.heap.size w wr) (fun i _ => len - (intOf i).toNat)
  case atStart => exact ⟨0, zeroR, Nat.zero_le _, rfl, hM4, hRM4, hS4, hO4, hB4⟩
  case round =>
    clear hM4 hRM4 hS4 hO4 hB4
    obtain ⟨k, R, hk, rfl, hM, hRM, hS, hOs, hB⟩ := hrel
    by_cases hkl : k < len
    · obtain ⟨b, off, rfl, hbF, hO⟩ := hOs.at hkl
      have hv16 := hO.len
      have hbl : b < wr.heap.size := Nat.lt_of_lt_of_le hbF hB.size
      have hOd : IsMop wr.drew b (off + k * 17) (O k) := hO.same rfl
      have hSd := hS.drew
      go_wp2_with fail
      refine wp_region_noPanic ?_
      refine wp_region_held_drew (S := fun W' : World => IsMop W' b (off + k * 17) (O k) ∧ Lies W' w.heap.size s) (by kernel_rfl) ⟨hOd, hSd⟩ (fun hHeld => ?_)
      refine wpAnyH_take (i := 0) (oi := { dst := some 31, op := _, type := _, pos := _, after := _, guard := _ }) (v := .pointer (some ⟨G, 0, none⟩)) rfl (by kernel_rfl) (by kernel_rfl) (by kernel_rfl) (fun _ _ _ h => h) (Or.inl ⟨by rfl, ?_⟩) (by assumption) ?_
      · intro w9 hSw
        exact y_move rfl rfl
      simp only [Act.put, List.setIfInBounds_toArray, List.set_cons_zero, List.set_cons_succ]
      refine wpAnyH_take (i := 1) (oi := { dst := some 32, op := _, type := _, pos := _, after := _, guard := _ }) (v := .slice (some ⟨b, off, none⟩) len cap) rfl (by kernel_rfl) (by kernel_rfl) (by kernel_rfl) (fun _ _ _ h => h) (Or.inl ⟨by rfl, ?_⟩) (by assumption) ?_
      · intro w9 hSw
        exact y_move rfl rfl
      simp only [Act.put, List.setIfInBounds_toArray, List.set_cons_zero, List.set_cons_succ]
      refine wpAnyH_take (i := 2) (oi := { dst := some 33, op := _, type := _, pos := _, after := _, guard := _ }) (v := .int .i64 (k : Int)) rfl (by kernel_rfl) (by kernel_rfl) (by kernel_rfl) (fun _ _ _ h => h) (Or.inl ⟨by rfl, ?_⟩) (by assumption) ?_
      · intro w9 hSw
        exact y_move rfl rfl
      simp only [Act.put, List.setIfInBounds_toArray, List.set_cons_zero, List.set_cons_succ]
      refine wpAnyH_take (i := 3) (oi := { dst := some 34, op := _, type := _, pos := _, after := _, guard := _ }) (v := .pointer (some ⟨b, off + k * 17, none⟩)) rfl (by kernel_rfl) (by kernel_rfl) (by kernel_rfl) (fun _ _ _ h => h) (Or.inl ⟨by rfl, ?_⟩) (by assumption) ?_
      · intro w9 hSw
        exact y_index rfl rfl rfl (run_indexAt_mops _ _ _ _ _ _ hkl)
      simp only [Act.put, List.setIfInBounds_toArray, List.set_cons_zero, List.set_cons_succ]
      refine wpAnyH_take (i := 4) (oi := { dst := some 35, op := _, type := _, pos := _, after := _, guard := _ }) (v := .pointer (some ⟨b, off + k * 17, none⟩)) rfl (by kernel_rfl) (by kernel_rfl) (by kernel_rfl) (fun _ _ _ h => h) (Or.inl ⟨by rfl, ?_⟩) (by assumption) ?_
      · intro w9 hSw
        exact y_field rfl rfl (field_o0 _ _ _)
      simp only [Act.put, List.setIfInBounds_toArray, List.set_cons_zero, List.set_cons_succ]
      refine wpAnyH_take (i := 5) (oi := { dst := some 36, op := _, type := _, pos := _, after := _, guard := _ }) (v := .int .i64 (O k).1) rfl (by kernel_rfl) (by kernel_rfl) (by kernel_rfl) (fun _ _ _ h => h) (Or.inl ⟨by rfl, ?_⟩) (by assumption) ?_
      · intro w9 hSw
        exact y_load rfl rfl (load_int_run hSw.1.num)
      simp only [Act.put, List.setIfInBounds_toArray, List.set_cons_zero, List.set_cons_succ]
      refine wpAnyH_take (i := 6) (oi := { dst := some 37, op := _, type := _, pos := _, after := _, guard := _ }) (v := .slice (some ⟨b, off, none⟩) len cap) rfl (by kernel_rfl) (by kernel_rfl) (by kernel_rfl) (fun _ _ _ h => h) (Or.inl ⟨by rfl, ?_⟩) (by assumption) ?_
      · intro w9 hSw
        exact y_move rfl rfl
      simp only [Act.put, List.setIfInBounds_toArray, List.set_cons_zero, List.set_cons_succ]
      refine wpAnyH_take (i := 7) (oi := { dst := some 38, op := _, type := _, pos := _, after := _, guard := _ }) (v := .int .i64 (k : Int)) rfl (by kernel_rfl) (by kernel_rfl) (by kernel_rfl) (fun _ _ _ h => h) (Or.inl ⟨by rfl, ?_⟩) (by assumption) ?_
      · intro w9 hSw
        exact y_move rfl rfl
      simp only [Act.put, List.setIfInBounds_toArray, List.set_cons_zero, List.set_cons_succ]
      refine wpAnyH_take (i := 8) (oi := { dst := some 39, op := _, type := _, pos := _, after := _, guard := _ }) (v := .pointer (some ⟨b, off + k * 17, none⟩)) rfl (by kernel_rfl) (by kernel_rfl) (by kernel_rfl) (fun _ _ _ h => h) (Or.inl ⟨by rfl, ?_⟩) (by assumption) ?_
      · intro w9 hSw
        exact y_index rfl rfl rfl (run_indexAt_mops _ _ _ _ _ _ hkl)
      simp only [Act.put, List.setIfInBounds_toArray, List.set_cons_zero, List.set_cons_succ]
      refine wpAnyH_take (i := 9) (oi := { dst := some 40, op := _, type := _, pos := _, after := _, guard := _ }) (v := .pointer (some ⟨b, off + k * 17 + 1, none⟩)) rfl (by kernel_rfl) (by kernel_rfl) (by kernel_rfl) (fun _ _ _ h => h) (Or.inl ⟨by rfl, ?_⟩) (by assumption) ?_
      · intro w9 hSw
        exact y_field rfl rfl (field_o1 _ _ _)
      simp only [Act.put, List.setIfInBounds_toArray, List.set_cons_zero, List.set_cons_succ]
      refine wpAnyH_take (i := 10) (oi := { dst := some 41, op := _, type := _, pos := _, after := _, guard := _ }) (v := .agg (vals ((O k).2))) rfl (by kernel_rfl) (by kernel_rfl) (by kernel_rfl) (fun _ _ _ h => h) (Or.inl ⟨by rfl, ?_⟩) (by assumption) ?_
      · intro w9 hSw
        exact y_load rfl rfl hSw.1.load
      simp only [Act.put, List.setIfInBounds_toArray, List.set_cons_zero, List.set_cons_succ]
      refine wpAnyH_take (i := 12) (oi := { dst := some 43, op := _, type := _, pos := _, after := _, guard := _ }) (v := .pointer (some ⟨g, 0, none⟩)) rfl (by kernel_rfl) (by kernel_rfl) (by kernel_rfl) (fun _ _ _ h => h) (Or.inl ⟨by rfl, ?_⟩) (by assumption) ?_
      · intro w9 hSw
        exact y_move rfl rfl
      simp only [Act.put, List.setIfInBounds_toArray, List.set_cons_zero, List.set_cons_succ]
      refine wpAnyH_take (i := 13) (oi := { dst := some 44, op := _, type := _, pos := _, after := _, guard := _ }) (v := .slice (some ⟨b, off, none⟩) len cap) rfl (by kernel_rfl) (by kernel_rfl) (by kernel_rfl) (fun _ _ _ h => h) (Or.inl ⟨by rfl, ?_⟩) (by assumption) ?_
      · intro w9 hSw
        exact y_move rfl rfl
      simp only [Act.put, List.setIfInBounds_toArray, List.set_cons_zero, List.set_cons_succ]
      refine wpAnyH_take (i := 14) (oi := { dst := some 45, op := _, type := _, pos := _, after := _, guard := _ }) (v := .int .i64 (k : Int)) rfl (by kernel_rfl) (by kernel_rfl) (by kernel_rfl) (fun _ _ _ h => h) (Or.inl ⟨by rfl, ?_⟩) (by assumption) ?_
      · intro w9 hSw
        exact y_move rfl rfl
      simp only [Act.put, List.setIfInBounds_toArray, List.set_cons_zero, List.set_cons_succ]
      refine wpAnyH_take (i := 15) (oi := { dst := some 46, op := _, type := _, pos := _, after := _, guard := _ }) (v := .pointer (some ⟨b, off + k * 17, none⟩)) rfl (by kernel_rfl) (by kernel_rfl) (by kernel_rfl) (fun _ _ _ h => h) (Or.inl ⟨by rfl, ?_⟩) (by assumption) ?_
      · intro w9 hSw
        exact y_index rfl rfl rfl (run_indexAt_mops _ _ _ _ _ _ hkl)
      simp only [Act.put, List.setIfInBounds_toArray, List.set_cons_zero, List.set_cons_succ]
      refine wpAnyH_take (i := 16) (oi := { dst := some 47, op := _, type := _, pos := _, after := _, guard := _ }) (v := .pointer (some ⟨b, off + k * 17, none⟩)) rfl (by kernel_rfl) (by kernel_rfl) (by kernel_rfl) (fun _ _ _ h => h) (Or.inl ⟨by rfl, ?_⟩) (by assumption) ?_
      · intro w9 hSw
        exact y_field rfl rfl (field_o0 _ _ _)
      simp only [Act.put, List.setIfInBounds_toArray, List.set_cons_zero, List.set_cons_succ]
      refine wpAnyH_take (i := 17) (oi := { dst := some 48, op := _, type := _, pos := _, after := _, guard := _ }) (v := .int .i64 (O k).1) rfl (by kernel_rfl) (by kernel_rfl) (by kernel_rfl) (fun _ _ _ h => h) (Or.inl ⟨by rfl, ?_⟩) (by assumption) ?_
      · intro w9 hSw
        exact y_load rfl rfl (load_int_run hSw.1.num)
      simp only [Act.put, List.setIfInBounds_toArray, List.set_cons_zero, List.set_cons_succ]
      refine wpAnyH_take (i := 18) (oi := { dst := some 49, op := _, type := _, pos := _, after := _, guard := _ }) (v := .slice (some ⟨b, off, none⟩) len cap) rfl (by kernel_rfl) (by kernel_rfl) (by kernel_rfl) (fun _ _ _ h => h) (Or.inl ⟨by rfl, ?_⟩) (by assumption) ?_
      · intro w9 hSw
        exact y_move rfl rfl
      simp only [Act.put, List.setIfInBounds_toArray, List.set_cons_zero, List.set_cons_succ]
      refine wpAnyH_take (i := 19) (oi := { dst := some 50, op := _, type := _, pos := _, after := _, guard := _ }) (v := .int .i64 (k : Int)) rfl (by kernel_rfl) (by kernel_rfl) (by kernel_rfl) (fun _ _ _ h => h) (Or.inl ⟨by rfl, ?_⟩) (by assumption) ?_
      · intro w9 hSw
        exact y_move rfl rfl
      simp only [Act.put, List.setIfInBounds_toArray, List.set_cons_zero, List.set_cons_succ]
      refine wpAnyH_take (i := 20) (oi := { dst := some 51, op := _, type := _, pos := _, after := _, guard := _ }) (v := .pointer (some ⟨b, off + k * 17, none⟩)) rfl (by kernel_rfl) (by kernel_rfl) (by kernel_rfl) (fun _ _ _ h => h) (Or.inl ⟨by rfl, ?_⟩) (by assumption) ?_
      · intro w9 hSw
        exact y_index rfl rfl rfl (run_indexAt_mops _ _ _ _ _ _ hkl)
      simp only [Act.put, List.setIfInBounds_toArray, List.set_cons_zero, List.set_cons_succ]
      refine wpAnyH_take (i := 21) (oi := { dst := some 52, op := _, type := _, pos := _, after := _, guard := _ }) (v := .pointer (some ⟨b, off + k * 17 + 1, none⟩)) rfl (by kernel_rfl) (by kernel_rfl) (by kernel_rfl) (fun _ _ _ h => h) (Or.inl ⟨by rfl, ?_⟩) (by assumption) ?_
      · intro w9 hSw
        exact y_field rfl rfl (field_o1 _ _ _)
      simp only [Act.put, List.setIfInBounds_toArray, List.set_cons_zero, List.set_cons_succ]
      refine wpAnyH_take (i := 22) (oi := { dst := some 53, op := _, type := _, pos := _, after := _, guard := _ }) (v := .agg (vals ((O k).2))) rfl (by kernel_rfl) (by kernel_rfl) (by kernel_rfl) (fun _ _ _ h => h) (Or.inl ⟨by rfl, ?_⟩) (by assumption) ?_
      · intro w9 hSw
        exact y_load rfl rfl hSw.1.load
      simp only [Act.put, List.setIfInBounds_toArray, List.set_cons_zero, List.set_cons_succ]
      clear hHeld
      refine wpAnyH_ready (rs := [11]) (by kernel_rfl) (by simp) ?_
      refine AllReadyH.cons (o := { dst := some 42, op := _, type := _, pos := _, after := _, guard := _ }) rfl (fun K hK => ?_) AllReadyH.nil
      rw [if_pos (by rfl)]
      refine y_call (f := 11) (xs := [.tmp 31, .tmp 36, .tmp 41]) (vs := [.pointer (some ⟨G, 0, none⟩), .int .i64 (O k).1, .agg (vals ((O k).2))]) rfl rfl (enters_msee _ _) (msee_mat G n R _ _ hv16 wr.drew hM.drew) ?_
      rintro ex w4 ⟨rfl, hM4, hC4⟩
      refine ⟨_, rfl, ?_⟩
      have hO4 : IsMop w4 b (off + k * 17) (O k) := hOd.same (hC4.block b hbl (by omega))
      have hS4 : Lies w4 w.heap.size s := hSd.chg hC4 (by omega)
      have hRM4 : RMat w4 g q n R := hRM.drew.chg hC4 (by omega) (by omega)
      refine hK.out _ _ ⟨hO4, hS4⟩ (fun hHeld => ?_)
      clear hK K
      simp only [Act.put, List.setIfInBounds_toArray, List.set_cons_zero, List.set_cons_succ]
      clear hHeld
      refine wpAnyH_ready (rs := [23]) (by kernel_rfl) (by simp) ?_
      refine AllReadyH.cons (o := { dst := some 54, op := _, type := _, pos := _, after := _, guard := _ }) rfl (fun K hK => ?_) AllReadyH.nil
      rw [if_pos (by rfl)]
      refine y_call (f := 12) (xs := [.tmp 43, .tmp 48, .tmp 53]) (vs := [.pointer (some ⟨g, 0, none⟩), .int .i64 (O k).1, .agg (vals ((O k).2))]) rfl rfl (enters_rmsee _ _) (rmsee_any g q n R _ _ hv16 w4 hRM4) ?_
      rintro ex w5 ⟨rfl, hRM5, hC5⟩
      refine ⟨_, rfl, ?_⟩
      have hO5 : IsMop w5 b (off + k * 17) (O k) := hO4.same (hC5.block b (Nat.lt_of_lt_of_le hbl hC4.size) (by omega))
      have hS5 : Lies w5 w.heap.size s := hS4.chg hC5 (by omega)
      have hM5 := hM4.chg hC5 (by omega)
      have hBw : Below w.heap.size wr.drew w5 := (hC4.below (by omega) hB.size).trans (hC5.below (by omega) (Nat.le_trans hB.size hC4.size))
      have h216 : ∀ z, (seeR n R (O k).1 (O k).2 z).length = 16 := seeR_len hM.grid.len hv16
      generalize seeR n R (O k).1 (O k).2 = R2 at *
      have hM216 : (metE n R2).length = 16 := metE_len h216
      have hc216 : (cutE n R2 s).length = 16 := cutE_len h216
      refine hK.out _ _ ⟨hO5, hS5⟩ (fun hHeld => ?_)
      clear hK K
      simp only [Act.put, List.setIfInBounds_toArray, List.set_cons_zero, List.set_cons_succ]
      refine wpAnyH_take (i := 24) (oi := { dst := some 55, op := _, type := _, pos := _, after := _, guard := _ }) (v := .bool false) rfl (by kernel_rfl) (by kernel_rfl) (by kernel_rfl) (fun _ _ _ h => h) (Or.inl ⟨by rfl, ?_⟩) (by assumption) ?_
      · intro w9 hSw
        exact y_bin rfl rfl rfl (eqGuard_int _) (neq_int_same _ _)
      simp only [Act.put, List.setIfInBounds_toArray, List.set_cons_zero, List.set_cons_succ]
      refine wpAnyH_take (i := 25) (oi := { dst := some 56, op := _, type := _, pos := _, after := _, guard := _ }) (v := .bool false) rfl (by kernel_rfl) (by kernel_rfl) (by kernel_rfl) (fun _ _ _ h => h) (Or.inl ⟨by rfl, ?_⟩) (by assumption) ?_
      · intro w9 hSw
        exact y_move rfl rfl
      simp only [Act.put, List.setIfInBounds_toArray, List.set_cons_zero, List.set_cons_succ]
      refine wpAnyH_take (i := 26) (oi := { dst := some 57, op := _, type := _, pos := _, after := _, guard := _ }) (v := .pointer (some ⟨G, 0, none⟩)) rfl (by kernel_rfl) (by kernel_rfl) (by kernel_rfl) (fun _ _ _ h => h) (Or.inl ⟨by rfl, ?_⟩) (by assumption) ?_
      · intro w9 hSw
        exact y_move rfl rfl
      simp only [Act.put, List.setIfInBounds_toArray, List.set_cons_zero, List.set_cons_succ]
      refine wpAnyH_take (i := 28) (oi := { dst := some 59, op := _, type := _, pos := _, after := _, guard := _ }) (v := .pointer (some ⟨g, 0, none⟩)) rfl (by kernel_rfl) (by kernel_rfl) (by kernel_rfl) (fun _ _ _ h => h) (Or.inl ⟨by rfl, ?_⟩) (by assumption) ?_
      · intro w9 hSw
        exact y_move rfl rfl
      simp only [Act.put, List.setIfInBounds_toArray, List.set_cons_zero, List.set_cons_succ]
      clear hHeld
      refine wpAnyH_ready (rs := [27]) (by kernel_rfl) (by simp) ?_
      refine AllReadyH.cons (o := { dst := some 58, op := _, type := _, pos := _, after := _, guard := _ }) rfl (fun K hK => ?_) AllReadyH.nil
      rw [if_pos (by rfl)]
      refine y_call (f := 13) (xs := [.tmp 57]) (vs := [.pointer (some ⟨G, 0, none⟩)]) rfl rfl (enters_mstab _ _) (mstab_any _ n R2 w5 hM5.mp) ?_
      rintro ex w6 ⟨rfl, hb6⟩
      refine ⟨_, rfl, ?_⟩
      have hO6 : IsMop w6 b (off + k * 17) (O k) := hO5.same (hb6.block b (by have := hBw.size; have h0 : wr.drew.heap.size = wr.heap.size := rfl; omega))
      have hS6 := hS5.below hb6 hS5.lt
      have hM6 := hM5.below hb6 hM5.lt
      have hRM6 := hRM5.below hb6 (Nat.le_refl _)
      have hB6 : Below w.heap.size wr.drew w6 := hBw.trans (hb6.mono (Nat.le_trans hB.size hBw.size))
      refine hK.out _ _ ⟨hO6, hS6⟩ (fun hHeld => ?_)
      clear hK K
      simp only [Act.put, List.setIfInBounds_toArray, List.set_cons_zero, List.set_cons_succ]
      clear hHeld
      refine wpAnyH_ready (rs := [29]) (by kernel_rfl) (by simp) ?_
      refine AllReadyH.cons (o := { dst := some 60, op := _, type := _, pos := _, after := _, guard := _ }) rfl (fun K hK => ?_) AllReadyH.nil
      rw [if_pos (by rfl)]
      refine y_call (f := 14) (xs := [.tmp 59]) (vs := [.pointer (some ⟨g, 0, none⟩)]) rfl rfl (enters_rmstab _ _) (rmstab_any g q n R2 w6 hRM6 hn16) ?_
      rintro ex w7 ⟨rfl, hb7⟩
      refine ⟨_, rfl, ?_⟩
      have hO7 : IsMop w7 b (off + k * 17) (O k) := hO6.same (hb7.block b (by have := hB6.size; have h0 : wr.drew.heap.size = wr.heap.size := rfl; omega))
      have hS7 := hS6.below hb7 hS6.lt
      have hM7 := hM6.below hb7 hM6.lt
      have hRM7 := hRM6.below hb7 (Nat.le_refl _)
      have hB7 : Below w.heap.size wr.drew w7 := hB6.trans (hb7.mono (Nat.le_trans hB.size hB6.size))
      refine hK.out _ _ ⟨hO7, hS7⟩ (fun hHeld => ?_)
      clear hK K
      simp only [Act.put, List.setIfInBounds_toArray, List.set_cons_zero, List.set_cons_succ]
      refine wpAnyH_take (i := 30) (oi := { dst := some 61, op := _, type := _, pos := _, after := _, guard := _ }) (v := .bool false) rfl (by kernel_rfl) (by kernel_rfl) (by kernel_rfl) (fun _ _ _ h => h) (Or.inl ⟨by rfl, ?_⟩) (by assumption) ?_
      · intro w9 hSw
        exact y_bin rfl rfl rfl (eqGuard_vv _ _ _) (run_neq_same _ rfl hM216 hM216)
      simp only [Act.put, List.setIfInBounds_toArray, List.set_cons_zero, List.set_cons_succ]
      refine wpAnyH_take (i := 31) (oi := { dst := some 62, op := _, type := _, pos := _, after := _, guard := _ }) (v := .bool false) rfl (by kernel_rfl) (by kernel_rfl) (by kernel_rfl) (fun _ _ _ h => h) (Or.inl ⟨by rfl, ?_⟩) (by assumption) ?_
      · intro w9 hSw
        exact y_pick (b := false) rfl rfl rfl
      simp only [Act.put, List.setIfInBounds_toArray, List.set_cons_zero, List.set_cons_succ]
      refine wpAnyH_take (i := 32) (oi := { dst := some 63, op := _, type := _, pos := _, after := _, guard := _ }) (v := .bool false) rfl (by kernel_rfl) (by kernel_rfl) (by kernel_rfl) (fun _ _ _ h => h) (Or.inl ⟨by rfl, ?_⟩) (by assumption) ?_
      · intro w9 hSw
        exact y_move rfl rfl
      simp only [Act.put, List.setIfInBounds_toArray, List.set_cons_zero, List.set_cons_succ]
      refine wpAnyH_take (i := 33) (oi := { dst := some 64, op := _, type := _, pos := _, after := _, guard := _ }) (v := .pointer (some ⟨G, 0, none⟩)) rfl (by kernel_rfl) (by kernel_rfl) (by kernel_rfl) (fun _ _ _ h => h) (Or.inl ⟨by rfl, ?_⟩) (by assumption) ?_
      · intro w9 hSw
        exact y_move rfl rfl
      simp only [Act.put, List.setIfInBounds_toArray, List.set_cons_zero, List.set_cons_succ]
      refine wpAnyH_take (i := 34) (oi := { dst := some 65, op := _, type := _, pos := _, after := _, guard := _ }) (v := .agg (vals (s))) rfl (by kernel_rfl) (by kernel_rfl) (by kernel_rfl) (fun _ _ _ h => h) (Or.inl ⟨by rfl, ?_⟩) (by assumption) ?_
      · intro w9 hSw
        exact y_load rfl rfl (load_run hSw.2 hs)
      simp only [Act.put, List.setIfInBounds_toArray, List.set_cons_zero, List.set_cons_succ]
      refine wpAnyH_take (i := 36) (oi := { dst := some 67, op := _, type := _, pos := _, after := _, guard := _ }) (v := .pointer (some ⟨g, 0, none⟩)) rfl (by kernel_rfl) (by kernel_rfl) (by kernel_rfl) (fun _ _ _ h => h) (Or.inl ⟨by rfl, ?_⟩) (by assumption) ?_
      · intro w9 hSw
        exact y_move rfl rfl
      simp only [Act.put, List.setIfInBounds_toArray, List.set_cons_zero, List.set_cons_succ]
      refine wpAnyH_take (i := 37) (oi := { dst := some 68, op := _, type := _, pos := _, after := _, guard := _ }) (v := .agg (vals (s))) rfl (by kernel_rfl) (by kernel_rfl) (by kernel_rfl) (fun _ _ _ h => h) (Or.inl ⟨by rfl, ?_⟩) (by assumption) ?_
      · intro w9 hSw
        exact y_load rfl rfl (load_run hSw.2 hs)
      simp only [Act.put, List.setIfInBounds_toArray, List.set_cons_zero, List.set_cons_succ]
      clear hHeld
      refine wpAnyH_ready (rs := [35]) (by kernel_rfl) (by simp) ?_
      refine AllReadyH.cons (o := { dst := some 66, op := _, type := _, pos := _, after := _, guard := _ }) rfl (fun K hK => ?_) AllReadyH.nil
      rw [if_pos (by rfl)]
      refine y_call (f := 15) (xs := [.tmp 64, .tmp 65]) (vs := [.pointer (some ⟨G, 0, none⟩), .agg (vals (s))]) rfl rfl (enters_mcut _ _) (mcut_any _ n R2 s hs w7 hM7.mp) ?_
      rintro ex w8 ⟨rfl, hb8⟩
      refine ⟨_, rfl, ?_⟩
      have hO8 : IsMop w8 b (off + k * 17) (O k) := hO7.same (hb8.block b (by have := hB7.size; have h0 : wr.drew.heap.size = wr.heap.size := rfl; omega))
      have hS8 := hS7.below hb8 hS7.lt
      have hM8 := hM7.below hb8 hM7.lt
      have hRM8 := hRM7.below hb8 (Nat.le_refl _)
      have hB8 : Below w.heap.size wr.drew w8 := hB7.trans (hb8.mono (Nat.le_trans hB.size hB7.size))
      refine hK.out _ _ ⟨hO8, hS8⟩ (fun hHeld => ?_)
      clear hK K
      simp only [Act.put, List.setIfInBounds_toArray, List.set_cons_zero, List.set_cons_succ]
      clear hHeld
      refine wpAnyH_ready (rs := [38]) (by kernel_rfl) (by simp) ?_
      refine AllReadyH.cons (o := { dst := some 69, op := _, type := _, pos := _, after := _, guard := _ }) rfl (fun K hK => ?_) AllReadyH.nil
      rw [if_pos (by rfl)]
      refine y_call (f := 16) (xs := [.tmp 67, .tmp 68]) (vs := [.pointer (some ⟨g, 0, none⟩), .agg (vals (s))]) rfl rfl (enters_rmcut _ _) (rmcut_any g q n R2 s hs w8 hRM8 hn16) ?_
      rintro ex w9 ⟨rfl, hb9⟩
      refine ⟨_, rfl, ?_⟩
      have hO9 : IsMop w9 b (off + k * 17) (O k) := hO8.same (hb9.block b (by have := hB8.size; have h0 : wr.drew.heap.size = wr.heap.size := rfl; omega))
      have hS9 := hS8.below hb9 hS8.lt
      have hM9 := hM8.below hb9 hM8.lt
      have hRM9 := hRM8.below hb9 (Nat.le_refl _)
      have hB9 : Below w.heap.size wr.drew w9 := hB8.trans (hb9.mono (Nat.le_trans hB.size hB8.size))
      refine hK.out _ _ ⟨hO9, hS9⟩ (fun hHeld => ?_)
      clear hK K
      simp only [Act.put, List.setIfInBounds_toArray, List.set_cons_zero, List.set_cons_succ]
      refine wpAnyH_take (i := 39) (oi := { dst := some 70, op := _, type := _, pos := _, after := _, guard := _ }) (v := .bool false) rfl (by kernel_rfl) (by kernel_rfl) (by kernel_rfl) (fun _ _ _ h => h) (Or.inl ⟨by rfl, ?_⟩) (by assumption) ?_
      · intro w9 hSw
        exact y_bin rfl rfl rfl (eqGuard_vv _ _ _) (run_neq_same _ rfl hc216 hc216)
      simp only [Act.put, List.setIfInBounds_toArray, List.set_cons_zero, List.set_cons_succ]
      refine wpAnyH_take (i := 40) (oi := { dst := some 71, op := _, type := _, pos := _, after := _, guard := _ }) (v := .bool false) rfl (by kernel_rfl) (by kernel_rfl) (by kernel_rfl) (fun _ _ _ h => h) (Or.inl ⟨by rfl, ?_⟩) (by assumption) ?_
      · intro w9 hSw
        exact y_pick (b := false) rfl rfl rfl
      simp only [Act.put, List.setIfInBounds_toArray, List.set_cons_zero, List.set_cons_succ]
      refine wpAnyH_done (by kernel_rfl) ?_ _
      refine NoPanic.normal ?_
      clear hHeld
      have HM : Hid (Mat w9 G n R2) := hM9
      have HRM : Hid (RMat w9 g q n R2) := hRM9
      have HS : Hid (Lies w9 w.heap.size s) := hS9
      have HO : Hid (MopsB w9 (some ⟨b, off, none⟩) len w.heap.size O) := (show MopsB wr.drew (some ⟨b, off, none⟩) len w.heap.size O from hOs.below ((Below.refl _ wr).drew)).below hB9
      have HB : Hid (Below w.heap.size w w9) := hB.drew.trans hB9
      clear hM4 hM5 hM6 hM7 hM8 hM9 hRM4 hRM5 hRM6 hRM7 hRM8 hRM9 hS4 hS5 hS6 hS7 hS8 hS9 hO4 hO5 hO6 hO7 hO8 hO9 hC4 hC5 hb6 hb7 hb8 hb9 hBw hB6 hB7 hB8 hB9 hM hRM hS hOs hB hO hOd hSd hv16 h216 hM216 hc216
      go_wp2
      go_roundw
      case rel => exact ⟨k + 1, R2, by omega, by go_num, HM.out, HRM.out, HS.out, HO.out, HB.out⟩
      case measure => simp [intOf]; omega
    · obtain rfl : k = len := by omega
      have hlen := hM.grid.len
      clear hOs
      go_wp2_with fail
      go_loopw [10] (fun i wr => ∃ c : Int, -1 ≤ c ∧ c ≤ 17 ∧ i = .int .i64 c ∧ Mat wr G n R ∧ RMat wr g q n R ∧ Lies wr w.heap.size s ∧ Below w.heap.size w wr) (fun i _ => (17 - intOf i).toNat)
      case atStart => exact ⟨-1, by omega, by omega, rfl, hM, hRM, hS, hB⟩
      case round =>
        clear hM hRM hS hB
        rename World => wr
        obtain ⟨c, hc1, hc2, rfl, hM, hRM, hS, hB⟩ := hrel
        by_cases hc16 : c ≤ 16
        · have hdc : decide (c ≤ 16) = true := decide_eq_true hc16
          obtain ⟨X, hX⟩ : ∃ X, rowE n R c = X := ⟨_, rfl⟩
          have hX16 : X.length = 16 := by rw [← hX]; exact rowE_len hlen
          have HX : Hid (rowE n R c = X) := hX
          obtain ⟨c', hc'⟩ : ∃ c' : Int, c' = c + 1 := ⟨_, rfl⟩
          have hw1 : IntKind.i64.wrap (c + 1) = c' := by rw [hc']; simp [IntKind.wrap, IntKind.signed, IntKind.bits]; omega
          clear hX
          by_cases h0 : 0 ≤ c
          · have hd0 : decide (0 ≤ c) = true := decide_eq_true h0
            by_cases hcn : c < (n : Int)
            · have hdn : decide (c < (n : Int)) = true := decide_eq_true hcn
              obtain ⟨z, rfl⟩ : ∃ z : Nat, c = (z : Int) := ⟨c.toNat, by omega⟩
              have hzn : z < n := by omega
              have hdz : decide (z < n) = true := decide_eq_true hzn
              have hX0 : rowE n R (z : Int) = R z := rowE_in hzn
              have hc := hRM.cell
              have hix : ∀ W, (Instr.indexAt 37 (.slice (some ⟨q, 0, none⟩) n n) (.int .i64 (z : Int))).run Try.prog W = .ok (.pointer (some ⟨q, z * 16, none⟩)) W := fun W => by
                have := run_indexAt_vvs W q n n z hzn
                rwa [Nat.zero_add] at this
              have hn0 := lies_new wr zeros
              have hba : Below wr.heap.size wr (wr.alloc (.cells (vals zeros) 24)) := (Below.refl _ wr).alloc (Nat.le_refl _) _
              have hgl := grid_load (hRM.alloc (.cells (vals zeros) 24)).grid hzn
              have hst := store_run (l := X) hn0 hX16 rfl
              have hD := hn0.row X
              have hbq : Below wr.heap.size wr ((wr.alloc (.cells (vals zeros) 24)).setRow wr.heap.size (vals X)) := below_setRow hba (Nat.le_refl _) _
              have hcA := (hRM.alloc (.cells (vals zeros) 24)).cell
              rw [← hX0, HX.out, Nat.zero_add] at hgl
              generalize hWD : wr.alloc (.cells (vals zeros) 24) = wD at *
              generalize hWE : wD.setRow wr.heap.size (vals X) = wE at *
              generalize hDD : wr.heap.size = D at *
              rw [zeros_vals] at hWD
              clear hba hn0 hX0 hc
              go_wp2_with (first
                | (refine wpList_loadR (ty := 24) (x := .tmp 93) (ad := ⟨q, z * 16, none⟩) (v := .agg (vals X)) rfl rfl rfl hgl ?_)
                | (refine wpList_storeR (ty := 24) (x := .tmp 11) (y := .tmp 94) (ad := ⟨D, 0, none⟩) (v := .agg (vals X)) (w' := wE) rfl rfl rfl rfl hst ?_))
              rw [← hDD] at hbq
              clear hWD hWE hst hgl hcA hix
              have hM := hM.below hbq hM.lt
              have hRM := hRM.below hbq (Nat.le_refl _)
              have hS := hS.below hbq hS.lt
              have hB := hB.trans (hbq.mono hB.size)
              clear hbq
              refine region_vals [95, 96, 97, 98, 99] [.pointer (some ⟨G, 0, none⟩), .int .i64 (z : Int), .agg (vals (X)), .agg (vals (X)), .bool false] _ (by kernel_rfl) (by kernel_rfl) (by rfl) (by decide) (by kernel_rfl) (by simp only [lay, Act.put, List.setIfInBounds_toArray, List.set_cons_zero, List.set_cons_succ, List.getD_cons_zero, List.getD_cons_succ, Nat.reduceAdd]; rfl) ⟨?_, ?_, ?_, ?_, ?_, trivial⟩ ?_
              · exact .inl ⟨rfl, fun W hb => yields_move rfl rfl⟩
              · exact .inl ⟨rfl, fun W hb => yields_move rfl rfl⟩
              · exact .inl ⟨rfl, fun W hb => yields_call (f := 17) (xs := [.tmp 95, .tmp 96]) (vs := [.pointer (some ⟨G, 0, none⟩), .int .i64 (z : Int)]) (v := .agg (vals (X))) rfl rfl (enters_mrow _ _) (by rw [← HX.out]; exact mrow_any _ n R (z : Int) W (hM.below hb hM.lt).mp)⟩
              · exact .inl ⟨rfl, fun W hb => yields_load rfl rfl (load_run (hD.below hb hD.lt) hX16)⟩
              · exact .inl ⟨rfl, fun W hb => yields_bin rfl rfl rfl (eqGuard_vv _ _ _) (run_neq_same W rfl hX16 hX16)⟩
              intro w8 hb8
              have HM : Hid (Mat w8 G n R) := hM.below hb8 hM.lt
              have HRM : Hid (RMat w8 g q n R) := hRM.below hb8 (Nat.le_refl _)
              have HS : Hid (Lies w8 w.heap.size s) := hS.below hb8 hS.lt
              have HB : Hid (Below w.heap.size w w8) := hB.trans (hb8.mono hB.size)
              clear hM hRM hS hB hb8 hD
              go_wp2
              go_roundw
              case rel => exact ⟨c', by omega, by omega, by first | rfl | rw [hc'], HM.out, HRM.out, HS.out, HB.out⟩
              case measure => simp [intOf]; omega
            · have hdn : decide (c < (n : Int)) = false := decide_eq_false hcn
              have hc := hRM.cell
              have hcA := (hRM.alloc (.cells (vals zeros) 24)).cell
              have hX0 : rowE n R c = zeros := by rw [rowE, show inM n c = false from decide_eq_false (fun h => hcn h.2)]; rfl
              have hD : Lies (wr.alloc (.cells (vals zeros) 24)) wr.heap.size X := by rw [← HX.out, hX0]; exact lies_new wr zeros
              clear hX0
              have hbq : Below wr.heap.size wr (wr.alloc (.cells (vals zeros) 24)) := (Below.refl _ wr).alloc (Nat.le_refl _) _
              generalize hWD : wr.alloc (.cells (vals zeros) 24) = wD at *
              generalize hDD : wr.heap.size = D at *
              rw [zeros_vals] at hWD
              go_wp2_with fail
              rw [← hDD] at hbq
              clear hWD
              clear hc hcA
              have hM := hM.below hbq hM.lt
              have hRM := hRM.below hbq (Nat.le_refl _)
              have hS := hS.below hbq hS.lt
              have hB := hB.trans (hbq.mono hB.size)
              clear hbq
              refine region_vals [95, 96, 97, 98, 99] [.pointer (some ⟨G, 0, none⟩), .int .i64 c, .agg (vals (X)), .agg (vals (X)), .bool false] _ (by kernel_rfl) (by kernel_rfl) (by rfl) (by decide) (by kernel_rfl) (by simp only [lay, Act.put, List.setIfInBounds_toArray, List.set_cons_zero, List.set_cons_succ, List.getD_cons_zero, List.getD_cons_succ, Nat.reduceAdd]; rfl) ⟨?_, ?_, ?_, ?_, ?_, trivial⟩ ?_
              · exact .inl ⟨rfl, fun W hb => yields_move rfl rfl⟩
              · exact .inl ⟨rfl, fun W hb => yields_move rfl rfl⟩
              · exact .inl ⟨rfl, fun W hb => yields_call (f := 17) (xs := [.tmp 95, .tmp 96]) (vs := [.pointer (some ⟨G, 0, none⟩), .int .i64 c]) (v := .agg (vals (X))) rfl rfl (enters_mrow _ _) (by rw [← HX.out]; exact mrow_any _ n R c W (hM.below hb hM.lt).mp)⟩
              · exact .inl ⟨rfl, fun W hb => yields_load rfl rfl (load_run (hD.below hb hD.lt) hX16)⟩
              · exact .inl ⟨rfl, fun W hb => yields_bin rfl rfl rfl (eqGuard_vv _ _ _) (run_neq_same W rfl hX16 hX16)⟩
              intro w8 hb8
              have HM : Hid (Mat w8 G n R) := hM.below hb8 hM.lt
              have HRM : Hid (RMat w8 g q n R) := hRM.below hb8 (Nat.le_refl _)
              have HS : Hid (Lies w8 w.heap.size s) := hS.below hb8 hS.lt
              have HB : Hid (Below w.heap.size w w8) := hB.trans (hb8.mono hB.size)
              clear hM hRM hS hB hb8 hD
              go_wp2
              go_roundw
              case rel => exact ⟨c', by omega, by omega, by first | rfl | rw [hc'], HM.out, HRM.out, HS.out, HB.out⟩
              case measure => simp [intOf]; omega
          · have hd0 : decide (0 ≤ c) = false := decide_eq_false h0
            have hX0 : rowE n R c = zeros := by rw [rowE, show inM n c = false from decide_eq_false (fun h => h0 h.1)]; rfl
            have hD : Lies (wr.alloc (.cells (vals zeros) 24)) wr.heap.size X := by rw [← HX.out, hX0]; exact lies_new wr zeros
            clear hX0
            have hbq : Below wr.heap.size wr (wr.alloc (.cells (vals zeros) 24)) := (Below.refl _ wr).alloc (Nat.le_refl _) _
            generalize hWD : wr.alloc (.cells (vals zeros) 24) = wD at *
            generalize hDD : wr.heap.size = D at *
            rw [zeros_vals] at hWD
            go_wp2_with fail
            rw [← hDD] at hbq
            clear hWD
            have hM := hM.below hbq hM.lt
            have hRM := hRM.below hbq (Nat.le_refl _)
            have hS := hS.below hbq hS.lt
            have hB := hB.trans (hbq.mono hB.size)
            clear hbq
            refine region_vals [95, 96, 97, 98, 99] [.pointer (some ⟨G, 0, none⟩), .int .i64 c, .agg (vals (X)), .agg (vals (X)), .bool false] _ (by kernel_rfl) (by kernel_rfl) (by rfl) (by decide) (by kernel_rfl) (by simp only [lay, Act.put, List.setIfInBounds_toArray, List.set_cons_zero, List.set_cons_succ, List.getD_cons_zero, List.getD_cons_succ, Nat.reduceAdd]; rfl) ⟨?_, ?_, ?_, ?_, ?_, trivial⟩ ?_
            · exact .inl ⟨rfl, fun W hb => yields_move rfl rfl⟩
            · exact .inl ⟨rfl, fun W hb => yields_move rfl rfl⟩
            · exact .inl ⟨rfl, fun W hb => yields_call (f := 17) (xs := [.tmp 95, .tmp 96]) (vs := [.pointer (some ⟨G, 0, none⟩), .int .i64 c]) (v := .agg (vals (X))) rfl rfl (enters_mrow _ _) (by rw [← HX.out]; exact mrow_any _ n R c W (hM.below hb hM.lt).mp)⟩
            · exact .inl ⟨rfl, fun W hb => yields_load rfl rfl (load_run (hD.below hb hD.lt) hX16)⟩
            · exact .inl ⟨rfl, fun W hb => yields_bin rfl rfl rfl (eqGuard_vv _ _ _) (run_neq_same W rfl hX16 hX16)⟩
            intro w8 hb8
            have HM : Hid (Mat w8 G n R) := hM.below hb8 hM.lt
            have HRM : Hid (RMat w8 g q n R) := hRM.below hb8 (Nat.le_refl _)
            have HS : Hid (Lies w8 w.heap.size s) := hS.below hb8 hS.lt
            have HB : Hid (Below w.heap.size w w8) := hB.trans (hb8.mono hB.size)
            clear hM hRM hS hB hb8 hD
            go_wp2
            go_roundw
            case rel => exact ⟨c', by omega, by omega, by first | rfl | rw [hc'], HM.out, HRM.out, HS.out, HB.out⟩
            case measure => simp [intOf]; omega
        · have hdc : decide (c ≤ 16) = false := decide_eq_false hc16
          obtain ⟨M, hMM⟩ : ∃ M, metE n R = M := ⟨_, rfl⟩
          obtain ⟨C, hC⟩ : ∃ C, cutE n R s = C := ⟨_, rfl⟩
          have hM16 : M.length = 16 := by rw [← hMM]; exact metE_len hlen
          have hC16 : C.length = 16 := by rw [← hC]; exact cutE_len hlen
          have HMM : Hid (metE n R = M) := hMM
          have HC : Hid (cutE n R s = C) := hC
          clear hMM hC
          go_wp2_with fail
          refine region_vals [100, 101, 102, 103, 104, 105, 106, 107, 108, 109, 110, 111, 112, 113, 6] [.pointer (some ⟨G, 0, none⟩), .agg (vals (M)), .pointer (some ⟨g, 0, none⟩), .agg (vals (M)), .bool true, .bool true, .pointer (some ⟨G, 0, none⟩), .agg (vals (s)), .agg (vals (C)), .pointer (some ⟨g, 0, none⟩), .agg (vals (s)), .agg (vals (C)), .bool true, .bool true, .bool true] _ (by kernel_rfl) (by kernel_rfl) (by rfl) (by decide) (by kernel_rfl) (by simp only [lay, Act.put, List.setIfInBounds_toArray, List.set_cons_zero, List.set_cons_succ, List.getD_cons_zero, List.getD_cons_succ, Nat.reduceAdd]; rfl) ⟨?_, ?_, ?_, ?_, ?_, ?_, ?_, ?_, ?_, ?_, ?_, ?_, ?_, ?_, ?_, trivial⟩ ?_
          · exact .inl ⟨rfl, fun W hb => yields_move rfl rfl⟩
          · exact .inl ⟨rfl, fun W hb => yields_call (f := 13) (xs := [.tmp 100]) (vs := [.pointer (some ⟨G, 0, none⟩)]) (v := .agg (vals (M))) rfl rfl (enters_mstab _ _) (by rw [← HMM.out]; exact mstab_any _ n R W (hM.below hb hM.lt).mp)⟩
          · exact .inl ⟨rfl, fun W hb => yields_move rfl rfl⟩
          · exact .inl ⟨rfl, fun W hb => yields_call (f := 14) (xs := [.tmp 102]) (vs := [.pointer (some ⟨g, 0, none⟩)]) (v := .agg (vals (M))) rfl rfl (enters_rmstab _ _) (by rw [← HMM.out]; exact rmstab_any g q n R W (hRM.below hb (Nat.le_refl _)) hn16)⟩
          · exact .inl ⟨rfl, fun W hb => yields_bin rfl rfl rfl (eqGuard_vv _ _ _) (run_eql_same W rfl hM16 hM16)⟩
          · exact .inl ⟨rfl, fun W hb => yields_move rfl rfl⟩
          · exact .inl ⟨rfl, fun W hb => yields_move rfl rfl⟩
          · exact .inl ⟨rfl, fun W hb => yields_load rfl rfl (load_run (hS.below hb hS.lt) hs)⟩
          · exact .inl ⟨rfl, fun W hb => yields_call (f := 15) (xs := [.tmp 106, .tmp 107]) (vs := [.pointer (some ⟨G, 0, none⟩), .agg (vals (s))]) (v := .agg (vals (C))) rfl rfl (enters_mcut _ _) (by rw [← HC.out]; exact mcut_any _ n R s hs W (hM.below hb hM.lt).mp)⟩
          · exact .inl ⟨rfl, fun W hb => yields_move rfl rfl⟩
          · exact .inl ⟨rfl, fun W hb => yields_load rfl rfl (load_run (hS.below hb hS.lt) hs)⟩
          · exact .inl ⟨rfl, fun W hb => yields_call (f := 16) (xs := [.tmp 109, .tmp 110]) (vs := [.pointer (some ⟨g, 0, none⟩), .agg (vals (s))]) (v := .agg (vals (C))) rfl rfl (enters_rmcut _ _) (by rw [← HC.out]; exact rmcut_any g q n R s hs W (hRM.below hb (Nat.le_refl _)) hn16)⟩
          · exact .inl ⟨rfl, fun W hb => yields_bin rfl rfl rfl (eqGuard_vv _ _ _) (run_eql_same W rfl hC16 hC16)⟩
          · exact .inl ⟨rfl, fun W hb => yields_pick (b := true) rfl rfl rfl⟩
          · exact .inl ⟨rfl, fun W hb => yields_assign rfl rfl⟩
          intro w8 hb8
          have HB : Hid (Below w.heap.size w w8) := hB.trans (hb8.mono hB.size)
          clear hM hRM hS hB hb8
          go_wp2
          go_ret
          exact ⟨rfl, HB.out⟩
theorem lplays_walk (x : Int) (a : Option Addr) (len cap : Nat) (s : List Int) (hs : s.length = 16) (w : World) (O : Nat → Int × List Int) (hO : Mops w a len O) : Calls Try.prog 3 #[.int .i64 x, .slice a len cap, .agg (vals s)] w fun e w' => e = .returned (.bool true) ∧ Below w.heap.size w w' := by
  by_cases hl : 300 < len
  · exact lplays_far x a len cap s w hl
  · exact lplays_go x a len cap s hs w O hl hO
end Go.Proofs.Ytcndgbepdgjkeaa
