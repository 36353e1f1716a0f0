/-
  MatrixBelow, the walk.
-/
import Derived.Test.YtcndgbepdgjkeaaMpm
namespace Go.Proofs.Ytcndgbepdgjkeaa
set_option maxRecDepth 100000
open Go.RowKit

theorem mrow_in {g n k : Nat} {R : Nat → List Int} {w : World} (hk : k < n) (h : Mat w g n R) : Calls Try.prog 17 #[.pointer (some ⟨g, 0, none⟩), .int .i64 (k : Int)] w fun e w' => e = .returned (.agg (vals (R k))) ∧ Below w.heap.size w w' := by
  have := mrow_any _ n R (k : Int) w h.mp
  rwa [rowE_in hk] at this
set_option maxHeartbeats 1000000 in
theorem lbelow_far (x : Int) (a : Option Addr) (len cap : Nat) (s : List Int) (w : World) (hl : 300 < len) : Calls Try.prog 7 #[.int .i64 x, .slice a len cap, .agg (vals s)] w fun e w' => e = .returned (.bool true) ∧ Below w.heap.size w w' := by
  have hS0 := lies_new w s
  have hb0 : Below w.heap.size w (w.alloc (.cells (vals s) 24)) := (Below.refl _ w).alloc (Nat.le_refl _) _
  have hl0 : w.heap.size < (w.alloc (.cells (vals s) 24)).heap.size := by simp
  generalize hW0 : w.alloc (.cells (vals s) 24) = W0 at *
  have hA := mawake_any W0
  go_enter Try.func7, Try.ntmps7
  go_wp2_with fail
  refine Calls.mono hA ?_
  rintro e w1 ⟨rfl, hb1⟩
  have hB1 : Below w.heap.size w w1 := hb0.trans (hb1.mono hb0.size)
  have hA2 := mawake_any w1
  have HB1 : Hid (Below w.heap.size w w1) := hB1
  clear hS0 hb0 hb1 hA hl0 hB1
  go_wp2_with fail
  refine Calls.mono hA2 ?_
  rintro e w3 ⟨rfl, hb3⟩
  have HB3 : Hid (Below w.heap.size w w3) := HB1.out.trans (hb3.mono HB1.out.size)
  clear hb3 hA2
  go_wp2
  go_ret
  exact ⟨rfl, HB3.out⟩
set_option maxHeartbeats 1000000 in
theorem lbelow_odd (x : Int) (a : Option Addr) (len cap : Nat) (s : List Int) (hs : s.length = 16) (w : World) (hl : ¬ 300 < len) (hf : fine s = false) : Calls Try.prog 7 #[.int .i64 x, .slice a len cap, .agg (vals s)] w fun e w' => e = .returned (.bool true) ∧ Below w.heap.size w w' := by
  have hS0 := lies_new w s
  have hb0 : Below w.heap.size w (w.alloc (.cells (vals s) 24)) := (Below.refl _ w).alloc (Nat.le_refl _) _
  have hl0 : w.heap.size < (w.alloc (.cells (vals s) 24)).heap.size := by simp
  generalize hW0 : w.alloc (.cells (vals s) 24) = W0 at *
  have hA := mawake_any W0
  have hd : decide ((300 : Int) < (len : Int)) = false := decide_eq_false (by omega)
  go_enter Try.func7, Try.ntmps7
  go_wp2_with fail
  refine Calls.mono hA ?_
  rintro e w1 ⟨rfl, hb1⟩
  have hB1 : Below w.heap.size w w1 := hb0.trans (hb1.mono hb0.size)
  have hS1 := hS0.below hb1 hl0
  have hR := rright_any s hs w1
  rw [hf] at hR
  have HB1 : Hid (Below w.heap.size w w1) := hB1
  clear hS0 hb0 hb1 hA hl0 hB1
  go_wp2_with (refine load_vec_w rfl rfl rfl hS1 hs ?_)
  refine Calls.mono hR ?_
  rintro e w2 ⟨rfl, hb2⟩
  have HB2 : Hid (Below w.heap.size w w2) := HB1.out.trans (hb2.mono HB1.out.size)
  have hA2 := mawake_any w2
  clear hb2 hR hS1 HB1
  go_wp2_with fail
  refine Calls.mono hA2 ?_
  rintro e w3 ⟨rfl, hb3⟩
  have HB3 : Hid (Below w.heap.size w w3) := HB2.out.trans (hb3.mono HB2.out.size)
  clear hb3 hA2
  go_wp2
  go_ret
  exact ⟨rfl, HB3.out⟩
set_option maxHeartbeats 4000000 in
theorem lbelow_go (x : Int) (a : Option Addr) (len cap : Nat) (s : List Int) (hs : s.length = 16) (w : World) (O : Nat → Int × List Int) (hl : ¬ 300 < len) (hf : fine s = true) (hO : Mops w a len O) : Calls Try.prog 7 #[.int .i64 x, .slice a len cap, .agg (vals s)] w fun e w' => e = .returned (.bool true) ∧ Below w.heap.size w w' := by
  have hS0 := lies_new w s
  have hb0 : Below w.heap.size w (w.alloc (.cells (vals s) 24)) := (Below.refl _ w).alloc (Nat.le_refl _) _
  have hl0 : w.heap.size < (w.alloc (.cells (vals s) 24)).heap.size := by simp
  generalize hW0 : w.alloc (.cells (vals s) 24) = W0 at *
  have hA := mawake_any W0
  have hd : decide ((300 : Int) < (len : Int)) = false := decide_eq_false (by omega)
  have hO0 := hO.bound
  go_enter Try.func7, Try.ntmps7
  go_wp2_with fail
  refine Calls.mono hA ?_
  rintro e w1 ⟨rfl, hb1⟩
  have hB1 : Below w.heap.size w w1 := hb0.trans (hb1.mono hb0.size)
  have hS1 := hS0.below hb1 hl0
  have hR := rright_any s hs w1
  rw [hf] at hR
  clear hS0 hb0 hb1 hA hl0 hW0
  go_wp2_with (refine load_vec_w rfl rfl rfl hS1 hs ?_)
  refine Calls.mono hR ?_
  rintro e w2 ⟨rfl, hb2⟩
  have hB2 : Below w.heap.size w w2 := hB1.trans (hb2.mono hB1.size)
  have hS2 := hS1.below hb2 hS1.lt
  have hN := mnew_any x w2
  have hM2 := mat_new w2 (clampN x) (clampN_le x)
  have hB3 : Below w.heap.size w (w2.alloc (.cells (mcells (clampN x)) 48)) := hB2.alloc hB2.size _
  have hS3 := hS2.alloc (.cells (mcells (clampN x)) 48)
  have hFG : w.heap.size < w2.heap.size := hS2.lt
  have hO3 := hO0.below hB3
  generalize hG : w2.heap.size = G at *
  generalize hW3 : w2.alloc (.cells (mcells (clampN x)) 48) = W3 at *
  have hcn := clampN_le x
  have hcx : max 1 (min x 16) = (clampN x : Int) := by unfold clampN; omega
  obtain ⟨y, hy⟩ : ∃ y, min x 16 = y := ⟨_, rfl⟩
  rw [hy] at hcx
  generalize clampN x = n at *
  have Hy : Hid (min x 16 = y) := hy
  have Hcx : Hid (max 1 y = (n : Int)) := hcx
  clear hR hb2 hB1 hS1 hB2 hS2 hO0 hO hy hcx
  go_wp2_with fail
  refine Calls.mono hN ?_
  rintro e w3 ⟨rfl, hw⟩
  obtain rfl := hw.symm
  clear hw hN hW3 hG
  go_wp2_with fail
  go_loopw [31] (fun i wr => ∃ (k : Nat) (R : Nat → List Int), k ≤ len ∧ i = .int .i64 (k : Int) ∧ noneg R ∧ Mat wr G n R ∧ Lies wr w.heap.size s ∧ MopsB wr a len w.heap.size O ∧ Below w.heap.size w wr) (fun i _ => len - (intOf i).toNat)
  case atStart => exact ⟨0, zeroR, Nat.zero_le _, rfl, noneg_zero, hM2, hS3, hO3, hB3⟩
  case round =>
    clear hM2 hS3 hO3 hB3
    obtain ⟨k, R, hk, rfl, hng, hM, hS, hOs, hB⟩ := hrel
    by_cases hkl : k < len
    · obtain ⟨b, off, rfl, hbF, hO⟩ := hOs.at hkl
      have hbG : b ≠ G := by omega
      have hbl : b < wr.heap.size := Nat.lt_of_lt_of_le hbF hB.size
      go_wp2_with fail
      have hOd : IsMop wr.drew b (off + k * 17) (O k) := hO.same rfl
      refine wp_region_noPanic ?_
      refine wp_region_held_drew (S := fun W' : World => IsMop W' b (off + k * 17) (O k)) (by kernel_rfl) hOd (fun hHeld => ?_)
      refine wpAnyH_take (i := 0) (oi := { dst := some 34, op := _, type := _, pos := _, after := _, guard := _ }) (v := .pointer (some ⟨G, 0, none⟩)) rfl (by kernel_rfl) (by kernel_rfl) (by kernel_rfl) (fun _ _ _ h => h) (Or.inl ⟨by rfl, ?_⟩) (by assumption) ?_
      · intro w9 hSw
        exact y_move rfl rfl
      simp only [Act.put, List.setIfInBounds_toArray, List.set_cons_zero, List.set_cons_succ]
      refine wpAnyH_take (i := 1) (oi := { dst := some 35, op := _, type := _, pos := _, after := _, guard := _ }) (v := .slice (some ⟨b, off, none⟩) len cap) rfl (by kernel_rfl) (by kernel_rfl) (by kernel_rfl) (fun _ _ _ h => h) (Or.inl ⟨by rfl, ?_⟩) (by assumption) ?_
      · intro w9 hSw
        exact y_move rfl rfl
      simp only [Act.put, List.setIfInBounds_toArray, List.set_cons_zero, List.set_cons_succ]
      refine wpAnyH_take (i := 2) (oi := { dst := some 36, op := _, type := _, pos := _, after := _, guard := _ }) (v := .int .i64 (k : Int)) rfl (by kernel_rfl) (by kernel_rfl) (by kernel_rfl) (fun _ _ _ h => h) (Or.inl ⟨by rfl, ?_⟩) (by assumption) ?_
      · intro w9 hSw
        exact y_move rfl rfl
      simp only [Act.put, List.setIfInBounds_toArray, List.set_cons_zero, List.set_cons_succ]
      refine wpAnyH_take (i := 3) (oi := { dst := some 37, op := _, type := _, pos := _, after := _, guard := _ }) (v := .pointer (some ⟨b, off + k * 17, none⟩)) rfl (by kernel_rfl) (by kernel_rfl) (by kernel_rfl) (fun _ _ _ h => h) (Or.inl ⟨by rfl, ?_⟩) (by assumption) ?_
      · intro w9 hSw
        exact y_index rfl rfl rfl (run_indexAt_mops _ _ _ _ _ _ hkl)
      simp only [Act.put, List.setIfInBounds_toArray, List.set_cons_zero, List.set_cons_succ]
      refine wpAnyH_take (i := 4) (oi := { dst := some 38, op := _, type := _, pos := _, after := _, guard := _ }) (v := .pointer (some ⟨b, off + k * 17, none⟩)) rfl (by kernel_rfl) (by kernel_rfl) (by kernel_rfl) (fun _ _ _ h => h) (Or.inl ⟨by rfl, ?_⟩) (by assumption) ?_
      · intro w9 hSw
        exact y_field rfl rfl (field_o0 _ _ _)
      simp only [Act.put, List.setIfInBounds_toArray, List.set_cons_zero, List.set_cons_succ]
      refine wpAnyH_take (i := 5) (oi := { dst := some 39, op := _, type := _, pos := _, after := _, guard := _ }) (v := .int .i64 (O k).1) rfl (by kernel_rfl) (by kernel_rfl) (by kernel_rfl) (fun _ _ _ h => h) (Or.inl ⟨by rfl, ?_⟩) (by assumption) ?_
      · intro w9 hSw
        exact y_load rfl rfl (load_int_run hSw.num)
      simp only [Act.put, List.setIfInBounds_toArray, List.set_cons_zero, List.set_cons_succ]
      refine wpAnyH_take (i := 6) (oi := { dst := some 40, op := _, type := _, pos := _, after := _, guard := _ }) (v := .slice (some ⟨b, off, none⟩) len cap) rfl (by kernel_rfl) (by kernel_rfl) (by kernel_rfl) (fun _ _ _ h => h) (Or.inl ⟨by rfl, ?_⟩) (by assumption) ?_
      · intro w9 hSw
        exact y_move rfl rfl
      simp only [Act.put, List.setIfInBounds_toArray, List.set_cons_zero, List.set_cons_succ]
      refine wpAnyH_take (i := 7) (oi := { dst := some 41, op := _, type := _, pos := _, after := _, guard := _ }) (v := .int .i64 (k : Int)) rfl (by kernel_rfl) (by kernel_rfl) (by kernel_rfl) (fun _ _ _ h => h) (Or.inl ⟨by rfl, ?_⟩) (by assumption) ?_
      · intro w9 hSw
        exact y_move rfl rfl
      simp only [Act.put, List.setIfInBounds_toArray, List.set_cons_zero, List.set_cons_succ]
      refine wpAnyH_take (i := 8) (oi := { dst := some 42, op := _, type := _, pos := _, after := _, guard := _ }) (v := .pointer (some ⟨b, off + k * 17, none⟩)) rfl (by kernel_rfl) (by kernel_rfl) (by kernel_rfl) (fun _ _ _ h => h) (Or.inl ⟨by rfl, ?_⟩) (by assumption) ?_
      · intro w9 hSw
        exact y_index rfl rfl rfl (run_indexAt_mops _ _ _ _ _ _ hkl)
      simp only [Act.put, List.setIfInBounds_toArray, List.set_cons_zero, List.set_cons_succ]
      refine wpAnyH_take (i := 9) (oi := { dst := some 43, op := _, type := _, pos := _, after := _, guard := _ }) (v := .pointer (some ⟨b, off + k * 17 + 1, none⟩)) rfl (by kernel_rfl) (by kernel_rfl) (by kernel_rfl) (fun _ _ _ h => h) (Or.inl ⟨by rfl, ?_⟩) (by assumption) ?_
      · intro w9 hSw
        exact y_field rfl rfl (field_o1 _ _ _)
      simp only [Act.put, List.setIfInBounds_toArray, List.set_cons_zero, List.set_cons_succ]
      refine wpAnyH_take (i := 10) (oi := { dst := some 44, op := _, type := _, pos := _, after := _, guard := _ }) (v := .agg (vals ((O k).2))) rfl (by kernel_rfl) (by kernel_rfl) (by kernel_rfl) (fun _ _ _ h => h) (Or.inl ⟨by rfl, ?_⟩) (by assumption) ?_
      · intro w9 hSw
        exact y_load rfl rfl hSw.load
      simp only [Act.put, List.setIfInBounds_toArray, List.set_cons_zero, List.set_cons_succ]
      clear hHeld
      refine wpAnyH_ready (rs := [11]) (by kernel_rfl) (by simp) ?_
      refine AllReadyH.cons (o := { dst := some 45, op := _, type := _, pos := _, after := _, guard := _ }) rfl (fun K hK => ?_) AllReadyH.nil
      rw [if_pos (by rfl)]
      refine y_call (f := 11) (xs := [.tmp 34, .tmp 39, .tmp 44]) (vs := [.pointer (some ⟨G, 0, none⟩), .int .i64 (O k).1, .agg (vals ((O k).2))]) rfl rfl (enters_msee _ _) (msee_mat G n R _ _ hO.len wr.drew hM.drew) ?_
      rintro ex w4 ⟨rfl, hM4, hC4⟩
      refine ⟨_, rfl, ?_⟩
      have hO4 : IsMop w4 b (off + k * 17) (O k) := hOd.same (hC4.block b hbl hbG)
      refine hK.out _ _ hO4 (fun hHeld => ?_)
      clear hK K
      simp only [Act.put, List.setIfInBounds_toArray, List.set_cons_zero, List.set_cons_succ]
      refine wpAnyH_done (by kernel_rfl) ?_ _
      refine NoPanic.normal ?_
      clear hHeld
      have hv16 := hO.len
      have Hn : Hid (noneg (seeR n R (O k).1 (O k).2)) := noneg_see hM.grid.len hv16 hng
      have HM : Hid (Mat w4 G n (seeR n R (O k).1 (O k).2)) := hM4
      have HS : Hid (Lies w4 w.heap.size s) := hS.drew.chg hC4 (by omega)
      have hBw : Below w.heap.size wr.drew w4 := hC4.below (by omega) hB.size
      have HO : Hid (MopsB w4 (some ⟨b, off, none⟩) len w.heap.size O) := (show MopsB wr.drew (some ⟨b, off, none⟩) len w.heap.size O from hOs.below ((Below.refl _ wr).drew)).below hBw
      have HB : Hid (Below w.heap.size w w4) := hB.drew.trans hBw
      generalize seeR n R (O k).1 (O k).2 = R2 at *
      clear hM4 hC4 hO4 hOd hO hOs hM hS hB hBw hng hv16
      go_wp2
      go_roundw
      case rel => exact ⟨k + 1, R2, by omega, by go_num, Hn.out, HM.out, HS.out, HO.out, HB.out⟩
      case measure => simp [intOf]; omega
    · obtain rfl : k = len := by omega
      have hCut := mcut_any _ n R s hs wr hM.mp
      have hlen := hM.grid.len
      have Hmo : Hid (∀ r, r < n → most (cutE n R s) (R r) = true) := fun r hr => cutE_row hlen hng hr s
      have Hse : Hid (∀ r, r < n → (cutE n R s).getD r 0 ≤ s.getD r 0) := fun r hr => cutE_seen hlen hs hf hr hcn
      have hc16 : (cutE n R s).length = 16 := cutE_len hlen
      clear hng hOs
      generalize cutE n R s = c at *
      go_wp2_with (refine load_vec rfl rfl rfl hS hs ?_)
      refine Calls.mono hCut ?_
      rintro e w4 ⟨rfl, hb4⟩
      have hM4 := hM.below hb4 hM.lt
      have hS4 := hS.below hb4 hS.lt
      have hB4 : Below w.heap.size w w4 := hB.trans (hb4.mono hB.size)
      have hC5 := lies_new w4 zeros
      have hst := store_run hC5 hc16 rfl
      have hb5 : Below w4.heap.size w4 ((w4.alloc (.cells (vals zeros) 24)).setRow w4.heap.size (vals c)) := below_setRow ((Below.refl _ w4).alloc (Nat.le_refl _) _) (Nat.le_refl _) _
      have hM5 := hM4.below hb5 hM4.lt
      have hS5 := hS4.below hb5 hS4.lt
      have hB5 : Below w.heap.size w ((w4.alloc (.cells (vals zeros) 24)).setRow w4.heap.size (vals c)) := hB4.trans (hb5.mono hB4.size)
      have hC6 := hC5.row c
      have hy := Hy.out
      have hcx := Hcx.out
      clear hM hS hB hb4 hM4 hS4 hB4 hC5 hb5 hCut
      generalize hW5 : (w4.alloc (.cells (vals zeros) 24)).setRow w4.heap.size (vals c) = W5 at *
      generalize hCC : w4.heap.size = C at *
      rw [zeros_vals] at hst
      go_wp2_with (refine wpList_storeR (ty := 24) (x := .tmp 9) (y := .tmp 49) (ad := ⟨C, 0, none⟩) (v := .agg (vals c)) (w' := W5) rfl rfl rfl rfl hst ?_)
      clear hst hW5 hCC hy hcx
      go_loopw [11] (fun i wr => ∃ k : Nat, k ≤ n ∧ i = .int .i64 (k : Int) ∧ Mat wr G n R ∧ Lies wr w.heap.size s ∧ Lies wr C c ∧ Below w.heap.size w wr) (fun i _ => n - (intOf i).toNat)
      case atStart => exact ⟨0, Nat.zero_le _, rfl, hM5, hS5, hC6, hB5⟩
      case round =>
        clear hM5 hS5 hC6 hB5
        obtain ⟨k, hk, rfl, hM, hS, hCl, hB⟩ := hrel
        by_cases hkn : k < n
        · have hk16 : k < 16 := by omega
          have hmost := Hmo.out k hkn
          have hle := Hse.out k hkn
          go_wp2_with fail
          refine region_vals [58, 59, 60, 61, 62, 63, 64, 65, 66, 67, 68, 69, 70, 71, 72] [.agg (vals (c)), .pointer (some ⟨G, 0, none⟩), .int .i64 (k : Int), .agg (vals (R k)), .bool true, .bool false, .bool false, .int .i64 (k : Int), .pointer (some ⟨C, k, none⟩), .int .i64 (c.getD k 0), .int .i64 (k : Int), .pointer (some ⟨w.heap.size, k, none⟩), .int .i64 (s.getD k 0), .bool false, .bool false] _ (by kernel_rfl) (by kernel_rfl) (by rfl) (by decide) (by kernel_rfl) (by simp only [lay, Act.put, List.setIfInBounds_toArray, List.set_cons_zero, List.set_cons_succ, List.getD_cons_zero, List.getD_cons_succ, Nat.reduceAdd]; rfl) ⟨?_, ?_, ?_, ?_, ?_, ?_, ?_, ?_, ?_, ?_, ?_, ?_, ?_, ?_, ?_, trivial⟩ ?_
          · exact .inl ⟨rfl, fun W hb => yields_load rfl rfl (load_run (hCl.below hb hCl.lt) hc16)⟩
          · exact .inl ⟨rfl, fun W hb => yields_move rfl rfl⟩
          · exact .inl ⟨rfl, fun W hb => yields_move rfl rfl⟩
          · exact .inl ⟨rfl, fun W hb => yields_call (f := 17) (xs := [.tmp 59, .tmp 60]) (vs := [.pointer (some ⟨G, 0, none⟩), .int .i64 (k : Int)]) (v := .agg (vals (R k))) rfl rfl (enters_mrow _ _) (mrow_in hkn (hM.below hb hM.lt))⟩
          · exact .inl ⟨rfl, fun W hb => yields_call (f := 18) (xs := [.tmp 58, .tmp 61]) (vs := [.agg (vals (c)), .agg (vals (R k))]) (v := .bool true) rfl rfl (enters_most _ _) (okbool (most_any c (R k) hc16 (hM.grid.len k) W) hmost)⟩
          · exact .inl ⟨rfl, fun W hb => yields_un rfl rfl rfl⟩
          · exact .inl ⟨rfl, fun W hb => yields_move rfl rfl⟩
          · exact .inl ⟨rfl, fun W hb => yields_move rfl rfl⟩
          · exact .inl ⟨rfl, fun W hb => yields_indexAddr rfl rfl rfl (run_indexAt_vec _ _ k hk16)⟩
          · exact .inl ⟨rfl, fun W hb => yields_load rfl rfl (load_int_run ((hCl.below hb hCl.lt).cell (by omega)))⟩
          · exact .inl ⟨rfl, fun W hb => yields_move rfl rfl⟩
          · exact .inl ⟨rfl, fun W hb => yields_indexAddr rfl rfl rfl (run_indexAt_vec _ _ k hk16)⟩
          · exact .inl ⟨rfl, fun W hb => yields_load rfl rfl (load_int_run ((hS.below hb hS.lt).cell (by omega)))⟩
          · exact .inl ⟨rfl, fun W hb => yields_bin rfl rfl rfl (eqGuard_int _) (gtr_no _ (by omega))⟩
          · exact .inl ⟨rfl, fun W hb => yields_pick (b := false) rfl rfl rfl⟩
          intro w5 hb5
          have HM : Hid (Mat w5 G n R) := hM.below hb5 hM.lt
          have HS : Hid (Lies w5 w.heap.size s) := hS.below hb5 hS.lt
          have HC : Hid (Lies w5 C c) := hCl.below hb5 hCl.lt
          have HB : Hid (Below w.heap.size w w5) := hB.trans (hb5.mono hB.size)
          clear hM hS hCl hB hb5 hmost hle
          go_wp2
          go_roundw
          case rel => exact ⟨k + 1, by omega, by go_num, HM.out, HS.out, HC.out, HB.out⟩
          case measure => simp [intOf]; omega
        · obtain rfl : k = n := by omega
          have HB : Hid (Below w.heap.size w wr) := hB
          clear hM hS hCl hB
          go_wp2
          go_ret
          exact ⟨rfl, HB.out⟩
theorem lbelow_walk (x : Int) (a : Option Addr) (len cap : Nat) (s : List Int) (hs : s.length = 16) (w : World) (O : Nat → Int × List Int) (hO : Mops w a len O) : Calls Try.prog 7 #[.int .i64 x, .slice a len cap, .agg (vals s)] w fun e w' => e = .returned (.bool true) ∧ Below w.heap.size w w' := by
  by_cases hl : 300 < len
  · exact lbelow_far x a len cap s w hl
  · by_cases hf : fine s = true
    · exact lbelow_go x a len cap s hs w O hl hf hO
    · exact lbelow_odd x a len cap s hs w hl (by simpa using hf)
end Go.Proofs.Ytcndgbepdgjkeaa
