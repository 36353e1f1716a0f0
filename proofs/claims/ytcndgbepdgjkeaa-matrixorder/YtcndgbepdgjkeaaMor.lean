/-
  MatrixOrder, the walk.
-/
import Derived.Test.YtcndgbepdgjkeaaMpm
namespace Go.Proofs.Ytcndgbepdgjkeaa
set_option maxRecDepth 100000
open Go.RowKit

set_option maxHeartbeats 1000000 in
theorem lorder_far (x : Int) (a : Option Addr) (len cap : Nat) (w : World) (hl : 300 < len) : Calls Try.prog 5 #[.int .i64 x, .slice a len cap] w fun e w' => e = .returned (.bool true) ∧ Below w.heap.size w w' := by
  have hA := mawake_any w
  go_enter Try.func5, Try.ntmps5
  go_wp2_with fail
  refine Calls.mono hA ?_
  rintro e w1 ⟨rfl, hb1⟩
  have hA2 := mawake_any w1
  clear hA
  have HB1 : Hid (Below w.heap.size w w1) := hb1
  clear hb1
  go_wp2_with fail
  refine Calls.mono hA2 ?_
  rintro e w3 ⟨rfl, hb3⟩
  have HB3 : Hid (Below w.heap.size w w3) := HB1.out.trans (hb3.mono HB1.out.size)
  clear hb3 hA2
  go_wp2
  go_ret
  exact ⟨rfl, HB3.out⟩
set_option maxHeartbeats 4000000 in
theorem lorder_go (x : Int) (a : Option Addr) (len cap : Nat) (w : World) (O : Nat → Int × List Int) (hl : ¬ 300 < len) (hO : Mops w a len O) : Calls Try.prog 5 #[.int .i64 x, .slice a len cap] w fun e w' => e = .returned (.bool true) ∧ Below w.heap.size w w' := by
  have hA := mawake_any w
  have hd : decide ((300 : Int) < (len : Int)) = false := decide_eq_false (by omega)
  have hO0 := hO.bound
  go_enter Try.func5, Try.ntmps5
  go_wp2_with fail
  refine Calls.mono hA ?_
  rintro e w1 ⟨rfl, hB1⟩
  have hN := mnew_any x w1
  have hM1 := mat_new w1 (clampN x) (clampN_le x)
  have hB2 : Below w.heap.size w (w1.alloc (.cells (mcells (clampN x)) 48)) := hB1.alloc hB1.size _
  have hN2 := mnew_any x (w1.alloc (.cells (mcells (clampN x)) 48))
  have hM2 := mat_new (w1.alloc (.cells (mcells (clampN x)) 48)) (clampN x) (clampN_le x)
  have hM1' := hM1.alloc (.cells (mcells (clampN x)) 48)
  have hB3 : Below w.heap.size w ((w1.alloc (.cells (mcells (clampN x)) 48)).alloc (.cells (mcells (clampN x)) 48)) := hB2.alloc hB2.size _
  have hO3 := hO0.below hB3
  have hFG : w.heap.size ≤ w1.heap.size := hB1.size
  have hGH : w1.heap.size < (w1.alloc (.cells (mcells (clampN x)) 48)).heap.size := hM1.lt
  generalize hG : w1.heap.size = G at *
  generalize hW2 : w1.alloc (.cells (mcells (clampN x)) 48) = W2 at *
  generalize hH : W2.heap.size = H at *
  generalize hW3 : W2.alloc (.cells (mcells (clampN x)) 48) = W3 at *
  generalize clampN x = n at *
  clear hA hB1 hB2 hO0 hO hM1
  go_wp2_with fail
  refine Calls.mono hN ?_
  rintro e w2 ⟨rfl, hw⟩
  obtain rfl := hw.symm
  clear hw hN hW2 hG
  go_wp2_with fail
  refine Calls.mono hN2 ?_
  rintro e w3 ⟨rfl, hw⟩
  obtain rfl := hw.symm
  clear hw hN2 hW3 hH
  go_wp2_with fail
  go_loopw [30] (fun i wr => ∃ (k : Nat) (R Q : Nat → List Int), k ≤ len ∧ i = .int .i64 (k : Int) ∧ Sup n O (fun j => j < k) R ∧ Sup n O (fun j => len - k ≤ j ∧ j < len) Q ∧ Mat wr G n R ∧ Mat wr H n Q ∧ MopsB wr a len w.heap.size O ∧ Below w.heap.size w wr) (fun i _ => len - (intOf i).toNat)
  case atStart => exact ⟨0, zeroR, zeroR, Nat.zero_le _, rfl, Sup.zero (fun j => by omega), Sup.zero (fun j => by omega), hM1', hM2, hO3, hB3⟩
  case round =>
    clear hM1' hM2 hO3 hB3
    obtain ⟨k, R, Q, hk, rfl, hR, hQ, hM, hMQ, hOs, hB⟩ := hrel
    have HR : Hid _ := hR
    have HQ : Hid _ := hQ
    clear hR hQ
    by_cases hkl : k < len
    · obtain ⟨b, off, rfl, hbF, hOA⟩ := hOs.ops.resolve_left (by omega)
      obtain ⟨m, hm⟩ : ∃ m, m = len - 1 - k := ⟨_, rfl⟩
      obtain ⟨c1, hc1⟩ : ∃ c1 : Int, c1 = (len : Int) - 1 := ⟨_, rfl⟩
      have hw1 : IntKind.i64.wrap ((len : Int) - 1) = c1 := by rw [hc1]; simp [IntKind.wrap, IntKind.signed, IntKind.bits]; omega
      have hw2 : IntKind.i64.wrap (c1 - (k : Int)) = (m : Int) := by rw [hc1, hm]; simp [IntKind.wrap, IntKind.signed, IntKind.bits]; omega
      have hbl : b < wr.heap.size := Nat.lt_of_lt_of_le hbF hB.size
      have hml : m < len := by omega
      have Hm : Hid (m = len - 1 - k) := hm
      clear hm hc1
      go_wp2_with fail
      have hOd : IsMop wr.drew b (off + k * 17) (O k) := (hOA k hkl).same rfl
      have hv16 := hOd.len
      refine wp_region_noPanic ?_
      refine wp_region_held_drew (S := fun W' : World => IsMop W' b (off + k * 17) (O k)) (by kernel_rfl) hOd (fun hHeld => ?_)
      refine wpAnyH_take (i := 0) (oi := { dst := some 38, op := _, type := _, pos := _, after := _, guard := _ }) (v := .pointer (some ⟨G, 0, none⟩)) rfl (by kernel_rfl) (by kernel_rfl) (by kernel_rfl) (fun _ _ _ h => h) (Or.inl ⟨by rfl, ?_⟩) (by assumption) ?_
      · intro w9 hSw
        exact y_move rfl rfl
      simp only [Act.put, List.setIfInBounds_toArray, List.set_cons_zero, List.set_cons_succ]
      refine wpAnyH_take (i := 1) (oi := { dst := some 39, op := _, type := _, pos := _, after := _, guard := _ }) (v := .slice (some ⟨b, off, none⟩) len cap) rfl (by kernel_rfl) (by kernel_rfl) (by kernel_rfl) (fun _ _ _ h => h) (Or.inl ⟨by rfl, ?_⟩) (by assumption) ?_
      · intro w9 hSw
        exact y_move rfl rfl
      simp only [Act.put, List.setIfInBounds_toArray, List.set_cons_zero, List.set_cons_succ]
      refine wpAnyH_take (i := 2) (oi := { dst := some 40, op := _, type := _, pos := _, after := _, guard := _ }) (v := .int .i64 (k : Int)) rfl (by kernel_rfl) (by kernel_rfl) (by kernel_rfl) (fun _ _ _ h => h) (Or.inl ⟨by rfl, ?_⟩) (by assumption) ?_
      · intro w9 hSw
        exact y_move rfl rfl
      simp only [Act.put, List.setIfInBounds_toArray, List.set_cons_zero, List.set_cons_succ]
      refine wpAnyH_take (i := 3) (oi := { dst := some 41, op := _, type := _, pos := _, after := _, guard := _ }) (v := .pointer (some ⟨b, off + k * 17, none⟩)) rfl (by kernel_rfl) (by kernel_rfl) (by kernel_rfl) (fun _ _ _ h => h) (Or.inl ⟨by rfl, ?_⟩) (by assumption) ?_
      · intro w9 hSw
        exact y_index rfl rfl rfl (run_indexAt_mops _ _ _ _ _ _ hkl)
      simp only [Act.put, List.setIfInBounds_toArray, List.set_cons_zero, List.set_cons_succ]
      refine wpAnyH_take (i := 4) (oi := { dst := some 42, op := _, type := _, pos := _, after := _, guard := _ }) (v := .pointer (some ⟨b, off + k * 17, none⟩)) rfl (by kernel_rfl) (by kernel_rfl) (by kernel_rfl) (fun _ _ _ h => h) (Or.inl ⟨by rfl, ?_⟩) (by assumption) ?_
      · intro w9 hSw
        exact y_field rfl rfl (field_o0 _ _ _)
      simp only [Act.put, List.setIfInBounds_toArray, List.set_cons_zero, List.set_cons_succ]
      refine wpAnyH_take (i := 5) (oi := { dst := some 43, op := _, type := _, pos := _, after := _, guard := _ }) (v := .int .i64 (O k).1) rfl (by kernel_rfl) (by kernel_rfl) (by kernel_rfl) (fun _ _ _ h => h) (Or.inl ⟨by rfl, ?_⟩) (by assumption) ?_
      · intro w9 hSw
        exact y_load rfl rfl (load_int_run hSw.num)
      simp only [Act.put, List.setIfInBounds_toArray, List.set_cons_zero, List.set_cons_succ]
      refine wpAnyH_take (i := 6) (oi := { dst := some 44, op := _, type := _, pos := _, after := _, guard := _ }) (v := .slice (some ⟨b, off, none⟩) len cap) rfl (by kernel_rfl) (by kernel_rfl) (by kernel_rfl) (fun _ _ _ h => h) (Or.inl ⟨by rfl, ?_⟩) (by assumption) ?_
      · intro w9 hSw
        exact y_move rfl rfl
      simp only [Act.put, List.setIfInBounds_toArray, List.set_cons_zero, List.set_cons_succ]
      refine wpAnyH_take (i := 7) (oi := { dst := some 45, op := _, type := _, pos := _, after := _, guard := _ }) (v := .int .i64 (k : Int)) rfl (by kernel_rfl) (by kernel_rfl) (by kernel_rfl) (fun _ _ _ h => h) (Or.inl ⟨by rfl, ?_⟩) (by assumption) ?_
      · intro w9 hSw
        exact y_move rfl rfl
      simp only [Act.put, List.setIfInBounds_toArray, List.set_cons_zero, List.set_cons_succ]
      refine wpAnyH_take (i := 8) (oi := { dst := some 46, op := _, type := _, pos := _, after := _, guard := _ }) (v := .pointer (some ⟨b, off + k * 17, none⟩)) rfl (by kernel_rfl) (by kernel_rfl) (by kernel_rfl) (fun _ _ _ h => h) (Or.inl ⟨by rfl, ?_⟩) (by assumption) ?_
      · intro w9 hSw
        exact y_index rfl rfl rfl (run_indexAt_mops _ _ _ _ _ _ hkl)
      simp only [Act.put, List.setIfInBounds_toArray, List.set_cons_zero, List.set_cons_succ]
      refine wpAnyH_take (i := 9) (oi := { dst := some 47, op := _, type := _, pos := _, after := _, guard := _ }) (v := .pointer (some ⟨b, off + k * 17 + 1, none⟩)) rfl (by kernel_rfl) (by kernel_rfl) (by kernel_rfl) (fun _ _ _ h => h) (Or.inl ⟨by rfl, ?_⟩) (by assumption) ?_
      · intro w9 hSw
        exact y_field rfl rfl (field_o1 _ _ _)
      simp only [Act.put, List.setIfInBounds_toArray, List.set_cons_zero, List.set_cons_succ]
      refine wpAnyH_take (i := 10) (oi := { dst := some 48, op := _, type := _, pos := _, after := _, guard := _ }) (v := .agg (vals ((O k).2))) rfl (by kernel_rfl) (by kernel_rfl) (by kernel_rfl) (fun _ _ _ h => h) (Or.inl ⟨by rfl, ?_⟩) (by assumption) ?_
      · intro w9 hSw
        exact y_load rfl rfl hSw.load
      simp only [Act.put, List.setIfInBounds_toArray, List.set_cons_zero, List.set_cons_succ]
      refine wpAnyH_take (i := 12) (oi := { dst := some 50, op := _, type := _, pos := _, after := _, guard := _ }) (v := .pointer (some ⟨G, 0, none⟩)) rfl (by kernel_rfl) (by kernel_rfl) (by kernel_rfl) (fun _ _ _ h => h) (Or.inl ⟨by rfl, ?_⟩) (by assumption) ?_
      · intro w9 hSw
        exact y_move rfl rfl
      simp only [Act.put, List.setIfInBounds_toArray, List.set_cons_zero, List.set_cons_succ]
      refine wpAnyH_take (i := 13) (oi := { dst := some 51, op := _, type := _, pos := _, after := _, guard := _ }) (v := .slice (some ⟨b, off, none⟩) len cap) rfl (by kernel_rfl) (by kernel_rfl) (by kernel_rfl) (fun _ _ _ h => h) (Or.inl ⟨by rfl, ?_⟩) (by assumption) ?_
      · intro w9 hSw
        exact y_move rfl rfl
      simp only [Act.put, List.setIfInBounds_toArray, List.set_cons_zero, List.set_cons_succ]
      refine wpAnyH_take (i := 14) (oi := { dst := some 52, op := _, type := _, pos := _, after := _, guard := _ }) (v := .int .i64 (k : Int)) rfl (by kernel_rfl) (by kernel_rfl) (by kernel_rfl) (fun _ _ _ h => h) (Or.inl ⟨by rfl, ?_⟩) (by assumption) ?_
      · intro w9 hSw
        exact y_move rfl rfl
      simp only [Act.put, List.setIfInBounds_toArray, List.set_cons_zero, List.set_cons_succ]
      refine wpAnyH_take (i := 15) (oi := { dst := some 53, op := _, type := _, pos := _, after := _, guard := _ }) (v := .pointer (some ⟨b, off + k * 17, none⟩)) rfl (by kernel_rfl) (by kernel_rfl) (by kernel_rfl) (fun _ _ _ h => h) (Or.inl ⟨by rfl, ?_⟩) (by assumption) ?_
      · intro w9 hSw
        exact y_index rfl rfl rfl (run_indexAt_mops _ _ _ _ _ _ hkl)
      simp only [Act.put, List.setIfInBounds_toArray, List.set_cons_zero, List.set_cons_succ]
      refine wpAnyH_take (i := 16) (oi := { dst := some 54, op := _, type := _, pos := _, after := _, guard := _ }) (v := .pointer (some ⟨b, off + k * 17, none⟩)) rfl (by kernel_rfl) (by kernel_rfl) (by kernel_rfl) (fun _ _ _ h => h) (Or.inl ⟨by rfl, ?_⟩) (by assumption) ?_
      · intro w9 hSw
        exact y_field rfl rfl (field_o0 _ _ _)
      simp only [Act.put, List.setIfInBounds_toArray, List.set_cons_zero, List.set_cons_succ]
      refine wpAnyH_take (i := 17) (oi := { dst := some 55, op := _, type := _, pos := _, after := _, guard := _ }) (v := .int .i64 (O k).1) rfl (by kernel_rfl) (by kernel_rfl) (by kernel_rfl) (fun _ _ _ h => h) (Or.inl ⟨by rfl, ?_⟩) (by assumption) ?_
      · intro w9 hSw
        exact y_load rfl rfl (load_int_run hSw.num)
      simp only [Act.put, List.setIfInBounds_toArray, List.set_cons_zero, List.set_cons_succ]
      refine wpAnyH_take (i := 18) (oi := { dst := some 56, op := _, type := _, pos := _, after := _, guard := _ }) (v := .slice (some ⟨b, off, none⟩) len cap) rfl (by kernel_rfl) (by kernel_rfl) (by kernel_rfl) (fun _ _ _ h => h) (Or.inl ⟨by rfl, ?_⟩) (by assumption) ?_
      · intro w9 hSw
        exact y_move rfl rfl
      simp only [Act.put, List.setIfInBounds_toArray, List.set_cons_zero, List.set_cons_succ]
      refine wpAnyH_take (i := 19) (oi := { dst := some 57, op := _, type := _, pos := _, after := _, guard := _ }) (v := .int .i64 (k : Int)) rfl (by kernel_rfl) (by kernel_rfl) (by kernel_rfl) (fun _ _ _ h => h) (Or.inl ⟨by rfl, ?_⟩) (by assumption) ?_
      · intro w9 hSw
        exact y_move rfl rfl
      simp only [Act.put, List.setIfInBounds_toArray, List.set_cons_zero, List.set_cons_succ]
      refine wpAnyH_take (i := 20) (oi := { dst := some 58, op := _, type := _, pos := _, after := _, guard := _ }) (v := .pointer (some ⟨b, off + k * 17, none⟩)) rfl (by kernel_rfl) (by kernel_rfl) (by kernel_rfl) (fun _ _ _ h => h) (Or.inl ⟨by rfl, ?_⟩) (by assumption) ?_
      · intro w9 hSw
        exact y_index rfl rfl rfl (run_indexAt_mops _ _ _ _ _ _ hkl)
      simp only [Act.put, List.setIfInBounds_toArray, List.set_cons_zero, List.set_cons_succ]
      refine wpAnyH_take (i := 21) (oi := { dst := some 59, op := _, type := _, pos := _, after := _, guard := _ }) (v := .pointer (some ⟨b, off + k * 17 + 1, none⟩)) rfl (by kernel_rfl) (by kernel_rfl) (by kernel_rfl) (fun _ _ _ h => h) (Or.inl ⟨by rfl, ?_⟩) (by assumption) ?_
      · intro w9 hSw
        exact y_field rfl rfl (field_o1 _ _ _)
      simp only [Act.put, List.setIfInBounds_toArray, List.set_cons_zero, List.set_cons_succ]
      refine wpAnyH_take (i := 22) (oi := { dst := some 60, op := _, type := _, pos := _, after := _, guard := _ }) (v := .agg (vals ((O k).2))) rfl (by kernel_rfl) (by kernel_rfl) (by kernel_rfl) (fun _ _ _ h => h) (Or.inl ⟨by rfl, ?_⟩) (by assumption) ?_
      · intro w9 hSw
        exact y_load rfl rfl hSw.load
      simp only [Act.put, List.setIfInBounds_toArray, List.set_cons_zero, List.set_cons_succ]
      clear hHeld
      refine wpAnyH_ready (rs := [11]) (by kernel_rfl) (by simp) ?_
      refine AllReadyH.cons (o := { dst := some 49, op := _, type := _, pos := _, after := _, guard := _ }) rfl (fun K hK => ?_) AllReadyH.nil
      rw [if_pos (by rfl)]
      refine y_call (f := 11) (xs := [.tmp 38, .tmp 43, .tmp 48]) (vs := [.pointer (some ⟨G, 0, none⟩), .int .i64 (O k).1, .agg (vals ((O k).2))]) rfl rfl (enters_msee _ _) (msee_mat G n R _ _ hv16 wr.drew hM.drew) ?_
      rintro ex w4 ⟨rfl, hM4, hC4⟩
      refine ⟨_, rfl, ?_⟩
      have hO4 : IsMop w4 b (off + k * 17) (O k) := hOd.same (hC4.block b hbl (by omega))
      refine hK.out _ _ hO4 (fun hHeld => ?_)
      clear hK K
      simp only [Act.put, List.setIfInBounds_toArray, List.set_cons_zero, List.set_cons_succ]
      clear hHeld
      refine wpAnyH_ready (rs := [23]) (by kernel_rfl) (by simp) ?_
      refine AllReadyH.cons (o := { dst := some 61, op := _, type := _, pos := _, after := _, guard := _ }) rfl (fun K hK => ?_) AllReadyH.nil
      rw [if_pos (by rfl)]
      refine y_call (f := 11) (xs := [.tmp 50, .tmp 55, .tmp 60]) (vs := [.pointer (some ⟨G, 0, none⟩), .int .i64 (O k).1, .agg (vals ((O k).2))]) rfl rfl (enters_msee _ _) (msee_mat G n (seeR n R (O k).1 (O k).2) _ _ hv16 w4 hM4) ?_
      rintro ex w5 ⟨rfl, hM5, hC5⟩
      refine ⟨_, rfl, ?_⟩
      have hO5 : IsMop w5 b (off + k * 17) (O k) := hO4.same (hC5.block b (Nat.lt_of_lt_of_le hbl hC4.size) (by omega))
      refine hK.out _ _ hO5 (fun hHeld => ?_)
      clear hK K
      simp only [Act.put, List.setIfInBounds_toArray, List.set_cons_zero, List.set_cons_succ]
      refine wpAnyH_take (i := 24) (oi := { dst := some 62, op := _, type := _, pos := _, after := _, guard := _ }) (v := .bool false) rfl (by kernel_rfl) (by kernel_rfl) (by kernel_rfl) (fun _ _ _ h => h) (Or.inl ⟨by rfl, ?_⟩) (by assumption) ?_
      · intro w9 hSw
        exact y_bin rfl rfl rfl (eqGuard_err _) (neq_err_same _ _)
      simp only [Act.put, List.setIfInBounds_toArray, List.set_cons_zero, List.set_cons_succ]
      refine wpAnyH_done (by kernel_rfl) ?_ _
      refine NoPanic.normal ?_
      clear hHeld
      have hMQ5 : Mat w5 H n Q := (hMQ.drew.chg hC4 (by omega)).chg hC5 (by omega)
      have hMR5 : Mat w5 G n (seeR n (seeR n R (O k).1 (O k).2) (O k).1 (O k).2) := hM5
      have hBw : Below w.heap.size wr.drew w5 := (hC4.below (by omega) hB.size).trans (hC5.below (by omega) (Nat.le_trans hB.size hC4.size))
      have hOA5 : ∀ i, i < len → IsMop w5 b (off + i * 17) (O i) := fun i hi => ((hOA i hi).same (w' := wr.drew) rfl).same (hBw.block b hbF)
      have hB5 : Below w.heap.size w w5 := hB.drew.trans hBw
      have HR2 : Hid (Sup n O (fun j => j < k + 1) (seeR n (seeR n R (O k).1 (O k).2) (O k).1 (O k).2)) := (HR.out.see (P' := fun j => j < k + 1) hv16 (fun z => by omega)).see hv16 (fun z => by omega)
      have hbl5 : b < w5.heap.size := Nat.lt_of_lt_of_le hbF hB5.size
      generalize seeR n (seeR n R (O k).1 (O k).2) (O k).1 (O k).2 = R2 at *
      clear hM5 hC5 hO5 hM4 hC4 hO4 hOd hM hMQ hOs hB hBw hOA hv16 HR hbl hw1 hw2
      have hO := hOA5 m hml
      have hbG : b ≠ H := by omega
      have hM := hMQ5
      have hbl := hbl5
      go_wp2_with fail
      have hOd : IsMop w5.drew b (off + m * 17) (O m) := hO.same rfl
      refine wp_region_noPanic ?_
      refine wp_region_held_drew (S := fun W' : World => IsMop W' b (off + m * 17) (O m)) (by kernel_rfl) hOd (fun hHeld => ?_)
      refine wpAnyH_take (i := 0) (oi := { dst := some 63, op := _, type := _, pos := _, after := _, guard := _ }) (v := .pointer (some ⟨H, 0, none⟩)) rfl (by kernel_rfl) (by kernel_rfl) (by kernel_rfl) (fun _ _ _ h => h) (Or.inl ⟨by rfl, ?_⟩) (by assumption) ?_
      · intro w9 hSw
        exact y_move rfl rfl
      simp only [Act.put, List.setIfInBounds_toArray, List.set_cons_zero, List.set_cons_succ]
      refine wpAnyH_take (i := 1) (oi := { dst := some 64, op := _, type := _, pos := _, after := _, guard := _ }) (v := .slice (some ⟨b, off, none⟩) len cap) rfl (by kernel_rfl) (by kernel_rfl) (by kernel_rfl) (fun _ _ _ h => h) (Or.inl ⟨by rfl, ?_⟩) (by assumption) ?_
      · intro w9 hSw
        exact y_move rfl rfl
      simp only [Act.put, List.setIfInBounds_toArray, List.set_cons_zero, List.set_cons_succ]
      refine wpAnyH_take (i := 2) (oi := { dst := some 65, op := _, type := _, pos := _, after := _, guard := _ }) (v := .int .i64 (m : Int)) rfl (by kernel_rfl) (by kernel_rfl) (by kernel_rfl) (fun _ _ _ h => h) (Or.inl ⟨by rfl, ?_⟩) (by assumption) ?_
      · intro w9 hSw
        exact y_move rfl rfl
      simp only [Act.put, List.setIfInBounds_toArray, List.set_cons_zero, List.set_cons_succ]
      refine wpAnyH_take (i := 3) (oi := { dst := some 66, op := _, type := _, pos := _, after := _, guard := _ }) (v := .pointer (some ⟨b, off + m * 17, none⟩)) rfl (by kernel_rfl) (by kernel_rfl) (by kernel_rfl) (fun _ _ _ h => h) (Or.inl ⟨by rfl, ?_⟩) (by assumption) ?_
      · intro w9 hSw
        exact y_index rfl rfl rfl (run_indexAt_mops _ _ _ _ _ _ hml)
      simp only [Act.put, List.setIfInBounds_toArray, List.set_cons_zero, List.set_cons_succ]
      refine wpAnyH_take (i := 4) (oi := { dst := some 67, op := _, type := _, pos := _, after := _, guard := _ }) (v := .pointer (some ⟨b, off + m * 17, none⟩)) rfl (by kernel_rfl) (by kernel_rfl) (by kernel_rfl) (fun _ _ _ h => h) (Or.inl ⟨by rfl, ?_⟩) (by assumption) ?_
      · intro w9 hSw
        exact y_field rfl rfl (field_o0 _ _ _)
      simp only [Act.put, List.setIfInBounds_toArray, List.set_cons_zero, List.set_cons_succ]
      refine wpAnyH_take (i := 5) (oi := { dst := some 68, op := _, type := _, pos := _, after := _, guard := _ }) (v := .int .i64 (O m).1) rfl (by kernel_rfl) (by kernel_rfl) (by kernel_rfl) (fun _ _ _ h => h) (Or.inl ⟨by rfl, ?_⟩) (by assumption) ?_
      · intro w9 hSw
        exact y_load rfl rfl (load_int_run hSw.num)
      simp only [Act.put, List.setIfInBounds_toArray, List.set_cons_zero, List.set_cons_succ]
      refine wpAnyH_take (i := 6) (oi := { dst := some 69, op := _, type := _, pos := _, after := _, guard := _ }) (v := .slice (some ⟨b, off, none⟩) len cap) rfl (by kernel_rfl) (by kernel_rfl) (by kernel_rfl) (fun _ _ _ h => h) (Or.inl ⟨by rfl, ?_⟩) (by assumption) ?_
      · intro w9 hSw
        exact y_move rfl rfl
      simp only [Act.put, List.setIfInBounds_toArray, List.set_cons_zero, List.set_cons_succ]
      refine wpAnyH_take (i := 7) (oi := { dst := some 70, op := _, type := _, pos := _, after := _, guard := _ }) (v := .int .i64 (m : Int)) rfl (by kernel_rfl) (by kernel_rfl) (by kernel_rfl) (fun _ _ _ h => h) (Or.inl ⟨by rfl, ?_⟩) (by assumption) ?_
      · intro w9 hSw
        exact y_move rfl rfl
      simp only [Act.put, List.setIfInBounds_toArray, List.set_cons_zero, List.set_cons_succ]
      refine wpAnyH_take (i := 8) (oi := { dst := some 71, op := _, type := _, pos := _, after := _, guard := _ }) (v := .pointer (some ⟨b, off + m * 17, none⟩)) rfl (by kernel_rfl) (by kernel_rfl) (by kernel_rfl) (fun _ _ _ h => h) (Or.inl ⟨by rfl, ?_⟩) (by assumption) ?_
      · intro w9 hSw
        exact y_index rfl rfl rfl (run_indexAt_mops _ _ _ _ _ _ hml)
      simp only [Act.put, List.setIfInBounds_toArray, List.set_cons_zero, List.set_cons_succ]
      refine wpAnyH_take (i := 9) (oi := { dst := some 72, op := _, type := _, pos := _, after := _, guard := _ }) (v := .pointer (some ⟨b, off + m * 17 + 1, none⟩)) rfl (by kernel_rfl) (by kernel_rfl) (by kernel_rfl) (fun _ _ _ h => h) (Or.inl ⟨by rfl, ?_⟩) (by assumption) ?_
      · intro w9 hSw
        exact y_field rfl rfl (field_o1 _ _ _)
      simp only [Act.put, List.setIfInBounds_toArray, List.set_cons_zero, List.set_cons_succ]
      refine wpAnyH_take (i := 10) (oi := { dst := some 73, op := _, type := _, pos := _, after := _, guard := _ }) (v := .agg (vals ((O m).2))) rfl (by kernel_rfl) (by kernel_rfl) (by kernel_rfl) (fun _ _ _ h => h) (Or.inl ⟨by rfl, ?_⟩) (by assumption) ?_
      · intro w9 hSw
        exact y_load rfl rfl hSw.load
      simp only [Act.put, List.setIfInBounds_toArray, List.set_cons_zero, List.set_cons_succ]
      clear hHeld
      refine wpAnyH_ready (rs := [11]) (by kernel_rfl) (by simp) ?_
      refine AllReadyH.cons (o := { dst := some 74, op := _, type := _, pos := _, after := _, guard := _ }) rfl (fun K hK => ?_) AllReadyH.nil
      rw [if_pos (by rfl)]
      refine y_call (f := 11) (xs := [.tmp 63, .tmp 68, .tmp 73]) (vs := [.pointer (some ⟨H, 0, none⟩), .int .i64 (O m).1, .agg (vals ((O m).2))]) rfl rfl (enters_msee _ _) (msee_mat H n Q _ _ hO.len w5.drew hM.drew) ?_
      rintro ex w6 ⟨rfl, hM4, hC4⟩
      refine ⟨_, rfl, ?_⟩
      have hO4 : IsMop w6 b (off + m * 17) (O m) := hOd.same (hC4.block b hbl hbG)
      refine hK.out _ _ hO4 (fun hHeld => ?_)
      clear hK K
      simp only [Act.put, List.setIfInBounds_toArray, List.set_cons_zero, List.set_cons_succ]
      refine wpAnyH_done (by kernel_rfl) ?_ _
      refine NoPanic.normal ?_
      clear hHeld
      have hC6 := hC4
      have hBw : Below w.heap.size w5.drew w6 := hC6.below (by omega) hB5.size
      have HM : Hid (Mat w6 G n R2) := hMR5.drew.chg hC6 (by omega)
      have HMQ : Hid (Mat w6 H n (seeR n Q (O m).1 (O m).2)) := hM4
      have HO : Hid (MopsB w6 (some ⟨b, off, none⟩) len w.heap.size O) := ⟨.inr ⟨b, off, rfl, hbF, fun i hi => ((hOA5 i hi).same (w' := w5.drew) rfl).same (hBw.block b hbF)⟩⟩
      have HB : Hid (Below w.heap.size w w6) := hB5.drew.trans hBw
      have HQ2 : Hid (Sup n O (fun j => len - (k + 1) ≤ j ∧ j < len) (seeR n Q (O m).1 (O m).2)) := HQ.out.see hO.len (fun z => by have := Hm.out; omega)
      generalize seeR n Q (O m).1 (O m).2 = Q2 at *
      clear hM4 hC4 hO4 hOd hO hM hMQ5 hMR5 hB5 hBw hOA5 hC6 HQ Hm hml
      go_wp2
      go_roundw
      case rel => exact ⟨k + 1, R2, Q2, by omega, by go_num, HR2.out, HQ2.out, HM.out, HMQ.out, HO.out, HB.out⟩
      case measure => simp [intOf]; omega
    · obtain rfl : k = len := by omega
      obtain rfl : R = Q := HR.out.uniq HQ.out (fun z => by omega)
      have hlen := hM.grid.len
      clear HR HQ hOs
      go_wp2_with fail
      go_loopw [76] (fun i wr => ∃ j : Nat, j ≤ 16 ∧ i = .int .i64 (j : Int) ∧ Mat wr G n R ∧ Mat wr H n R ∧ Below w.heap.size w wr) (fun i _ => 16 - (intOf i).toNat)
      case atStart => exact ⟨0, Nat.zero_le _, rfl, hM, hMQ, hB⟩
      case round =>
        clear hM hMQ hB
        obtain ⟨j, hj, rfl, hM, hMQ, hB⟩ := hrel
        by_cases hj16 : j < 16
        · have h1 := mrow_any _ n R (j : Int) wr hM.mp
          have hX : (rowE n R (j : Int)).length = 16 := rowE_len hlen
          have h2 := fun W (h : Mat W H n R) => mrow_any _ n R (j : Int) W h.mp
          have pv := plain_vec
          generalize rowE n R (j : Int) = X at *
          have q := fun W => run_equalIn_vec W 9998 X X hX hX
          go_wp2_with fail
          refine Calls.mono h1 ?_
          rintro e w4 ⟨rfl, hb4⟩
          have hM4 := hM.below hb4 hM.lt
          have hMQ4 := hMQ.below hb4 hMQ.lt
          have hB4 : Below w.heap.size w w4 := hB.trans (hb4.mono hB.size)
          have h3 := h2 w4 hMQ4
          clear hM hMQ hB hb4 h1 h2
          go_wp2_with fail
          refine Calls.mono h3 ?_
          rintro e w5 ⟨rfl, hb5⟩
          have HM : Hid (Mat w5 G n R) := hM4.below hb5 hM4.lt
          have HMQ : Hid (Mat w5 H n R) := hMQ4.below hb5 hMQ4.lt
          have HB : Hid (Below w.heap.size w w5) := hB4.trans (hb5.mono hB4.size)
          clear hM4 hMQ4 hB4 hb5 h3
          go_wp2
          go_roundw
          case rel => exact ⟨j + 1, by omega, by go_num, HM.out, HMQ.out, HB.out⟩
          case measure => simp [intOf]; omega
        · obtain rfl : j = 16 := by omega
          have h1 := mstab_any _ n R wr hM.mp
          have hX : (metE n R).length = 16 := metE_len hlen
          have h2 := fun W (h : Mat W H n R) => mstab_any _ n R W h.mp
          have pv := plain_vec
          generalize metE n R = X at *
          have q := fun W => run_equalIn_vec W 9998 X X hX hX
          go_wp2_with fail
          refine Calls.mono h1 ?_
          rintro e w4 ⟨rfl, hb4⟩
          have hMQ4 := hMQ.below hb4 hMQ.lt
          have hB4 : Below w.heap.size w w4 := hB.trans (hb4.mono hB.size)
          have h3 := h2 w4 hMQ4
          clear hM hMQ hB hb4 h1 h2
          go_wp2_with fail
          refine Calls.mono h3 ?_
          rintro e w5 ⟨rfl, hb5⟩
          have HB : Hid (Below w.heap.size w w5) := hB4.trans (hb5.mono hB4.size)
          clear hMQ4 hB4 hb5 h3
          go_wp2
          go_ret
          exact ⟨rfl, HB.out⟩
theorem lorder_walk (x : Int) (a : Option Addr) (len cap : Nat) (w : World) (O : Nat → Int × List Int) (hO : Mops w a len O) : Calls Try.prog 5 #[.int .i64 x, .slice a len cap] w fun e w' => e = .returned (.bool true) ∧ Below w.heap.size w w' := by
  by_cases hl : 300 < len
  · exact lorder_far x a len cap w hl
  · exact lorder_go x a len cap w O hl hO
end Go.Proofs.Ytcndgbepdgjkeaa
