/-
  MatrixRises, the walk.
-/
import Derived.Test.YtcndgbepdgjkeaaMwh
import Derived.Test.YtcndgbepdgjkeaaKvb
import Derived.Deep.Cut
import Derived.Deep.CutRange
namespace Go.Proofs.Ytcndgbepdgjkeaa
set_option maxRecDepth 100000
open Go.RowKit

theorem eqGuard_vv (w : World) {op : BinOp} {x y : Operand} (a b : List Int) : (eqGuard op 24 x y (.agg (vals a)) (.agg (vals b))).run Try.prog w = .ok () w := by
  have := plain_vec
  go_simp
theorem run_neq_not (w : World) {a b : List Int} (h : a ≠ b) (la : a.length = 16) (lb : b.length = 16) : (binOp .neq 24 (.agg (vals a)) (.agg (vals b))).run Try.prog w = .ok (.bool true) w := by
  rw [run_neq_vec w a b la lb, decide_eq_false h]; rfl
theorem exec_build0 {o : Oper} {a : Act} {w : World} (ho : o.op = .build 24 #[]) : (execOp a.eval o).run Try.prog w = .ok (.value (.agg (vals zeros))) w := by
  have hr := build_vv0 w
  unfold execOp
  simp only [ho, List.map_toArray, List.map_nil, Sem.run_bind, Sem.run_pure, Result.andThen_ok, hr]

set_option maxHeartbeats 1000000 in
theorem lrises_far (x : Int) (a : Option Addr) (len cap : Nat) (s : List Int) (w : World) (hl : 300 < len) : Calls Try.prog 4 #[.int .i64 x, .slice a len cap, .agg (vals s)] w fun e w' => e = .returned (.bool true) ∧ Below w.heap.size w w' := by
  have hS0 := lies_new w s
  have hb0 : Below w.heap.size w (w.alloc (.cells (vals s) 24)) := (Below.refl _ w).alloc (Nat.le_refl _) _
  have hl0 : w.heap.size < (w.alloc (.cells (vals s) 24)).heap.size := by simp
  generalize hW0 : w.alloc (.cells (vals s) 24) = W0 at *
  have hA := mawake_any W0
  go_enter Try.func4, Try.ntmps4
  go_wp2_with fail
  refine Calls.mono hA ?_
  rintro e w1 ⟨rfl, hb1⟩
  have hB1 : Below w.heap.size w w1 := hb0.trans (hb1.mono hb0.size)
  have hA2 := mawake_any w1
  have HB1 : Hid (Below w.heap.size w w1) := hB1
  clear hS0 hb0 hb1 hA hl0 hB1
  go_wp2_with fail
  refine Calls.mono hA2 ?_
  rintro e w3 ⟨rfl, hb3⟩
  have HB3 : Hid (Below w.heap.size w w3) := HB1.out.trans (hb3.mono HB1.out.size)
  clear hb3 hA2
  go_wp2
  go_ret
  exact ⟨rfl, HB3.out⟩
set_option maxHeartbeats 8000000 in
theorem lrises_go (x : Int) (a : Option Addr) (len cap : Nat) (s : List Int) (hs : s.length = 16) (w : World) (O : Nat → Int × List Int) (hl : ¬ 300 < len) (hO : Mops w a len O) : Calls Try.prog 4 #[.int .i64 x, .slice a len cap, .agg (vals s)] w fun e w' => e = .returned (.bool true) ∧ Below w.heap.size w w' := by
  have hS0 := lies_new w s
  have hb0 : Below w.heap.size w (w.alloc (.cells (vals s) 24)) := (Below.refl _ w).alloc (Nat.le_refl _) _
  have hl0 : w.heap.size < (w.alloc (.cells (vals s) 24)).heap.size := by simp
  generalize hW0 : w.alloc (.cells (vals s) 24) = W0 at *
  have hA := mawake_any W0
  have hd : decide ((300 : Int) < (len : Int)) = false := decide_eq_false (by omega)
  have hO0 := hO.bound
  go_enter Try.func4, Try.ntmps4
  go_wp2_with fail
  refine Calls.mono hA ?_
  rintro e w1 ⟨rfl, hb1⟩
  have hB1 : Below w.heap.size w w1 := hb0.trans (hb1.mono hb0.size)
  have hS1 := hS0.below hb1 hl0
  have hN := mnew_any x w1
  have hM2 := mat_new w1 (clampN x) (clampN_le x)
  have hB3 : Below w.heap.size w (w1.alloc (.cells (mcells (clampN x)) 48)) := hB1.alloc hB1.size _
  have hS3 := hS1.alloc (.cells (mcells (clampN x)) 48)
  have hFG : w.heap.size < w1.heap.size := hS1.lt
  have hO3 := hO0.below hB3
  generalize hG : w1.heap.size = G at *
  generalize hW3 : w1.alloc (.cells (mcells (clampN x)) 48) = W3 at *
  have hcn := clampN_le x
  have hcx : max 1 (min x 16) = (clampN x : Int) := by unfold clampN; omega
  obtain ⟨y, hy⟩ : ∃ y, min x 16 = y := ⟨_, rfl⟩
  rw [hy] at hcx
  generalize clampN x = n at *
  clear hb1 hB1 hS1 hO0 hO hS0 hb0 hA hl0 hW0
  go_wp2_with fail
  refine Calls.mono hN ?_
  rintro e w3 ⟨rfl, hw⟩
  obtain rfl := hw.symm
  clear hw hN hW3 hG
  go_wp2_with fail
  clear hy hcx
  go_loopw [32] (fun i wr => ∃ (k : Nat) (R : Nat → List Int), k ≤ len ∧ i = .int .i64 (k : Int) ∧ Mat wr G n R ∧ Lies wr w.heap.size s ∧ MopsB wr a len w.heap.size O ∧ Below w.heap.size w wr) (fun i _ => len - (intOf i).toNat)
  case atStart => exact ⟨0, zeroR, Nat.zero_le _, rfl, hM2, hS3, hO3, hB3⟩
  case round =>
    clear hM2 hS3 hO3 hB3
    obtain ⟨k, R, hk, rfl, hM, hS, hOs, hB⟩ := hrel
    by_cases hkl : k < len
    · obtain ⟨b, off, rfl, hbF, hO⟩ := hOs.at hkl
      have hbG : b ≠ G := by omega
      have hGl : G < wr.heap.size := hM.lt
      have hbl : b < wr.heap.size := Nat.lt_of_lt_of_le hbF hB.size
      have h16 := hM.grid.len
      have hv16 := hO.len
      have hM16 : (metE n R).length = 16 := metE_len h16
      have hX16 : (rowE n R (O k).1).length = 16 := rowE_len h16
      go_upto_region 10 with (fail)
      go_cut [10, 11] from 35 to 43 (fun s10 s11 wx => ∃ D1 D2 : Nat, s10 = .pointer (some ⟨D1, 0, none⟩) ∧ s11 = .pointer (some ⟨D2, 0, none⟩) ∧ Aside (Lies wx D1 (metE n R) ∧ Lies wx D2 (rowE n R (O k).1) ∧ D1 ≠ D2 ∧ wr.heap.size ≤ D1 ∧ wr.heap.size ≤ D2 ∧ Below wr.heap.size wr wx))
      case first =>
        obtain ⟨W0, hW0⟩ : ∃ W0, W0 = wr.drew := ⟨_, rfl⟩
        have hOd : IsMop W0 b (off + k * 17) (O k) := by rw [hW0]; exact hO.same rfl
        have hM0 : Mat W0 G n R := by rw [hW0]; exact hM.drew
        have hbl : b < W0.heap.size := by rw [hW0]; exact hbl
        have hb00 : Below W0.heap.size W0 W0 := Below.refl _ _
        have hwd : Below wr.heap.size wr W0 := by rw [hW0]; exact (Below.refl _ wr).drew
        have hsz : W0.heap.size = wr.heap.size := by rw [hW0]; rfl
        refine wp_region_noPanic ?_
        refine wp_region_held_drew (S := fun W' : World => IsMop W' b (off + k * 17) (O k)) (by kernel_rfl) (by rw [← hW0]; exact hOd) (fun hHeld => ?_)
        rw [← hW0] at hHeld ⊢
        refine wpAnyH_take (i := 0) (oi := { dst := some 35, op := _, type := _, pos := _, after := _, guard := _ }) (v := .pointer (some ⟨G, 0, none⟩)) rfl (by kernel_rfl) (by kernel_rfl) (by kernel_rfl) (fun _ _ _ h => h) (Or.inl ⟨by rfl, ?_⟩) (by assumption) ?_
        · intro w9 hSw
          exact y_move rfl rfl
        simp only [Act.put, List.setIfInBounds_toArray, List.set_cons_zero, List.set_cons_succ]
        refine wpAnyH_take (i := 2) (oi := { dst := some 37, op := _, type := _, pos := _, after := _, guard := _ }) (v := .pointer (some ⟨G, 0, none⟩)) rfl (by kernel_rfl) (by kernel_rfl) (by kernel_rfl) (fun _ _ _ h => h) (Or.inl ⟨by rfl, ?_⟩) (by assumption) ?_
        · intro w9 hSw
          exact y_move rfl rfl
        simp only [Act.put, List.setIfInBounds_toArray, List.set_cons_zero, List.set_cons_succ]
        refine wpAnyH_take (i := 3) (oi := { dst := some 38, op := _, type := _, pos := _, after := _, guard := _ }) (v := .slice (some ⟨b, off, none⟩) len cap) rfl (by kernel_rfl) (by kernel_rfl) (by kernel_rfl) (fun _ _ _ h => h) (Or.inl ⟨by rfl, ?_⟩) (by assumption) ?_
        · intro w9 hSw
          exact y_move rfl rfl
        simp only [Act.put, List.setIfInBounds_toArray, List.set_cons_zero, List.set_cons_succ]
        refine wpAnyH_take (i := 4) (oi := { dst := some 39, op := _, type := _, pos := _, after := _, guard := _ }) (v := .int .i64 (k : Int)) rfl (by kernel_rfl) (by kernel_rfl) (by kernel_rfl) (fun _ _ _ h => h) (Or.inl ⟨by rfl, ?_⟩) (by assumption) ?_
        · intro w9 hSw
          exact y_move rfl rfl
        simp only [Act.put, List.setIfInBounds_toArray, List.set_cons_zero, List.set_cons_succ]
        refine wpAnyH_take (i := 5) (oi := { dst := some 40, op := _, type := _, pos := _, after := _, guard := _ }) (v := .pointer (some ⟨b, off + k * 17, none⟩)) rfl (by kernel_rfl) (by kernel_rfl) (by kernel_rfl) (fun _ _ _ h => h) (Or.inl ⟨by rfl, ?_⟩) (by assumption) ?_
        · intro w9 hSw
          exact y_index rfl rfl rfl (run_indexAt_mops _ _ _ _ _ _ hkl)
        simp only [Act.put, List.setIfInBounds_toArray, List.set_cons_zero, List.set_cons_succ]
        refine wpAnyH_take (i := 6) (oi := { dst := some 41, op := _, type := _, pos := _, after := _, guard := _ }) (v := .pointer (some ⟨b, off + k * 17, none⟩)) rfl (by kernel_rfl) (by kernel_rfl) (by kernel_rfl) (fun _ _ _ h => h) (Or.inl ⟨by rfl, ?_⟩) (by assumption) ?_
        · intro w9 hSw
          exact y_field rfl rfl (field_o0 _ _ _)
        simp only [Act.put, List.setIfInBounds_toArray, List.set_cons_zero, List.set_cons_succ]
        refine wpAnyH_take (i := 7) (oi := { dst := some 42, op := _, type := _, pos := _, after := _, guard := _ }) (v := .int .i64 (O k).1) rfl (by kernel_rfl) (by kernel_rfl) (by kernel_rfl) (fun _ _ _ h => h) (Or.inl ⟨by rfl, ?_⟩) (by assumption) ?_
        · intro w9 hSw
          exact y_load rfl rfl (load_int_run hSw.num)
        simp only [Act.put, List.setIfInBounds_toArray, List.set_cons_zero, List.set_cons_succ]
        clear hHeld
        refine wpAnyH_ready (rs := [1, 9, 10]) (by kernel_rfl) (by simp) ?_
        refine AllReadyH.cons (o := { dst := some 36, op := _, type := _, pos := _, after := _, guard := _ }) rfl (fun K hK => ?_) ?_
        · rw [if_pos (by rfl)]
          refine y_call (f := 13) (xs := [.tmp 35]) (vs := [.pointer (some ⟨G, 0, none⟩)]) rfl rfl (enters_mstab _ _) (mstab_any _ n R W0 (hM0.below hb00 hM0.lt).mp) ?_
          rintro ex wq1 ⟨rfl, hg1⟩
          refine ⟨_, rfl, ?_⟩
          have hb1 : Below W0.heap.size W0 wq1 := hb00.trans (hg1.mono hb00.size)
          have hO1 : IsMop wq1 b (off + k * 17) (O k) := hOd.same (hb1.block b hbl)
          refine hK.out _ _ hO1 (fun hHeld => ?_)
          clear hK K
          simp only [Act.put, List.setIfInBounds_toArray, List.set_cons_zero, List.set_cons_succ]
          clear hHeld
          refine wpAnyH_ready (rs := [8, 9, 10]) (by kernel_rfl) (by simp) ?_
          refine AllReadyH.cons (o := { dst := some 43, op := _, type := _, pos := _, after := _, guard := _ }) rfl (fun K hK => ?_) ?_
          · rw [if_pos (by rfl)]
            refine y_call (f := 17) (xs := [.tmp 37, .tmp 42]) (vs := [.pointer (some ⟨G, 0, none⟩), .int .i64 (O k).1]) rfl rfl (enters_mrow _ _) (mrow_any _ n R (O k).1 wq1 (hM0.below hb1 hM0.lt).mp) ?_
            rintro ex wq2 ⟨rfl, hg2⟩
            refine ⟨_, rfl, ?_⟩
            have hb2 : Below W0.heap.size W0 wq2 := hb1.trans (hg2.mono hb1.size)
            have hO2 : IsMop wq2 b (off + k * 17) (O k) := hOd.same (hb2.block b hbl)
            refine hK.out _ _ hO2 (fun hHeld => ?_)
            clear hK K
            simp only [Act.put, List.setIfInBounds_toArray, List.set_cons_zero, List.set_cons_succ]
            clear hHeld
            refine wpAnyH_ready (rs := [9, 10]) (by kernel_rfl) (by simp) ?_
            refine AllReadyH.cons (o := { dst := some 10, op := _, type := _, pos := _, after := _, guard := _ }) rfl (fun K hK => ?_) ?_
            · rw [if_pos (by rfl)]
              obtain ⟨D1, wq3, hr3, hl3, hg3, hd3⟩ := vv_alloc wq2
              refine y_alloc (ty := 24) rfl hr3 ?_
              have hb3 : Below W0.heap.size W0 wq3 := hb2.trans (hg3.mono hb2.size)
              have loD1 : W0.heap.size ≤ D1 := Nat.le_trans hb2.size hd3
              have hO3 : IsMop wq3 b (off + k * 17) (O k) := hOd.same (hb3.block b hbl)
              refine hK.out _ _ hO3 (fun hHeld => ?_)
              clear hK K
              simp only [Act.put, List.setIfInBounds_toArray, List.set_cons_zero, List.set_cons_succ]
              clear hHeld
              refine wpAnyH_ready (rs := [10]) (by kernel_rfl) (by simp) ?_
              refine AllReadyH.cons (o := { dst := some 11, op := _, type := _, pos := _, after := _, guard := _ }) rfl (fun K hK => ?_) AllReadyH.nil
              rw [if_pos (by rfl)]
              obtain ⟨D2, wq4, hr4, hl4, hg4, hd4⟩ := vv_alloc wq3
              refine y_alloc (ty := 24) rfl hr4 ?_
              have hb4 : Below W0.heap.size W0 wq4 := hb3.trans (hg4.mono hb3.size)
              have hlD14 : Lies wq4 D1 zeros := hl3.below hg4 hl3.lt
              have loD2 : W0.heap.size ≤ D2 := Nat.le_trans hb3.size hd4
              have hne : D1 ≠ D2 := by have := hl3.lt; omega
              have hO4 : IsMop wq4 b (off + k * 17) (O k) := hOd.same (hb4.block b hbl)
              refine hK.out _ _ hO4 (fun hHeld => ?_)
              clear hK K
              simp only [Act.put, List.setIfInBounds_toArray, List.set_cons_zero, List.set_cons_succ]
              clear hHeld
              refine wpAnyH_ready (rs := [11]) (by kernel_rfl) (by simp) ?_
              refine AllReadyH.cons (o := { dst := none, op := _, type := _, pos := _, after := _, guard := _ }) rfl (fun K hK => ?_) AllReadyH.nil
              rw [if_pos (by rfl)]
              obtain ⟨wq5, hr5, hl5, hb5, hk5⟩ := vv_store (v := metE n R) hlD14 hM16 rfl hb4 loD1
              refine y_store (ty := 24) (x := .tmp 10) (y := .tmp 36) (ad := ⟨D1, 0, none⟩) (v := .agg (vals (metE n R))) (w' := wq5) rfl rfl rfl hr5 ?_
              have ho5 := hk5 D2 _ hne.symm hl4
              have hO5 : IsMop wq5 b (off + k * 17) (O k) := hOd.same (hb5.block b hbl)
              refine hK.out _ _ hO5 (fun hHeld => ?_)
              clear hK K
              simp only [Act.put]
              clear hHeld
              refine wpAnyH_ready (rs := [12]) (by kernel_rfl) (by simp) ?_
              refine AllReadyH.cons (o := { dst := none, op := _, type := _, pos := _, after := _, guard := _ }) rfl (fun K hK => ?_) AllReadyH.nil
              rw [if_pos (by rfl)]
              obtain ⟨wq6, hr6, hl6, hb6, hk6⟩ := vv_store (v := rowE n R (O k).1) ho5 hX16 rfl hb5 loD2
              refine y_store (ty := 24) (x := .tmp 11) (y := .tmp 43) (ad := ⟨D2, 0, none⟩) (v := .agg (vals (rowE n R (O k).1))) (w' := wq6) rfl rfl rfl hr6 ?_
              have ho6 := hk6 D1 _ hne hl5
              have hO6 : IsMop wq6 b (off + k * 17) (O k) := hOd.same (hb6.block b hbl)
              refine hK.out _ _ hO6 (fun hHeld => ?_)
              clear hK K
              simp only [Act.put]
              clear hHeld
              have hHeld := hOd
              refine wpAnyH_done (by kernel_rfl) ?_ _
              refine NoPanic.normal ?_
              have HF : Aside (Lies wq6 D1 (metE n R) ∧ Lies wq6 D2 (rowE n R (O k).1) ∧ D1 ≠ D2 ∧ wr.heap.size ≤ D1 ∧ wr.heap.size ≤ D2 ∧ Below wr.heap.size wr wq6) := ⟨ho6, hl6, hne, by rw [← hsz]; exact loD1, by rw [← hsz]; exact loD2, hwd.trans (by rw [← hsz]; exact hb6)⟩
              clear hHeld
              go_wp2
              go_meet
              case rel => exact ⟨_, _, rfl, rfl, HF⟩
            refine AllReadyH.cons (o := { dst := some 11, op := _, type := _, pos := _, after := _, guard := _ }) rfl (fun K hK => ?_) AllReadyH.nil
            rw [if_pos (by rfl)]
            obtain ⟨D2, wq3, hr3, hl3, hg3, hd3⟩ := vv_alloc wq2
            refine y_alloc (ty := 24) rfl hr3 ?_
            have hb3 : Below W0.heap.size W0 wq3 := hb2.trans (hg3.mono hb2.size)
            have loD2 : W0.heap.size ≤ D2 := Nat.le_trans hb2.size hd3
            have hO3 : IsMop wq3 b (off + k * 17) (O k) := hOd.same (hb3.block b hbl)
            refine hK.out _ _ hO3 (fun hHeld => ?_)
            clear hK K
            simp only [Act.put, List.setIfInBounds_toArray, List.set_cons_zero, List.set_cons_succ]
            clear hHeld
            refine wpAnyH_ready (rs := [9]) (by kernel_rfl) (by simp) ?_
            refine AllReadyH.cons (o := { dst := some 10, op := _, type := _, pos := _, after := _, guard := _ }) rfl (fun K hK => ?_) AllReadyH.nil
            rw [if_pos (by rfl)]
            obtain ⟨D1, wq4, hr4, hl4, hg4, hd4⟩ := vv_alloc wq3
            refine y_alloc (ty := 24) rfl hr4 ?_
            have hb4 : Below W0.heap.size W0 wq4 := hb3.trans (hg4.mono hb3.size)
            have hlD24 : Lies wq4 D2 zeros := hl3.below hg4 hl3.lt
            have loD1 : W0.heap.size ≤ D1 := Nat.le_trans hb3.size hd4
            have hne : D1 ≠ D2 := by have := hl3.lt; omega
            have hO4 : IsMop wq4 b (off + k * 17) (O k) := hOd.same (hb4.block b hbl)
            refine hK.out _ _ hO4 (fun hHeld => ?_)
            clear hK K
            simp only [Act.put, List.setIfInBounds_toArray, List.set_cons_zero, List.set_cons_succ]
            clear hHeld
            refine wpAnyH_ready (rs := [11]) (by kernel_rfl) (by simp) ?_
            refine AllReadyH.cons (o := { dst := none, op := _, type := _, pos := _, after := _, guard := _ }) rfl (fun K hK => ?_) AllReadyH.nil
            rw [if_pos (by rfl)]
            obtain ⟨wq5, hr5, hl5, hb5, hk5⟩ := vv_store (v := metE n R) hl4 hM16 rfl hb4 loD1
            refine y_store (ty := 24) (x := .tmp 10) (y := .tmp 36) (ad := ⟨D1, 0, none⟩) (v := .agg (vals (metE n R))) (w' := wq5) rfl rfl rfl hr5 ?_
            have ho5 := hk5 D2 _ hne.symm hlD24
            have hO5 : IsMop wq5 b (off + k * 17) (O k) := hOd.same (hb5.block b hbl)
            refine hK.out _ _ hO5 (fun hHeld => ?_)
            clear hK K
            simp only [Act.put]
            clear hHeld
            refine wpAnyH_ready (rs := [12]) (by kernel_rfl) (by simp) ?_
            refine AllReadyH.cons (o := { dst := none, op := _, type := _, pos := _, after := _, guard := _ }) rfl (fun K hK => ?_) AllReadyH.nil
            rw [if_pos (by rfl)]
            obtain ⟨wq6, hr6, hl6, hb6, hk6⟩ := vv_store (v := rowE n R (O k).1) ho5 hX16 rfl hb5 loD2
            refine y_store (ty := 24) (x := .tmp 11) (y := .tmp 43) (ad := ⟨D2, 0, none⟩) (v := .agg (vals (rowE n R (O k).1))) (w' := wq6) rfl rfl rfl hr6 ?_
            have ho6 := hk6 D1 _ hne hl5
            have hO6 : IsMop wq6 b (off + k * 17) (O k) := hOd.same (hb6.block b hbl)
            refine hK.out _ _ hO6 (fun hHeld => ?_)
            clear hK K
            simp only [Act.put]
            clear hHeld
            have hHeld := hOd
            refine wpAnyH_done (by kernel_rfl) ?_ _
            refine NoPanic.normal ?_
            have HF : Aside (Lies wq6 D1 (metE n R) ∧ Lies wq6 D2 (rowE n R (O k).1) ∧ D1 ≠ D2 ∧ wr.heap.size ≤ D1 ∧ wr.heap.size ≤ D2 ∧ Below wr.heap.size wr wq6) := ⟨ho6, hl6, hne, by rw [← hsz]; exact loD1, by rw [← hsz]; exact loD2, hwd.trans (by rw [← hsz]; exact hb6)⟩
            clear hHeld
            go_wp2
            go_meet
            case rel => exact ⟨_, _, rfl, rfl, HF⟩
          refine AllReadyH.cons (o := { dst := some 10, op := _, type := _, pos := _, after := _, guard := _ }) rfl (fun K hK => ?_) ?_
          · rw [if_pos (by rfl)]
            obtain ⟨D1, wq2, hr2, hl2, hg2, hd2⟩ := vv_alloc wq1
            refine y_alloc (ty := 24) rfl hr2 ?_
            have hb2 : Below W0.heap.size W0 wq2 := hb1.trans (hg2.mono hb1.size)
            have loD1 : W0.heap.size ≤ D1 := Nat.le_trans hb1.size hd2
            have hO2 : IsMop wq2 b (off + k * 17) (O k) := hOd.same (hb2.block b hbl)
            refine hK.out _ _ hO2 (fun hHeld => ?_)
            clear hK K
            simp only [Act.put, List.setIfInBounds_toArray, List.set_cons_zero, List.set_cons_succ]
            clear hHeld
            refine wpAnyH_ready (rs := [8, 10]) (by kernel_rfl) (by simp) ?_
            refine AllReadyH.cons (o := { dst := some 43, op := _, type := _, pos := _, after := _, guard := _ }) rfl (fun K hK => ?_) ?_
            · rw [if_pos (by rfl)]
              refine y_call (f := 17) (xs := [.tmp 37, .tmp 42]) (vs := [.pointer (some ⟨G, 0, none⟩), .int .i64 (O k).1]) rfl rfl (enters_mrow _ _) (mrow_any _ n R (O k).1 wq2 (hM0.below hb2 hM0.lt).mp) ?_
              rintro ex wq3 ⟨rfl, hg3⟩
              refine ⟨_, rfl, ?_⟩
              have hb3 : Below W0.heap.size W0 wq3 := hb2.trans (hg3.mono hb2.size)
              have hlD13 : Lies wq3 D1 zeros := hl2.below hg3 hl2.lt
              have hO3 : IsMop wq3 b (off + k * 17) (O k) := hOd.same (hb3.block b hbl)
              refine hK.out _ _ hO3 (fun hHeld => ?_)
              clear hK K
              simp only [Act.put, List.setIfInBounds_toArray, List.set_cons_zero, List.set_cons_succ]
              clear hHeld
              refine wpAnyH_ready (rs := [10]) (by kernel_rfl) (by simp) ?_
              refine AllReadyH.cons (o := { dst := some 11, op := _, type := _, pos := _, after := _, guard := _ }) rfl (fun K hK => ?_) AllReadyH.nil
              rw [if_pos (by rfl)]
              obtain ⟨D2, wq4, hr4, hl4, hg4, hd4⟩ := vv_alloc wq3
              refine y_alloc (ty := 24) rfl hr4 ?_
              have hb4 : Below W0.heap.size W0 wq4 := hb3.trans (hg4.mono hb3.size)
              have hlD14 : Lies wq4 D1 zeros := hlD13.below hg4 hlD13.lt
              have loD2 : W0.heap.size ≤ D2 := Nat.le_trans hb3.size hd4
              have hne : D1 ≠ D2 := by have := hlD13.lt; omega
              have hO4 : IsMop wq4 b (off + k * 17) (O k) := hOd.same (hb4.block b hbl)
              refine hK.out _ _ hO4 (fun hHeld => ?_)
              clear hK K
              simp only [Act.put, List.setIfInBounds_toArray, List.set_cons_zero, List.set_cons_succ]
              clear hHeld
              refine wpAnyH_ready (rs := [11]) (by kernel_rfl) (by simp) ?_
              refine AllReadyH.cons (o := { dst := none, op := _, type := _, pos := _, after := _, guard := _ }) rfl (fun K hK => ?_) AllReadyH.nil
              rw [if_pos (by rfl)]
              obtain ⟨wq5, hr5, hl5, hb5, hk5⟩ := vv_store (v := metE n R) hlD14 hM16 rfl hb4 loD1
              refine y_store (ty := 24) (x := .tmp 10) (y := .tmp 36) (ad := ⟨D1, 0, none⟩) (v := .agg (vals (metE n R))) (w' := wq5) rfl rfl rfl hr5 ?_
              have ho5 := hk5 D2 _ hne.symm hl4
              have hO5 : IsMop wq5 b (off + k * 17) (O k) := hOd.same (hb5.block b hbl)
              refine hK.out _ _ hO5 (fun hHeld => ?_)
              clear hK K
              simp only [Act.put]
              clear hHeld
              refine wpAnyH_ready (rs := [12]) (by kernel_rfl) (by simp) ?_
              refine AllReadyH.cons (o := { dst := none, op := _, type := _, pos := _, after := _, guard := _ }) rfl (fun K hK => ?_) AllReadyH.nil
              rw [if_pos (by rfl)]
              obtain ⟨wq6, hr6, hl6, hb6, hk6⟩ := vv_store (v := rowE n R (O k).1) ho5 hX16 rfl hb5 loD2
              refine y_store (ty := 24) (x := .tmp 11) (y := .tmp 43) (ad := ⟨D2, 0, none⟩) (v := .agg (vals (rowE n R (O k).1))) (w' := wq6) rfl rfl rfl hr6 ?_
              have ho6 := hk6 D1 _ hne hl5
              have hO6 : IsMop wq6 b (off + k * 17) (O k) := hOd.same (hb6.block b hbl)
              refine hK.out _ _ hO6 (fun hHeld => ?_)
              clear hK K
              simp only [Act.put]
              clear hHeld
              have hHeld := hOd
              refine wpAnyH_done (by kernel_rfl) ?_ _
              refine NoPanic.normal ?_
              have HF : Aside (Lies wq6 D1 (metE n R) ∧ Lies wq6 D2 (rowE n R (O k).1) ∧ D1 ≠ D2 ∧ wr.heap.size ≤ D1 ∧ wr.heap.size ≤ D2 ∧ Below wr.heap.size wr wq6) := ⟨ho6, hl6, hne, by rw [← hsz]; exact loD1, by rw [← hsz]; exact loD2, hwd.trans (by rw [← hsz]; exact hb6)⟩
              clear hHeld
              go_wp2
              go_meet
              case rel => exact ⟨_, _, rfl, rfl, HF⟩
            refine AllReadyH.cons (o := { dst := some 11, op := _, type := _, pos := _, after := _, guard := _ }) rfl (fun K hK => ?_) AllReadyH.nil
            rw [if_pos (by rfl)]
            obtain ⟨D2, wq3, hr3, hl3, hg3, hd3⟩ := vv_alloc wq2
            refine y_alloc (ty := 24) rfl hr3 ?_
            have hb3 : Below W0.heap.size W0 wq3 := hb2.trans (hg3.mono hb2.size)
            have hlD13 : Lies wq3 D1 zeros := hl2.below hg3 hl2.lt
            have loD2 : W0.heap.size ≤ D2 := Nat.le_trans hb2.size hd3
            have hne : D1 ≠ D2 := by have := hl2.lt; omega
            have hO3 : IsMop wq3 b (off + k * 17) (O k) := hOd.same (hb3.block b hbl)
            refine hK.out _ _ hO3 (fun hHeld => ?_)
            clear hK K
            simp only [Act.put, List.setIfInBounds_toArray, List.set_cons_zero, List.set_cons_succ]
            clear hHeld
            refine wpAnyH_ready (rs := [8]) (by kernel_rfl) (by simp) ?_
            refine AllReadyH.cons (o := { dst := some 43, op := _, type := _, pos := _, after := _, guard := _ }) rfl (fun K hK => ?_) AllReadyH.nil
            rw [if_pos (by rfl)]
            refine y_call (f := 17) (xs := [.tmp 37, .tmp 42]) (vs := [.pointer (some ⟨G, 0, none⟩), .int .i64 (O k).1]) rfl rfl (enters_mrow _ _) (mrow_any _ n R (O k).1 wq3 (hM0.below hb3 hM0.lt).mp) ?_
            rintro ex wq4 ⟨rfl, hg4⟩
            refine ⟨_, rfl, ?_⟩
            have hb4 : Below W0.heap.size W0 wq4 := hb3.trans (hg4.mono hb3.size)
            have hlD14 : Lies wq4 D1 zeros := hlD13.below hg4 hlD13.lt
            have hlD24 : Lies wq4 D2 zeros := hl3.below hg4 hl3.lt
            have hO4 : IsMop wq4 b (off + k * 17) (O k) := hOd.same (hb4.block b hbl)
            refine hK.out _ _ hO4 (fun hHeld => ?_)
            clear hK K
            simp only [Act.put, List.setIfInBounds_toArray, List.set_cons_zero, List.set_cons_succ]
            clear hHeld
            refine wpAnyH_ready (rs := [11]) (by kernel_rfl) (by simp) ?_
            refine AllReadyH.cons (o := { dst := none, op := _, type := _, pos := _, after := _, guard := _ }) rfl (fun K hK => ?_) AllReadyH.nil
            rw [if_pos (by rfl)]
            obtain ⟨wq5, hr5, hl5, hb5, hk5⟩ := vv_store (v := metE n R) hlD14 hM16 rfl hb4 loD1
            refine y_store (ty := 24) (x := .tmp 10) (y := .tmp 36) (ad := ⟨D1, 0, none⟩) (v := .agg (vals (metE n R))) (w' := wq5) rfl rfl rfl hr5 ?_
            have ho5 := hk5 D2 _ hne.symm hlD24
            have hO5 : IsMop wq5 b (off + k * 17) (O k) := hOd.same (hb5.block b hbl)
            refine hK.out _ _ hO5 (fun hHeld => ?_)
            clear hK K
            simp only [Act.put]
            clear hHeld
            refine wpAnyH_ready (rs := [12]) (by kernel_rfl) (by simp) ?_
            refine AllReadyH.cons (o := { dst := none, op := _, type := _, pos := _, after := _, guard := _ }) rfl (fun K hK => ?_) AllReadyH.nil
            rw [if_pos (by rfl)]
            obtain ⟨wq6, hr6, hl6, hb6, hk6⟩ := vv_store (v := rowE n R (O k).1) ho5 hX16 rfl hb5 loD2
            refine y_store (ty := 24) (x := .tmp 11) (y := .tmp 43) (ad := ⟨D2, 0, none⟩) (v := .agg (vals (rowE n R (O k).1))) (w' := wq6) rfl rfl rfl hr6 ?_
            have ho6 := hk6 D1 _ hne hl5
            have hO6 : IsMop wq6 b (off + k * 17) (O k) := hOd.same (hb6.block b hbl)
            refine hK.out _ _ hO6 (fun hHeld => ?_)
            clear hK K
            simp only [Act.put]
            clear hHeld
            have hHeld := hOd
            refine wpAnyH_done (by kernel_rfl) ?_ _
            refine NoPanic.normal ?_
            have HF : Aside (Lies wq6 D1 (metE n R) ∧ Lies wq6 D2 (rowE n R (O k).1) ∧ D1 ≠ D2 ∧ wr.heap.size ≤ D1 ∧ wr.heap.size ≤ D2 ∧ Below wr.heap.size wr wq6) := ⟨ho6, hl6, hne, by rw [← hsz]; exact loD1, by rw [← hsz]; exact loD2, hwd.trans (by rw [← hsz]; exact hb6)⟩
            clear hHeld
            go_wp2
            go_meet
            case rel => exact ⟨_, _, rfl, rfl, HF⟩
          refine AllReadyH.cons (o := { dst := some 11, op := _, type := _, pos := _, after := _, guard := _ }) rfl (fun K hK => ?_) AllReadyH.nil
          rw [if_pos (by rfl)]
          obtain ⟨D2, wq2, hr2, hl2, hg2, hd2⟩ := vv_alloc wq1
          refine y_alloc (ty := 24) rfl hr2 ?_
          have hb2 : Below W0.heap.size W0 wq2 := hb1.trans (hg2.mono hb1.size)
          have loD2 : W0.heap.size ≤ D2 := Nat.le_trans hb1.size hd2
          have hO2 : IsMop wq2 b (off + k * 17) (O k) := hOd.same (hb2.block b hbl)
          refine hK.out _ _ hO2 (fun hHeld => ?_)
          clear hK K
          simp only [Act.put, List.setIfInBounds_toArray, List.set_cons_zero, List.set_cons_succ]
          clear hHeld
          refine wpAnyH_ready (rs := [8, 9]) (by kernel_rfl) (by simp) ?_
          refine AllReadyH.cons (o := { dst := some 43, op := _, type := _, pos := _, after := _, guard := _ }) rfl (fun K hK => ?_) ?_
          · rw [if_pos (by rfl)]
            refine y_call (f := 17) (xs := [.tmp 37, .tmp 42]) (vs := [.pointer (some ⟨G, 0, none⟩), .int .i64 (O k).1]) rfl rfl (enters_mrow _ _) (mrow_any _ n R (O k).1 wq2 (hM0.below hb2 hM0.lt).mp) ?_
            rintro ex wq3 ⟨rfl, hg3⟩
            refine ⟨_, rfl, ?_⟩
            have hb3 : Below W0.heap.size W0 wq3 := hb2.trans (hg3.mono hb2.size)
            have hlD23 : Lies wq3 D2 zeros := hl2.below hg3 hl2.lt
            have hO3 : IsMop wq3 b (off + k * 17) (O k) := hOd.same (hb3.block b hbl)
            refine hK.out _ _ hO3 (fun hHeld => ?_)
            clear hK K
            simp only [Act.put, List.setIfInBounds_toArray, List.set_cons_zero, List.set_cons_succ]
            clear hHeld
            refine wpAnyH_ready (rs := [9]) (by kernel_rfl) (by simp) ?_
            refine AllReadyH.cons (o := { dst := some 10, op := _, type := _, pos := _, after := _, guard := _ }) rfl (fun K hK => ?_) AllReadyH.nil
            rw [if_pos (by rfl)]
            obtain ⟨D1, wq4, hr4, hl4, hg4, hd4⟩ := vv_alloc wq3
            refine y_alloc (ty := 24) rfl hr4 ?_
            have hb4 : Below W0.heap.size W0 wq4 := hb3.trans (hg4.mono hb3.size)
            have hlD24 : Lies wq4 D2 zeros := hlD23.below hg4 hlD23.lt
            have loD1 : W0.heap.size ≤ D1 := Nat.le_trans hb3.size hd4
            have hne : D1 ≠ D2 := by have := hlD23.lt; omega
            have hO4 : IsMop wq4 b (off + k * 17) (O k) := hOd.same (hb4.block b hbl)
            refine hK.out _ _ hO4 (fun hHeld => ?_)
            clear hK K
            simp only [Act.put, List.setIfInBounds_toArray, List.set_cons_zero, List.set_cons_succ]
            clear hHeld
            refine wpAnyH_ready (rs := [11]) (by kernel_rfl) (by simp) ?_
            refine AllReadyH.cons (o := { dst := none, op := _, type := _, pos := _, after := _, guard := _ }) rfl (fun K hK => ?_) AllReadyH.nil
            rw [if_pos (by rfl)]
            obtain ⟨wq5, hr5, hl5, hb5, hk5⟩ := vv_store (v := metE n R) hl4 hM16 rfl hb4 loD1
            refine y_store (ty := 24) (x := .tmp 10) (y := .tmp 36) (ad := ⟨D1, 0, none⟩) (v := .agg (vals (metE n R))) (w' := wq5) rfl rfl rfl hr5 ?_
            have ho5 := hk5 D2 _ hne.symm hlD24
            have hO5 : IsMop wq5 b (off + k * 17) (O k) := hOd.same (hb5.block b hbl)
            refine hK.out _ _ hO5 (fun hHeld => ?_)
            clear hK K
            simp only [Act.put]
            clear hHeld
            refine wpAnyH_ready (rs := [12]) (by kernel_rfl) (by simp) ?_
            refine AllReadyH.cons (o := { dst := none, op := _, type := _, pos := _, after := _, guard := _ }) rfl (fun K hK => ?_) AllReadyH.nil
            rw [if_pos (by rfl)]
            obtain ⟨wq6, hr6, hl6, hb6, hk6⟩ := vv_store (v := rowE n R (O k).1) ho5 hX16 rfl hb5 loD2
            refine y_store (ty := 24) (x := .tmp 11) (y := .tmp 43) (ad := ⟨D2, 0, none⟩) (v := .agg (vals (rowE n R (O k).1))) (w' := wq6) rfl rfl rfl hr6 ?_
            have ho6 := hk6 D1 _ hne hl5
            have hO6 : IsMop wq6 b (off + k * 17) (O k) := hOd.same (hb6.block b hbl)
            refine hK.out _ _ hO6 (fun hHeld => ?_)
            clear hK K
            simp only [Act.put]
            clear hHeld
            have hHeld := hOd
            refine wpAnyH_done (by kernel_rfl) ?_ _
            refine NoPanic.normal ?_
            have HF : Aside (Lies wq6 D1 (metE n R) ∧ Lies wq6 D2 (rowE n R (O k).1) ∧ D1 ≠ D2 ∧ wr.heap.size ≤ D1 ∧ wr.heap.size ≤ D2 ∧ Below wr.heap.size wr wq6) := ⟨ho6, hl6, hne, by rw [← hsz]; exact loD1, by rw [← hsz]; exact loD2, hwd.trans (by rw [← hsz]; exact hb6)⟩
            clear hHeld
            go_wp2
            go_meet
            case rel => exact ⟨_, _, rfl, rfl, HF⟩
          refine AllReadyH.cons (o := { dst := some 10, op := _, type := _, pos := _, after := _, guard := _ }) rfl (fun K hK => ?_) AllReadyH.nil
          rw [if_pos (by rfl)]
          obtain ⟨D1, wq3, hr3, hl3, hg3, hd3⟩ := vv_alloc wq2
          refine y_alloc (ty := 24) rfl hr3 ?_
          have hb3 : Below W0.heap.size W0 wq3 := hb2.trans (hg3.mono hb2.size)
          have hlD23 : Lies wq3 D2 zeros := hl2.below hg3 hl2.lt
          have loD1 : W0.heap.size ≤ D1 := Nat.le_trans hb2.size hd3
          have hne : D1 ≠ D2 := by have := hl2.lt; omega
          have hO3 : IsMop wq3 b (off + k * 17) (O k) := hOd.same (hb3.block b hbl)
          refine hK.out _ _ hO3 (fun hHeld => ?_)
          clear hK K
          simp only [Act.put, List.setIfInBounds_toArray, List.set_cons_zero, List.set_cons_succ]
          clear hHeld
          refine wpAnyH_ready (rs := [8]) (by kernel_rfl) (by simp) ?_
          refine AllReadyH.cons (o := { dst := some 43, op := _, type := _, pos := _, after := _, guard := _ }) rfl (fun K hK => ?_) AllReadyH.nil
          rw [if_pos (by rfl)]
          refine y_call (f := 17) (xs := [.tmp 37, .tmp 42]) (vs := [.pointer (some ⟨G, 0, none⟩), .int .i64 (O k).1]) rfl rfl (enters_mrow _ _) (mrow_any _ n R (O k).1 wq3 (hM0.below hb3 hM0.lt).mp) ?_
          rintro ex wq4 ⟨rfl, hg4⟩
          refine ⟨_, rfl, ?_⟩
          have hb4 : Below W0.heap.size W0 wq4 := hb3.trans (hg4.mono hb3.size)
          have hlD24 : Lies wq4 D2 zeros := hlD23.below hg4 hlD23.lt
          have hlD14 : Lies wq4 D1 zeros := hl3.below hg4 hl3.lt
          have hO4 : IsMop wq4 b (off + k * 17) (O k) := hOd.same (hb4.block b hbl)
          refine hK.out _ _ hO4 (fun hHeld => ?_)
          clear hK K
          simp only [Act.put, List.setIfInBounds_toArray, List.set_cons_zero, List.set_cons_succ]
          clear hHeld
          refine wpAnyH_ready (rs := [11]) (by kernel_rfl) (by simp) ?_
          refine AllReadyH.cons (o := { dst := none, op := _, type := _, pos := _, after := _, guard := _ }) rfl (fun K hK => ?_) AllReadyH.nil
          rw [if_pos (by rfl)]
          obtain ⟨wq5, hr5, hl5, hb5, hk5⟩ := vv_store (v := metE n R) hlD14 hM16 rfl hb4 loD1
          refine y_store (ty := 24) (x := .tmp 10) (y := .tmp 36) (ad := ⟨D1, 0, none⟩) (v := .agg (vals (metE n R))) (w' := wq5) rfl rfl rfl hr5 ?_
          have ho5 := hk5 D2 _ hne.symm hlD24
          have hO5 : IsMop wq5 b (off + k * 17) (O k) := hOd.same (hb5.block b hbl)
          refine hK.out _ _ hO5 (fun hHeld => ?_)
          clear hK K
          simp only [Act.put]
          clear hHeld
          refine wpAnyH_ready (rs := [12]) (by kernel_rfl) (by simp) ?_
          refine AllReadyH.cons (o := { dst := none, op := _, type := _, pos := _, after := _, guard := _ }) rfl (fun K hK => ?_) AllReadyH.nil
          rw [if_pos (by rfl)]
          obtain ⟨wq6, hr6, hl6, hb6, hk6⟩ := vv_store (v := rowE n R (O k).1) ho5 hX16 rfl hb5 loD2
          refine y_store (ty := 24) (x := .tmp 11) (y := .tmp 43) (ad := ⟨D2, 0, none⟩) (v := .agg (vals (rowE n R (O k).1))) (w' := wq6) rfl rfl rfl hr6 ?_
          have ho6 := hk6 D1 _ hne hl5
          have hO6 : IsMop wq6 b (off + k * 17) (O k) := hOd.same (hb6.block b hbl)
          refine hK.out _ _ hO6 (fun hHeld => ?_)
          clear hK K
          simp only [Act.put]
          clear hHeld
          have hHeld := hOd
          refine wpAnyH_done (by kernel_rfl) ?_ _
          refine NoPanic.normal ?_
          have HF : Aside (Lies wq6 D1 (metE n R) ∧ Lies wq6 D2 (rowE n R (O k).1) ∧ D1 ≠ D2 ∧ wr.heap.size ≤ D1 ∧ wr.heap.size ≤ D2 ∧ Below wr.heap.size wr wq6) := ⟨ho6, hl6, hne, by rw [← hsz]; exact loD1, by rw [← hsz]; exact loD2, hwd.trans (by rw [← hsz]; exact hb6)⟩
          clear hHeld
          go_wp2
          go_meet
          case rel => exact ⟨_, _, rfl, rfl, HF⟩
        refine AllReadyH.cons (o := { dst := some 10, op := _, type := _, pos := _, after := _, guard := _ }) rfl (fun K hK => ?_) ?_
        · rw [if_pos (by rfl)]
          obtain ⟨D1, wq1, hr1, hl1, hg1, hd1⟩ := vv_alloc W0
          refine y_alloc (ty := 24) rfl hr1 ?_
          have hb1 : Below W0.heap.size W0 wq1 := hb00.trans (hg1.mono hb00.size)
          have loD1 : W0.heap.size ≤ D1 := Nat.le_trans hb00.size hd1
          have hO1 : IsMop wq1 b (off + k * 17) (O k) := hOd.same (hb1.block b hbl)
          refine hK.out _ _ hO1 (fun hHeld => ?_)
          clear hK K
          simp only [Act.put, List.setIfInBounds_toArray, List.set_cons_zero, List.set_cons_succ]
          clear hHeld
          refine wpAnyH_ready (rs := [1, 10]) (by kernel_rfl) (by simp) ?_
          refine AllReadyH.cons (o := { dst := some 36, op := _, type := _, pos := _, after := _, guard := _ }) rfl (fun K hK => ?_) ?_
          · rw [if_pos (by rfl)]
            refine y_call (f := 13) (xs := [.tmp 35]) (vs := [.pointer (some ⟨G, 0, none⟩)]) rfl rfl (enters_mstab _ _) (mstab_any _ n R wq1 (hM0.below hb1 hM0.lt).mp) ?_
            rintro ex wq2 ⟨rfl, hg2⟩
            refine ⟨_, rfl, ?_⟩
            have hb2 : Below W0.heap.size W0 wq2 := hb1.trans (hg2.mono hb1.size)
            have hlD12 : Lies wq2 D1 zeros := hl1.below hg2 hl1.lt
            have hO2 : IsMop wq2 b (off + k * 17) (O k) := hOd.same (hb2.block b hbl)
            refine hK.out _ _ hO2 (fun hHeld => ?_)
            clear hK K
            simp only [Act.put, List.setIfInBounds_toArray, List.set_cons_zero, List.set_cons_succ]
            clear hHeld
            refine wpAnyH_ready (rs := [8, 10]) (by kernel_rfl) (by simp) ?_
            refine AllReadyH.cons (o := { dst := some 43, op := _, type := _, pos := _, after := _, guard := _ }) rfl (fun K hK => ?_) ?_
            · rw [if_pos (by rfl)]
              refine y_call (f := 17) (xs := [.tmp 37, .tmp 42]) (vs := [.pointer (some ⟨G, 0, none⟩), .int .i64 (O k).1]) rfl rfl (enters_mrow _ _) (mrow_any _ n R (O k).1 wq2 (hM0.below hb2 hM0.lt).mp) ?_
              rintro ex wq3 ⟨rfl, hg3⟩
              refine ⟨_, rfl, ?_⟩
              have hb3 : Below W0.heap.size W0 wq3 := hb2.trans (hg3.mono hb2.size)
              have hlD13 : Lies wq3 D1 zeros := hlD12.below hg3 hlD12.lt
              have hO3 : IsMop wq3 b (off + k * 17) (O k) := hOd.same (hb3.block b hbl)
              refine hK.out _ _ hO3 (fun hHeld => ?_)
              clear hK K
              simp only [Act.put, List.setIfInBounds_toArray, List.set_cons_zero, List.set_cons_succ]
              clear hHeld
              refine wpAnyH_ready (rs := [10]) (by kernel_rfl) (by simp) ?_
              refine AllReadyH.cons (o := { dst := some 11, op := _, type := _, pos := _, after := _, guard := _ }) rfl (fun K hK => ?_) AllReadyH.nil
              rw [if_pos (by rfl)]
              obtain ⟨D2, wq4, hr4, hl4, hg4, hd4⟩ := vv_alloc wq3
              refine y_alloc (ty := 24) rfl hr4 ?_
              have hb4 : Below W0.heap.size W0 wq4 := hb3.trans (hg4.mono hb3.size)
              have hlD14 : Lies wq4 D1 zeros := hlD13.below hg4 hlD13.lt
              have loD2 : W0.heap.size ≤ D2 := Nat.le_trans hb3.size hd4
              have hne : D1 ≠ D2 := by have := hlD13.lt; omega
              have hO4 : IsMop wq4 b (off + k * 17) (O k) := hOd.same (hb4.block b hbl)
              refine hK.out _ _ hO4 (fun hHeld => ?_)
              clear hK K
              simp only [Act.put, List.setIfInBounds_toArray, List.set_cons_zero, List.set_cons_succ]
              clear hHeld
              refine wpAnyH_ready (rs := [11]) (by kernel_rfl) (by simp) ?_
              refine AllReadyH.cons (o := { dst := none, op := _, type := _, pos := _, after := _, guard := _ }) rfl (fun K hK => ?_) AllReadyH.nil
              rw [if_pos (by rfl)]
              obtain ⟨wq5, hr5, hl5, hb5, hk5⟩ := vv_store (v := metE n R) hlD14 hM16 rfl hb4 loD1
              refine y_store (ty := 24) (x := .tmp 10) (y := .tmp 36) (ad := ⟨D1, 0, none⟩) (v := .agg (vals (metE n R))) (w' := wq5) rfl rfl rfl hr5 ?_
              have ho5 := hk5 D2 _ hne.symm hl4
              have hO5 : IsMop wq5 b (off + k * 17) (O k) := hOd.same (hb5.block b hbl)
              refine hK.out _ _ hO5 (fun hHeld => ?_)
              clear hK K
              simp only [Act.put]
              clear hHeld
              refine wpAnyH_ready (rs := [12]) (by kernel_rfl) (by simp) ?_
              refine AllReadyH.cons (o := { dst := none, op := _, type := _, pos := _, after := _, guard := _ }) rfl (fun K hK => ?_) AllReadyH.nil
              rw [if_pos (by rfl)]
              obtain ⟨wq6, hr6, hl6, hb6, hk6⟩ := vv_store (v := rowE n R (O k).1) ho5 hX16 rfl hb5 loD2
              refine y_store (ty := 24) (x := .tmp 11) (y := .tmp 43) (ad := ⟨D2, 0, none⟩) (v := .agg (vals (rowE n R (O k).1))) (w' := wq6) rfl rfl rfl hr6 ?_
              have ho6 := hk6 D1 _ hne hl5
              have hO6 : IsMop wq6 b (off + k * 17) (O k) := hOd.same (hb6.block b hbl)
              refine hK.out _ _ hO6 (fun hHeld => ?_)
              clear hK K
              simp only [Act.put]
              clear hHeld
              have hHeld := hOd
              refine wpAnyH_done (by kernel_rfl) ?_ _
              refine NoPanic.normal ?_
              have HF : Aside (Lies wq6 D1 (metE n R) ∧ Lies wq6 D2 (rowE n R (O k).1) ∧ D1 ≠ D2 ∧ wr.heap.size ≤ D1 ∧ wr.heap.size ≤ D2 ∧ Below wr.heap.size wr wq6) := ⟨ho6, hl6, hne, by rw [← hsz]; exact loD1, by rw [← hsz]; exact loD2, hwd.trans (by rw [← hsz]; exact hb6)⟩
              clear hHeld
              go_wp2
              go_meet
              case rel => exact ⟨_, _, rfl, rfl, HF⟩
            refine AllReadyH.cons (o := { dst := some 11, op := _, type := _, pos := _, after := _, guard := _ }) rfl (fun K hK => ?_) AllReadyH.nil
            rw [if_pos (by rfl)]
            obtain ⟨D2, wq3, hr3, hl3, hg3, hd3⟩ := vv_alloc wq2
            refine y_alloc (ty := 24) rfl hr3 ?_
            have hb3 : Below W0.heap.size W0 wq3 := hb2.trans (hg3.mono hb2.size)
            have hlD13 : Lies wq3 D1 zeros := hlD12.below hg3 hlD12.lt
            have loD2 : W0.heap.size ≤ D2 := Nat.le_trans hb2.size hd3
            have hne : D1 ≠ D2 := by have := hlD12.lt; omega
            have hO3 : IsMop wq3 b (off + k * 17) (O k) := hOd.same (hb3.block b hbl)
            refine hK.out _ _ hO3 (fun hHeld => ?_)
            clear hK K
            simp only [Act.put, List.setIfInBounds_toArray, List.set_cons_zero, List.set_cons_succ]
            clear hHeld
            refine wpAnyH_ready (rs := [8]) (by kernel_rfl) (by simp) ?_
            refine AllReadyH.cons (o := { dst := some 43, op := _, type := _, pos := _, after := _, guard := _ }) rfl (fun K hK => ?_) AllReadyH.nil
            rw [if_pos (by rfl)]
            refine y_call (f := 17) (xs := [.tmp 37, .tmp 42]) (vs := [.pointer (some ⟨G, 0, none⟩), .int .i64 (O k).1]) rfl rfl (enters_mrow _ _) (mrow_any _ n R (O k).1 wq3 (hM0.below hb3 hM0.lt).mp) ?_
            rintro ex wq4 ⟨rfl, hg4⟩
            refine ⟨_, rfl, ?_⟩
            have hb4 : Below W0.heap.size W0 wq4 := hb3.trans (hg4.mono hb3.size)
            have hlD14 : Lies wq4 D1 zeros := hlD13.below hg4 hlD13.lt
            have hlD24 : Lies wq4 D2 zeros := hl3.below hg4 hl3.lt
            have hO4 : IsMop wq4 b (off + k * 17) (O k) := hOd.same (hb4.block b hbl)
            refine hK.out _ _ hO4 (fun hHeld => ?_)
            clear hK K
            simp only [Act.put, List.setIfInBounds_toArray, List.set_cons_zero, List.set_cons_succ]
            clear hHeld
            refine wpAnyH_ready (rs := [11]) (by kernel_rfl) (by simp) ?_
            refine AllReadyH.cons (o := { dst := none, op := _, type := _, pos := _, after := _, guard := _ }) rfl (fun K hK => ?_) AllReadyH.nil
            rw [if_pos (by rfl)]
            obtain ⟨wq5, hr5, hl5, hb5, hk5⟩ := vv_store (v := metE n R) hlD14 hM16 rfl hb4 loD1
            refine y_store (ty := 24) (x := .tmp 10) (y := .tmp 36) (ad := ⟨D1, 0, none⟩) (v := .agg (vals (metE n R))) (w' := wq5) rfl rfl rfl hr5 ?_
            have ho5 := hk5 D2 _ hne.symm hlD24
            have hO5 : IsMop wq5 b (off + k * 17) (O k) := hOd.same (hb5.block b hbl)
            refine hK.out _ _ hO5 (fun hHeld => ?_)
            clear hK K
            simp only [Act.put]
            clear hHeld
            refine wpAnyH_ready (rs := [12]) (by kernel_rfl) (by simp) ?_
            refine AllReadyH.cons (o := { dst := none, op := _, type := _, pos := _, after := _, guard := _ }) rfl (fun K hK => ?_) AllReadyH.nil
            rw [if_pos (by rfl)]
            obtain ⟨wq6, hr6, hl6, hb6, hk6⟩ := vv_store (v := rowE n R (O k).1) ho5 hX16 rfl hb5 loD2
            refine y_store (ty := 24) (x := .tmp 11) (y := .tmp 43) (ad := ⟨D2, 0, none⟩) (v := .agg (vals (rowE n R (O k).1))) (w' := wq6) rfl rfl rfl hr6 ?_
            have ho6 := hk6 D1 _ hne hl5
            have hO6 : IsMop wq6 b (off + k * 17) (O k) := hOd.same (hb6.block b hbl)
            refine hK.out _ _ hO6 (fun hHeld => ?_)
            clear hK K
            simp only [Act.put]
            clear hHeld
            have hHeld := hOd
            refine wpAnyH_done (by kernel_rfl) ?_ _
            refine NoPanic.normal ?_
            have HF : Aside (Lies wq6 D1 (metE n R) ∧ Lies wq6 D2 (rowE n R (O k).1) ∧ D1 ≠ D2 ∧ wr.heap.size ≤ D1 ∧ wr.heap.size ≤ D2 ∧ Below wr.heap.size wr wq6) := ⟨ho6, hl6, hne, by rw [← hsz]; exact loD1, by rw [← hsz]; exact loD2, hwd.trans (by rw [← hsz]; exact hb6)⟩
            clear hHeld
            go_wp2
            go_meet
            case rel => exact ⟨_, _, rfl, rfl, HF⟩
          refine AllReadyH.cons (o := { dst := some 11, op := _, type := _, pos := _, after := _, guard := _ }) rfl (fun K hK => ?_) AllReadyH.nil
          rw [if_pos (by rfl)]
          obtain ⟨D2, wq2, hr2, hl2, hg2, hd2⟩ := vv_alloc wq1
          refine y_alloc (ty := 24) rfl hr2 ?_
          have hb2 : Below W0.heap.size W0 wq2 := hb1.trans (hg2.mono hb1.size)
          have hlD12 : Lies wq2 D1 zeros := hl1.below hg2 hl1.lt
          have loD2 : W0.heap.size ≤ D2 := Nat.le_trans hb1.size hd2
          have hne : D1 ≠ D2 := by have := hl1.lt; omega
          have hO2 : IsMop wq2 b (off + k * 17) (O k) := hOd.same (hb2.block b hbl)
          refine hK.out _ _ hO2 (fun hHeld => ?_)
          clear hK K
          simp only [Act.put, List.setIfInBounds_toArray, List.set_cons_zero, List.set_cons_succ]
          clear hHeld
          refine wpAnyH_ready (rs := [1]) (by kernel_rfl) (by simp) ?_
          refine AllReadyH.cons (o := { dst := some 36, op := _, type := _, pos := _, after := _, guard := _ }) rfl (fun K hK => ?_) AllReadyH.nil
          rw [if_pos (by rfl)]
          refine y_call (f := 13) (xs := [.tmp 35]) (vs := [.pointer (some ⟨G, 0, none⟩)]) rfl rfl (enters_mstab _ _) (mstab_any _ n R wq2 (hM0.below hb2 hM0.lt).mp) ?_
          rintro ex wq3 ⟨rfl, hg3⟩
          refine ⟨_, rfl, ?_⟩
          have hb3 : Below W0.heap.size W0 wq3 := hb2.trans (hg3.mono hb2.size)
          have hlD13 : Lies wq3 D1 zeros := hlD12.below hg3 hlD12.lt
          have hlD23 : Lies wq3 D2 zeros := hl2.below hg3 hl2.lt
          have hO3 : IsMop wq3 b (off + k * 17) (O k) := hOd.same (hb3.block b hbl)
          refine hK.out _ _ hO3 (fun hHeld => ?_)
          clear hK K
          simp only [Act.put, List.setIfInBounds_toArray, List.set_cons_zero, List.set_cons_succ]
          clear hHeld
          refine wpAnyH_ready (rs := [8]) (by kernel_rfl) (by simp) ?_
          refine AllReadyH.cons (o := { dst := some 43, op := _, type := _, pos := _, after := _, guard := _ }) rfl (fun K hK => ?_) AllReadyH.nil
          rw [if_pos (by rfl)]
          refine y_call (f := 17) (xs := [.tmp 37, .tmp 42]) (vs := [.pointer (some ⟨G, 0, none⟩), .int .i64 (O k).1]) rfl rfl (enters_mrow _ _) (mrow_any _ n R (O k).1 wq3 (hM0.below hb3 hM0.lt).mp) ?_
          rintro ex wq4 ⟨rfl, hg4⟩
          refine ⟨_, rfl, ?_⟩
          have hb4 : Below W0.heap.size W0 wq4 := hb3.trans (hg4.mono hb3.size)
          have hlD14 : Lies wq4 D1 zeros := hlD13.below hg4 hlD13.lt
          have hlD24 : Lies wq4 D2 zeros := hlD23.below hg4 hlD23.lt
          have hO4 : IsMop wq4 b (off + k * 17) (O k) := hOd.same (hb4.block b hbl)
          refine hK.out _ _ hO4 (fun hHeld => ?_)
          clear hK K
          simp only [Act.put, List.setIfInBounds_toArray, List.set_cons_zero, List.set_cons_succ]
          clear hHeld
          refine wpAnyH_ready (rs := [11]) (by kernel_rfl) (by simp) ?_
          refine AllReadyH.cons (o := { dst := none, op := _, type := _, pos := _, after := _, guard := _ }) rfl (fun K hK => ?_) AllReadyH.nil
          rw [if_pos (by rfl)]
          obtain ⟨wq5, hr5, hl5, hb5, hk5⟩ := vv_store (v := metE n R) hlD14 hM16 rfl hb4 loD1
          refine y_store (ty := 24) (x := .tmp 10) (y := .tmp 36) (ad := ⟨D1, 0, none⟩) (v := .agg (vals (metE n R))) (w' := wq5) rfl rfl rfl hr5 ?_
          have ho5 := hk5 D2 _ hne.symm hlD24
          have hO5 : IsMop wq5 b (off + k * 17) (O k) := hOd.same (hb5.block b hbl)
          refine hK.out _ _ hO5 (fun hHeld => ?_)
          clear hK K
          simp only [Act.put]
          clear hHeld
          refine wpAnyH_ready (rs := [12]) (by kernel_rfl) (by simp) ?_
          refine AllReadyH.cons (o := { dst := none, op := _, type := _, pos := _, after := _, guard := _ }) rfl (fun K hK => ?_) AllReadyH.nil
          rw [if_pos (by rfl)]
          obtain ⟨wq6, hr6, hl6, hb6, hk6⟩ := vv_store (v := rowE n R (O k).1) ho5 hX16 rfl hb5 loD2
          refine y_store (ty := 24) (x := .tmp 11) (y := .tmp 43) (ad := ⟨D2, 0, none⟩) (v := .agg (vals (rowE n R (O k).1))) (w' := wq6) rfl rfl rfl hr6 ?_
          have ho6 := hk6 D1 _ hne hl5
          have hO6 : IsMop wq6 b (off + k * 17) (O k) := hOd.same (hb6.block b hbl)
          refine hK.out _ _ hO6 (fun hHeld => ?_)
          clear hK K
          simp only [Act.put]
          clear hHeld
          have hHeld := hOd
          refine wpAnyH_done (by kernel_rfl) ?_ _
          refine NoPanic.normal ?_
          have HF : Aside (Lies wq6 D1 (metE n R) ∧ Lies wq6 D2 (rowE n R (O k).1) ∧ D1 ≠ D2 ∧ wr.heap.size ≤ D1 ∧ wr.heap.size ≤ D2 ∧ Below wr.heap.size wr wq6) := ⟨ho6, hl6, hne, by rw [← hsz]; exact loD1, by rw [← hsz]; exact loD2, hwd.trans (by rw [← hsz]; exact hb6)⟩
          clear hHeld
          go_wp2
          go_meet
          case rel => exact ⟨_, _, rfl, rfl, HF⟩
        refine AllReadyH.cons (o := { dst := some 11, op := _, type := _, pos := _, after := _, guard := _ }) rfl (fun K hK => ?_) AllReadyH.nil
        rw [if_pos (by rfl)]
        obtain ⟨D2, wq1, hr1, hl1, hg1, hd1⟩ := vv_alloc W0
        refine y_alloc (ty := 24) rfl hr1 ?_
        have hb1 : Below W0.heap.size W0 wq1 := hb00.trans (hg1.mono hb00.size)
        have loD2 : W0.heap.size ≤ D2 := Nat.le_trans hb00.size hd1
        have hO1 : IsMop wq1 b (off + k * 17) (O k) := hOd.same (hb1.block b hbl)
        refine hK.out _ _ hO1 (fun hHeld => ?_)
        clear hK K
        simp only [Act.put, List.setIfInBounds_toArray, List.set_cons_zero, List.set_cons_succ]
        clear hHeld
        refine wpAnyH_ready (rs := [1, 9]) (by kernel_rfl) (by simp) ?_
        refine AllReadyH.cons (o := { dst := some 36, op := _, type := _, pos := _, after := _, guard := _ }) rfl (fun K hK => ?_) ?_
        · rw [if_pos (by rfl)]
          refine y_call (f := 13) (xs := [.tmp 35]) (vs := [.pointer (some ⟨G, 0, none⟩)]) rfl rfl (enters_mstab _ _) (mstab_any _ n R wq1 (hM0.below hb1 hM0.lt).mp) ?_
          rintro ex wq2 ⟨rfl, hg2⟩
          refine ⟨_, rfl, ?_⟩
          have hb2 : Below W0.heap.size W0 wq2 := hb1.trans (hg2.mono hb1.size)
          have hlD22 : Lies wq2 D2 zeros := hl1.below hg2 hl1.lt
          have hO2 : IsMop wq2 b (off + k * 17) (O k) := hOd.same (hb2.block b hbl)
          refine hK.out _ _ hO2 (fun hHeld => ?_)
          clear hK K
          simp only [Act.put, List.setIfInBounds_toArray, List.set_cons_zero, List.set_cons_succ]
          clear hHeld
          refine wpAnyH_ready (rs := [8, 9]) (by kernel_rfl) (by simp) ?_
          refine AllReadyH.cons (o := { dst := some 43, op := _, type := _, pos := _, after := _, guard := _ }) rfl (fun K hK => ?_) ?_
          · rw [if_pos (by rfl)]
            refine y_call (f := 17) (xs := [.tmp 37, .tmp 42]) (vs := [.pointer (some ⟨G, 0, none⟩), .int .i64 (O k).1]) rfl rfl (enters_mrow _ _) (mrow_any _ n R (O k).1 wq2 (hM0.below hb2 hM0.lt).mp) ?_
            rintro ex wq3 ⟨rfl, hg3⟩
            refine ⟨_, rfl, ?_⟩
            have hb3 : Below W0.heap.size W0 wq3 := hb2.trans (hg3.mono hb2.size)
            have hlD23 : Lies wq3 D2 zeros := hlD22.below hg3 hlD22.lt
            have hO3 : IsMop wq3 b (off + k * 17) (O k) := hOd.same (hb3.block b hbl)
            refine hK.out _ _ hO3 (fun hHeld => ?_)
            clear hK K
            simp only [Act.put, List.setIfInBounds_toArray, List.set_cons_zero, List.set_cons_succ]
            clear hHeld
            refine wpAnyH_ready (rs := [9]) (by kernel_rfl) (by simp) ?_
            refine AllReadyH.cons (o := { dst := some 10, op := _, type := _, pos := _, after := _, guard := _ }) rfl (fun K hK => ?_) AllReadyH.nil
            rw [if_pos (by rfl)]
            obtain ⟨D1, wq4, hr4, hl4, hg4, hd4⟩ := vv_alloc wq3
            refine y_alloc (ty := 24) rfl hr4 ?_
            have hb4 : Below W0.heap.size W0 wq4 := hb3.trans (hg4.mono hb3.size)
            have hlD24 : Lies wq4 D2 zeros := hlD23.below hg4 hlD23.lt
            have loD1 : W0.heap.size ≤ D1 := Nat.le_trans hb3.size hd4
            have hne : D1 ≠ D2 := by have := hlD23.lt; omega
            have hO4 : IsMop wq4 b (off + k * 17) (O k) := hOd.same (hb4.block b hbl)
            refine hK.out _ _ hO4 (fun hHeld => ?_)
            clear hK K
            simp only [Act.put, List.setIfInBounds_toArray, List.set_cons_zero, List.set_cons_succ]
            clear hHeld
            refine wpAnyH_ready (rs := [11]) (by kernel_rfl) (by simp) ?_
            refine AllReadyH.cons (o := { dst := none, op := _, type := _, pos := _, after := _, guard := _ }) rfl (fun K hK => ?_) AllReadyH.nil
            rw [if_pos (by rfl)]
            obtain ⟨wq5, hr5, hl5, hb5, hk5⟩ := vv_store (v := metE n R) hl4 hM16 rfl hb4 loD1
            refine y_store (ty := 24) (x := .tmp 10) (y := .tmp 36) (ad := ⟨D1, 0, none⟩) (v := .agg (vals (metE n R))) (w' := wq5) rfl rfl rfl hr5 ?_
            have ho5 := hk5 D2 _ hne.symm hlD24
            have hO5 : IsMop wq5 b (off + k * 17) (O k) := hOd.same (hb5.block b hbl)
            refine hK.out _ _ hO5 (fun hHeld => ?_)
            clear hK K
            simp only [Act.put]
            clear hHeld
            refine wpAnyH_ready (rs := [12]) (by kernel_rfl) (by simp) ?_
            refine AllReadyH.cons (o := { dst := none, op := _, type := _, pos := _, after := _, guard := _ }) rfl (fun K hK => ?_) AllReadyH.nil
            rw [if_pos (by rfl)]
            obtain ⟨wq6, hr6, hl6, hb6, hk6⟩ := vv_store (v := rowE n R (O k).1) ho5 hX16 rfl hb5 loD2
            refine y_store (ty := 24) (x := .tmp 11) (y := .tmp 43) (ad := ⟨D2, 0, none⟩) (v := .agg (vals (rowE n R (O k).1))) (w' := wq6) rfl rfl rfl hr6 ?_
            have ho6 := hk6 D1 _ hne hl5
            have hO6 : IsMop wq6 b (off + k * 17) (O k) := hOd.same (hb6.block b hbl)
            refine hK.out _ _ hO6 (fun hHeld => ?_)
            clear hK K
            simp only [Act.put]
            clear hHeld
            have hHeld := hOd
            refine wpAnyH_done (by kernel_rfl) ?_ _
            refine NoPanic.normal ?_
            have HF : Aside (Lies wq6 D1 (metE n R) ∧ Lies wq6 D2 (rowE n R (O k).1) ∧ D1 ≠ D2 ∧ wr.heap.size ≤ D1 ∧ wr.heap.size ≤ D2 ∧ Below wr.heap.size wr wq6) := ⟨ho6, hl6, hne, by rw [← hsz]; exact loD1, by rw [← hsz]; exact loD2, hwd.trans (by rw [← hsz]; exact hb6)⟩
            clear hHeld
            go_wp2
            go_meet
            case rel => exact ⟨_, _, rfl, rfl, HF⟩
          refine AllReadyH.cons (o := { dst := some 10, op := _, type := _, pos := _, after := _, guard := _ }) rfl (fun K hK => ?_) AllReadyH.nil
          rw [if_pos (by rfl)]
          obtain ⟨D1, wq3, hr3, hl3, hg3, hd3⟩ := vv_alloc wq2
          refine y_alloc (ty := 24) rfl hr3 ?_
          have hb3 : Below W0.heap.size W0 wq3 := hb2.trans (hg3.mono hb2.size)
          have hlD23 : Lies wq3 D2 zeros := hlD22.below hg3 hlD22.lt
          have loD1 : W0.heap.size ≤ D1 := Nat.le_trans hb2.size hd3
          have hne : D1 ≠ D2 := by have := hlD22.lt; omega
          have hO3 : IsMop wq3 b (off + k * 17) (O k) := hOd.same (hb3.block b hbl)
          refine hK.out _ _ hO3 (fun hHeld => ?_)
          clear hK K
          simp only [Act.put, List.setIfInBounds_toArray, List.set_cons_zero, List.set_cons_succ]
          clear hHeld
          refine wpAnyH_ready (rs := [8]) (by kernel_rfl) (by simp) ?_
          refine AllReadyH.cons (o := { dst := some 43, op := _, type := _, pos := _, after := _, guard := _ }) rfl (fun K hK => ?_) AllReadyH.nil
          rw [if_pos (by rfl)]
          refine y_call (f := 17) (xs := [.tmp 37, .tmp 42]) (vs := [.pointer (some ⟨G, 0, none⟩), .int .i64 (O k).1]) rfl rfl (enters_mrow _ _) (mrow_any _ n R (O k).1 wq3 (hM0.below hb3 hM0.lt).mp) ?_
          rintro ex wq4 ⟨rfl, hg4⟩
          refine ⟨_, rfl, ?_⟩
          have hb4 : Below W0.heap.size W0 wq4 := hb3.trans (hg4.mono hb3.size)
          have hlD24 : Lies wq4 D2 zeros := hlD23.below hg4 hlD23.lt
          have hlD14 : Lies wq4 D1 zeros := hl3.below hg4 hl3.lt
          have hO4 : IsMop wq4 b (off + k * 17) (O k) := hOd.same (hb4.block b hbl)
          refine hK.out _ _ hO4 (fun hHeld => ?_)
          clear hK K
          simp only [Act.put, List.setIfInBounds_toArray, List.set_cons_zero, List.set_cons_succ]
          clear hHeld
          refine wpAnyH_ready (rs := [11]) (by kernel_rfl) (by simp) ?_
          refine AllReadyH.cons (o := { dst := none, op := _, type := _, pos := _, after := _, guard := _ }) rfl (fun K hK => ?_) AllReadyH.nil
          rw [if_pos (by rfl)]
          obtain ⟨wq5, hr5, hl5, hb5, hk5⟩ := vv_store (v := metE n R) hlD14 hM16 rfl hb4 loD1
          refine y_store (ty := 24) (x := .tmp 10) (y := .tmp 36) (ad := ⟨D1, 0, none⟩) (v := .agg (vals (metE n R))) (w' := wq5) rfl rfl rfl hr5 ?_
          have ho5 := hk5 D2 _ hne.symm hlD24
          have hO5 : IsMop wq5 b (off + k * 17) (O k) := hOd.same (hb5.block b hbl)
          refine hK.out _ _ hO5 (fun hHeld => ?_)
          clear hK K
          simp only [Act.put]
          clear hHeld
          refine wpAnyH_ready (rs := [12]) (by kernel_rfl) (by simp) ?_
          refine AllReadyH.cons (o := { dst := none, op := _, type := _, pos := _, after := _, guard := _ }) rfl (fun K hK => ?_) AllReadyH.nil
          rw [if_pos (by rfl)]
          obtain ⟨wq6, hr6, hl6, hb6, hk6⟩ := vv_store (v := rowE n R (O k).1) ho5 hX16 rfl hb5 loD2
          refine y_store (ty := 24) (x := .tmp 11) (y := .tmp 43) (ad := ⟨D2, 0, none⟩) (v := .agg (vals (rowE n R (O k).1))) (w' := wq6) rfl rfl rfl hr6 ?_
          have ho6 := hk6 D1 _ hne hl5
          have hO6 : IsMop wq6 b (off + k * 17) (O k) := hOd.same (hb6.block b hbl)
          refine hK.out _ _ hO6 (fun hHeld => ?_)
          clear hK K
          simp only [Act.put]
          clear hHeld
          have hHeld := hOd
          refine wpAnyH_done (by kernel_rfl) ?_ _
          refine NoPanic.normal ?_
          have HF : Aside (Lies wq6 D1 (metE n R) ∧ Lies wq6 D2 (rowE n R (O k).1) ∧ D1 ≠ D2 ∧ wr.heap.size ≤ D1 ∧ wr.heap.size ≤ D2 ∧ Below wr.heap.size wr wq6) := ⟨ho6, hl6, hne, by rw [← hsz]; exact loD1, by rw [← hsz]; exact loD2, hwd.trans (by rw [← hsz]; exact hb6)⟩
          clear hHeld
          go_wp2
          go_meet
          case rel => exact ⟨_, _, rfl, rfl, HF⟩
        refine AllReadyH.cons (o := { dst := some 10, op := _, type := _, pos := _, after := _, guard := _ }) rfl (fun K hK => ?_) AllReadyH.nil
        rw [if_pos (by rfl)]
        obtain ⟨D1, wq2, hr2, hl2, hg2, hd2⟩ := vv_alloc wq1
        refine y_alloc (ty := 24) rfl hr2 ?_
        have hb2 : Below W0.heap.size W0 wq2 := hb1.trans (hg2.mono hb1.size)
        have hlD22 : Lies wq2 D2 zeros := hl1.below hg2 hl1.lt
        have loD1 : W0.heap.size ≤ D1 := Nat.le_trans hb1.size hd2
        have hne : D1 ≠ D2 := by have := hl1.lt; omega
        have hO2 : IsMop wq2 b (off + k * 17) (O k) := hOd.same (hb2.block b hbl)
        refine hK.out _ _ hO2 (fun hHeld => ?_)
        clear hK K
        simp only [Act.put, List.setIfInBounds_toArray, List.set_cons_zero, List.set_cons_succ]
        clear hHeld
        refine wpAnyH_ready (rs := [1]) (by kernel_rfl) (by simp) ?_
        refine AllReadyH.cons (o := { dst := some 36, op := _, type := _, pos := _, after := _, guard := _ }) rfl (fun K hK => ?_) AllReadyH.nil
        rw [if_pos (by rfl)]
        refine y_call (f := 13) (xs := [.tmp 35]) (vs := [.pointer (some ⟨G, 0, none⟩)]) rfl rfl (enters_mstab _ _) (mstab_any _ n R wq2 (hM0.below hb2 hM0.lt).mp) ?_
        rintro ex wq3 ⟨rfl, hg3⟩
        refine ⟨_, rfl, ?_⟩
        have hb3 : Below W0.heap.size W0 wq3 := hb2.trans (hg3.mono hb2.size)
        have hlD23 : Lies wq3 D2 zeros := hlD22.below hg3 hlD22.lt
        have hlD13 : Lies wq3 D1 zeros := hl2.below hg3 hl2.lt
        have hO3 : IsMop wq3 b (off + k * 17) (O k) := hOd.same (hb3.block b hbl)
        refine hK.out _ _ hO3 (fun hHeld => ?_)
        clear hK K
        simp only [Act.put, List.setIfInBounds_toArray, List.set_cons_zero, List.set_cons_succ]
        clear hHeld
        refine wpAnyH_ready (rs := [8]) (by kernel_rfl) (by simp) ?_
        refine AllReadyH.cons (o := { dst := some 43, op := _, type := _, pos := _, after := _, guard := _ }) rfl (fun K hK => ?_) AllReadyH.nil
        rw [if_pos (by rfl)]
        refine y_call (f := 17) (xs := [.tmp 37, .tmp 42]) (vs := [.pointer (some ⟨G, 0, none⟩), .int .i64 (O k).1]) rfl rfl (enters_mrow _ _) (mrow_any _ n R (O k).1 wq3 (hM0.below hb3 hM0.lt).mp) ?_
        rintro ex wq4 ⟨rfl, hg4⟩
        refine ⟨_, rfl, ?_⟩
        have hb4 : Below W0.heap.size W0 wq4 := hb3.trans (hg4.mono hb3.size)
        have hlD24 : Lies wq4 D2 zeros := hlD23.below hg4 hlD23.lt
        have hlD14 : Lies wq4 D1 zeros := hlD13.below hg4 hlD13.lt
        have hO4 : IsMop wq4 b (off + k * 17) (O k) := hOd.same (hb4.block b hbl)
        refine hK.out _ _ hO4 (fun hHeld => ?_)
        clear hK K
        simp only [Act.put, List.setIfInBounds_toArray, List.set_cons_zero, List.set_cons_succ]
        clear hHeld
        refine wpAnyH_ready (rs := [11]) (by kernel_rfl) (by simp) ?_
        refine AllReadyH.cons (o := { dst := none, op := _, type := _, pos := _, after := _, guard := _ }) rfl (fun K hK => ?_) AllReadyH.nil
        rw [if_pos (by rfl)]
        obtain ⟨wq5, hr5, hl5, hb5, hk5⟩ := vv_store (v := metE n R) hlD14 hM16 rfl hb4 loD1
        refine y_store (ty := 24) (x := .tmp 10) (y := .tmp 36) (ad := ⟨D1, 0, none⟩) (v := .agg (vals (metE n R))) (w' := wq5) rfl rfl rfl hr5 ?_
        have ho5 := hk5 D2 _ hne.symm hlD24
        have hO5 : IsMop wq5 b (off + k * 17) (O k) := hOd.same (hb5.block b hbl)
        refine hK.out _ _ hO5 (fun hHeld => ?_)
        clear hK K
        simp only [Act.put]
        clear hHeld
        refine wpAnyH_ready (rs := [12]) (by kernel_rfl) (by simp) ?_
        refine AllReadyH.cons (o := { dst := none, op := _, type := _, pos := _, after := _, guard := _ }) rfl (fun K hK => ?_) AllReadyH.nil
        rw [if_pos (by rfl)]
        obtain ⟨wq6, hr6, hl6, hb6, hk6⟩ := vv_store (v := rowE n R (O k).1) ho5 hX16 rfl hb5 loD2
        refine y_store (ty := 24) (x := .tmp 11) (y := .tmp 43) (ad := ⟨D2, 0, none⟩) (v := .agg (vals (rowE n R (O k).1))) (w' := wq6) rfl rfl rfl hr6 ?_
        have ho6 := hk6 D1 _ hne hl5
        have hO6 : IsMop wq6 b (off + k * 17) (O k) := hOd.same (hb6.block b hbl)
        refine hK.out _ _ hO6 (fun hHeld => ?_)
        clear hK K
        simp only [Act.put]
        clear hHeld
        have hHeld := hOd
        refine wpAnyH_done (by kernel_rfl) ?_ _
        refine NoPanic.normal ?_
        have HF : Aside (Lies wq6 D1 (metE n R) ∧ Lies wq6 D2 (rowE n R (O k).1) ∧ D1 ≠ D2 ∧ wr.heap.size ≤ D1 ∧ wr.heap.size ≤ D2 ∧ Below wr.heap.size wr wq6) := ⟨ho6, hl6, hne, by rw [← hsz]; exact loD1, by rw [← hsz]; exact loD2, hwd.trans (by rw [← hsz]; exact hb6)⟩
        clear hHeld
        go_wp2
        go_meet
        case rel => exact ⟨_, _, rfl, rfl, HF⟩
      case rest =>
      obtain ⟨D1, D2, rfl, rfl, HZ⟩ := hcut
      rename World => wx
      obtain ⟨hD1, hD2, hne, hg1, hg2, hbx⟩ := HZ.out
      clear HZ
      have hM := hM.below hbx hM.lt
      have hS := hS.below hbx hS.lt
      have hOs := hOs.below (hbx.mono hB.size)
      have hO := hO.same (hbx.block b hbl)
      have hB := hB.trans (hbx.mono hB.size)
      have hbl := Nat.lt_of_lt_of_le hbl hbx.size
      clear hbx
      go_wp2_with fail
      have hOd : IsMop wx.drew b (off + k * 17) (O k) := hO.same rfl
      refine wp_region_noPanic ?_
      refine wp_region_held_drew (S := fun W' : World => IsMop W' b (off + k * 17) (O k)) (by kernel_rfl) hOd (fun hHeld => ?_)
      refine wpAnyH_take (i := 0) (oi := { dst := some 44, op := _, type := _, pos := _, after := _, guard := _ }) (v := .pointer (some ⟨G, 0, none⟩)) rfl (by kernel_rfl) (by kernel_rfl) (by kernel_rfl) (fun _ _ _ h => h) (Or.inl ⟨by rfl, ?_⟩) (by assumption) ?_
      · intro w9 hSw
        exact y_move rfl rfl
      simp only [Act.put, List.setIfInBounds_toArray, List.set_cons_zero, List.set_cons_succ]
      refine wpAnyH_take (i := 1) (oi := { dst := some 45, op := _, type := _, pos := _, after := _, guard := _ }) (v := .slice (some ⟨b, off, none⟩) len cap) rfl (by kernel_rfl) (by kernel_rfl) (by kernel_rfl) (fun _ _ _ h => h) (Or.inl ⟨by rfl, ?_⟩) (by assumption) ?_
      · intro w9 hSw
        exact y_move rfl rfl
      simp only [Act.put, List.setIfInBounds_toArray, List.set_cons_zero, List.set_cons_succ]
      refine wpAnyH_take (i := 2) (oi := { dst := some 46, op := _, type := _, pos := _, after := _, guard := _ }) (v := .int .i64 (k : Int)) rfl (by kernel_rfl) (by kernel_rfl) (by kernel_rfl) (fun _ _ _ h => h) (Or.inl ⟨by rfl, ?_⟩) (by assumption) ?_
      · intro w9 hSw
        exact y_move rfl rfl
      simp only [Act.put, List.setIfInBounds_toArray, List.set_cons_zero, List.set_cons_succ]
      refine wpAnyH_take (i := 3) (oi := { dst := some 47, op := _, type := _, pos := _, after := _, guard := _ }) (v := .pointer (some ⟨b, off + k * 17, none⟩)) rfl (by kernel_rfl) (by kernel_rfl) (by kernel_rfl) (fun _ _ _ h => h) (Or.inl ⟨by rfl, ?_⟩) (by assumption) ?_
      · intro w9 hSw
        exact y_index rfl rfl rfl (run_indexAt_mops _ _ _ _ _ _ hkl)
      simp only [Act.put, List.setIfInBounds_toArray, List.set_cons_zero, List.set_cons_succ]
      refine wpAnyH_take (i := 4) (oi := { dst := some 48, op := _, type := _, pos := _, after := _, guard := _ }) (v := .pointer (some ⟨b, off + k * 17, none⟩)) rfl (by kernel_rfl) (by kernel_rfl) (by kernel_rfl) (fun _ _ _ h => h) (Or.inl ⟨by rfl, ?_⟩) (by assumption) ?_
      · intro w9 hSw
        exact y_field rfl rfl (field_o0 _ _ _)
      simp only [Act.put, List.setIfInBounds_toArray, List.set_cons_zero, List.set_cons_succ]
      refine wpAnyH_take (i := 5) (oi := { dst := some 49, op := _, type := _, pos := _, after := _, guard := _ }) (v := .int .i64 (O k).1) rfl (by kernel_rfl) (by kernel_rfl) (by kernel_rfl) (fun _ _ _ h => h) (Or.inl ⟨by rfl, ?_⟩) (by assumption) ?_
      · intro w9 hSw
        exact y_load rfl rfl (load_int_run hSw.num)
      simp only [Act.put, List.setIfInBounds_toArray, List.set_cons_zero, List.set_cons_succ]
      refine wpAnyH_take (i := 6) (oi := { dst := some 50, op := _, type := _, pos := _, after := _, guard := _ }) (v := .slice (some ⟨b, off, none⟩) len cap) rfl (by kernel_rfl) (by kernel_rfl) (by kernel_rfl) (fun _ _ _ h => h) (Or.inl ⟨by rfl, ?_⟩) (by assumption) ?_
      · intro w9 hSw
        exact y_move rfl rfl
      simp only [Act.put, List.setIfInBounds_toArray, List.set_cons_zero, List.set_cons_succ]
      refine wpAnyH_take (i := 7) (oi := { dst := some 51, op := _, type := _, pos := _, after := _, guard := _ }) (v := .int .i64 (k : Int)) rfl (by kernel_rfl) (by kernel_rfl) (by kernel_rfl) (fun _ _ _ h => h) (Or.inl ⟨by rfl, ?_⟩) (by assumption) ?_
      · intro w9 hSw
        exact y_move rfl rfl
      simp only [Act.put, List.setIfInBounds_toArray, List.set_cons_zero, List.set_cons_succ]
      refine wpAnyH_take (i := 8) (oi := { dst := some 52, op := _, type := _, pos := _, after := _, guard := _ }) (v := .pointer (some ⟨b, off + k * 17, none⟩)) rfl (by kernel_rfl) (by kernel_rfl) (by kernel_rfl) (fun _ _ _ h => h) (Or.inl ⟨by rfl, ?_⟩) (by assumption) ?_
      · intro w9 hSw
        exact y_index rfl rfl rfl (run_indexAt_mops _ _ _ _ _ _ hkl)
      simp only [Act.put, List.setIfInBounds_toArray, List.set_cons_zero, List.set_cons_succ]
      refine wpAnyH_take (i := 9) (oi := { dst := some 53, op := _, type := _, pos := _, after := _, guard := _ }) (v := .pointer (some ⟨b, off + k * 17 + 1, none⟩)) rfl (by kernel_rfl) (by kernel_rfl) (by kernel_rfl) (fun _ _ _ h => h) (Or.inl ⟨by rfl, ?_⟩) (by assumption) ?_
      · intro w9 hSw
        exact y_field rfl rfl (field_o1 _ _ _)
      simp only [Act.put, List.setIfInBounds_toArray, List.set_cons_zero, List.set_cons_succ]
      refine wpAnyH_take (i := 10) (oi := { dst := some 54, op := _, type := _, pos := _, after := _, guard := _ }) (v := .agg (vals ((O k).2))) rfl (by kernel_rfl) (by kernel_rfl) (by kernel_rfl) (fun _ _ _ h => h) (Or.inl ⟨by rfl, ?_⟩) (by assumption) ?_
      · intro w9 hSw
        exact y_load rfl rfl hSw.load
      simp only [Act.put, List.setIfInBounds_toArray, List.set_cons_zero, List.set_cons_succ]
      clear hHeld
      refine wpAnyH_ready (rs := [11]) (by kernel_rfl) (by simp) ?_
      refine AllReadyH.cons (o := { dst := some 55, op := _, type := _, pos := _, after := _, guard := _ }) rfl (fun K hK => ?_) AllReadyH.nil
      rw [if_pos (by rfl)]
      refine y_call (f := 11) (xs := [.tmp 44, .tmp 49, .tmp 54]) (vs := [.pointer (some ⟨G, 0, none⟩), .int .i64 (O k).1, .agg (vals ((O k).2))]) rfl rfl (enters_msee _ _) (msee_mat G n R _ _ hO.len wx.drew hM.drew) ?_
      rintro ex w4 ⟨rfl, hM4, hC4⟩
      refine ⟨_, rfl, ?_⟩
      have hO4 : IsMop w4 b (off + k * 17) (O k) := hOd.same (hC4.block b hbl hbG)
      refine hK.out _ _ hO4 (fun hHeld => ?_)
      clear hK K
      simp only [Act.put, List.setIfInBounds_toArray, List.set_cons_zero, List.set_cons_succ]
      refine wpAnyH_done (by kernel_rfl) ?_ _
      refine NoPanic.normal ?_
      clear hHeld
      have hBw : Below w.heap.size wx.drew w4 := hC4.below (by omega) hB.size
      have hM := hM4
      have hS := hS.drew.chg hC4 (by omega)
      have hOs := (show MopsB wx.drew (some ⟨b, off, none⟩) len w.heap.size O from hOs.below ((Below.refl _ wx).drew)).below hBw
      have hD1 := hD1.drew.chg hC4 (by omega)
      have hD2 := hD2.drew.chg hC4 (by omega)
      have hB := hB.drew.trans hBw
      have hbl : b < w4.heap.size := Nat.lt_of_lt_of_le hbF hB.size
      have hr := hO4.num
      have hle : ∀ z i, i < 16 → (R z).getD i 0 ≤ (seeR n R (O k).1 (O k).2 z).getD i 0 := rows_le h16 hv16
      have h216 : ∀ z, (seeR n R (O k).1 (O k).2 z).length = 16 := seeR_len h16 hv16
      have Hm1 : Hid (most (metE n R) (metE n (seeR n R (O k).1 (O k).2)) = true) := metE_mono h16 h216 hle
      have Hm2 : Hid (most (rowE n R (O k).1) (rowE n (seeR n R (O k).1 (O k).2) (O k).1) = true) := rowE_mono hle _
      generalize seeR n R (O k).1 (O k).2 = R2 at *
      obtain ⟨X2, hX2⟩ : ∃ X2, rowE n R2 (O k).1 = X2 := ⟨_, rfl⟩
      have hX216 : X2.length = 16 := by rw [← hX2]; exact rowE_len h216
      rw [hX2] at Hm2
      have HX2 : Hid (rowE n R2 (O k).1 = X2) := hX2
      generalize rowE n R (O k).1 = X at *
      generalize (O k).1 = r at *
      have hT := mstab_any _ n R2 w4 hM.mp
      have hM216 : (metE n R2).length = 16 := metE_len h216
      have Hm3 : Hid (∀ j, j < n → most (metE n R2) (R2 j) = true) := fun j hj => metE_row h216 hj
      have Hcc : Hid (cutE n R2 s = metE n R2 ∨ cutE n R2 s = zeros) := cutE_or s
      obtain ⟨J, hJ⟩ : ∃ J, each max s (metE n R2) = J := ⟨_, rfl⟩
      have hJ16 : J.length = 16 := by rw [← hJ]; exact each_length max s _ hs hM216
      have Hw : Hid (cutE n R2 J ≠ metE n R2 → wholeTo R2 J n = false) := fun h => by
        rcases hx : wholeTo R2 J n
        · rfl
        · exact absurd (cutE_whole hx) h
      obtain ⟨c, hc⟩ : ∃ c, cutE n R2 s = c := ⟨_, rfl⟩
      obtain ⟨c2, hc2⟩ : ∃ c2, cutE n R2 J = c2 := ⟨_, rfl⟩
      have hc16 : c.length = 16 := by rw [← hc]; exact cutE_len h216
      have hc216 : c2.length = 16 := by rw [← hc2]; exact cutE_len h216
      have HC := fun W (h : Mat W G n R2) => mcut_any _ n R2 s hs W h.mp
      rw [hc] at Hcc HC
      rw [hc2] at Hw
      have Hc2 : Hid (cutE n R2 J = c2) := hc2
      generalize metE n R2 = M2 at *
      generalize metE n R = M at *
      have HJ : Hid (each max s M2 = J) := hJ
      clear hX2 hJ hc hc2 hM4 hC4 hO4 hOd hO hBw hle h16 hv16
      go_wp2_with fail
      refine Calls.mono hT ?_
      rintro e w5 ⟨rfl, hb5⟩
      clear hT
      have hbx5 : Below w4.heap.size w4 w5 := hb5
      have hn0 := lies_new w5 zeros
      have hst := store_run (l := M2) hn0 hM216 rfl
      have hbn : Below w5.heap.size w5 ((w5.alloc (.cells (vals zeros) 24)).setRow w5.heap.size (vals M2)) := below_setRow ((Below.refl _ w5).alloc (Nat.le_refl _) _) (Nat.le_refl _) _
      have hD3 := hn0.row M2
      have hbq := hb5.trans (hbn.mono hb5.size)
      clear hbn
      generalize hW6 : (w5.alloc (.cells (vals zeros) 24)).setRow w5.heap.size (vals M2) = w6 at *
      generalize hE3 : w5.heap.size = D3 at *
      rw [zeros_vals] at hst
      go_wp2_with (refine wpList_storeR (ty := 24) (x := .tmp 12) (y := .tmp 57) (ad := ⟨D3, 0, none⟩) (v := .agg (vals M2)) (w' := w6) rfl rfl rfl rfl hst ?_)
      have hM := hM.below hbq hM.lt
      have hS := hS.below hbq hS.lt
      have hOs := hOs.below (hbq.mono hB.size)
      have hD1 := hD1.below hbq hD1.lt
      have hD2 := hD2.below hbq hD2.lt
      have hr : w6.cell? ⟨b, off + k * 17, none⟩ = some (.int .i64 r) := by rw [cell_same (hbq.block b hbl)]; exact hr
      have hB := hB.trans (hbq.mono hB.size)
      have hbl := Nat.lt_of_lt_of_le hbl hbq.size
      clear hbq hst hn0 hW6 hE3 hb5 hbx5
      refine region_vals [58, 59, 60, 61, 62, 63, 64, 65, 66, 67, 68, 69, 70, 71, 72, 73] [.agg (vals (M)), .agg (vals (M2)), .bool true, .bool false, .bool false, .agg (vals (X)), .pointer (some ⟨G, 0, none⟩), .slice (some ⟨b, off, none⟩) len cap, .int .i64 (k : Int), .pointer (some ⟨b, off + k * 17, none⟩), .pointer (some ⟨b, off + k * 17, none⟩), .int .i64 r, .agg (vals (X2)), .bool true, .bool false, .bool false] _ (by kernel_rfl) (by kernel_rfl) (by rfl) (by decide) (by kernel_rfl) (by simp only [lay, Act.put, List.setIfInBounds_toArray, List.set_cons_zero, List.set_cons_succ, List.getD_cons_zero, List.getD_cons_succ, Nat.reduceAdd]; rfl) ⟨?_, ?_, ?_, ?_, ?_, ?_, ?_, ?_, ?_, ?_, ?_, ?_, ?_, ?_, ?_, ?_, trivial⟩ ?_
      · exact .inl ⟨rfl, fun W hb => yields_load rfl rfl (load_run (hD1.below hb hD1.lt) hM16)⟩
      · exact .inl ⟨rfl, fun W hb => yields_load rfl rfl (load_run (hD3.below hb hD3.lt) hM216)⟩
      · exact .inl ⟨rfl, fun W hb => yields_call (f := 18) (xs := [.tmp 58, .tmp 59]) (vs := [.agg (vals (M)), .agg (vals (M2))]) (v := .bool true) rfl rfl (enters_most _ _) (okbool (most_any M M2 hM16 hM216 W) Hm1.out)⟩
      · exact .inl ⟨rfl, fun W hb => yields_un rfl rfl rfl⟩
      · exact .inl ⟨rfl, fun W hb => yields_move rfl rfl⟩
      · exact .inl ⟨rfl, fun W hb => yields_load rfl rfl (load_run (hD2.below hb hD2.lt) hX16)⟩
      · exact .inl ⟨rfl, fun W hb => yields_move rfl rfl⟩
      · exact .inl ⟨rfl, fun W hb => yields_move rfl rfl⟩
      · exact .inl ⟨rfl, fun W hb => yields_move rfl rfl⟩
      · exact .inl ⟨rfl, fun W hb => yields_indexAddr rfl rfl rfl (run_indexAt_mops _ _ _ _ _ _ hkl)⟩
      · exact .inl ⟨rfl, fun W hb => yields_field rfl rfl (field_o0 _ _ _)⟩
      · exact .inl ⟨rfl, fun W hb => yields_load rfl rfl (load_int_run (by rw [cell_same (hb.block b hbl)]; exact hr))⟩
      · exact .inl ⟨rfl, fun W hb => yields_call (f := 17) (xs := [.tmp 64, .tmp 69]) (vs := [.pointer (some ⟨G, 0, none⟩), .int .i64 r]) (v := .agg (vals (X2))) rfl rfl (enters_mrow _ _) (by rw [← HX2.out]; exact mrow_any _ n R2 r W (hM.below hb hM.lt).mp)⟩
      · exact .inl ⟨rfl, fun W hb => yields_call (f := 18) (xs := [.tmp 63, .tmp 70]) (vs := [.agg (vals (X)), .agg (vals (X2))]) (v := .bool true) rfl rfl (enters_most _ _) (okbool (most_any X X2 hX16 hX216 W) Hm2.out)⟩
      · exact .inl ⟨rfl, fun W hb => yields_un rfl rfl rfl⟩
      · exact .inl ⟨rfl, fun W hb => yields_pick (b := false) rfl rfl rfl⟩
      intro w7 hb7
      have hM := hM.below hb7 hM.lt
      have hS := hS.below hb7 hS.lt
      have hOs := hOs.below (hb7.mono hB.size)
      have hD3 := hD3.below hb7 hD3.lt
      have hB := hB.trans (hb7.mono hB.size)
      have hbl := Nat.lt_of_lt_of_le hbl hb7.size
      clear hb7 hr hD1 hD2 Hm1 Hm2 HX2
      go_wp2_with fail
      go_loopw [13] (fun i wz => ∃ j : Nat, j ≤ n ∧ i = .int .i64 (j : Int) ∧ Mat wz G n R2 ∧ Lies wz w.heap.size s ∧ MopsB wz (some ⟨b, off, none⟩) len w.heap.size O ∧ Lies wz D3 M2 ∧ Below w.heap.size w wz) (fun i _ => n - (intOf i).toNat)
      case atStart => exact ⟨0, Nat.zero_le _, rfl, hM, hS, hOs, hD3, hB⟩
      case round =>
        clear hM hS hOs hD3 hB hbl
        rename World => wz
        obtain ⟨j, hj, rfl, hM, hS, hOs, hD3, hB⟩ := hrel
        by_cases hjn : j < n
        · have hmost := Hm3.out j hjn
          go_wp2_with fail
          refine region_vals [79, 80, 81, 82, 83, 84] [.agg (vals (M2)), .pointer (some ⟨G, 0, none⟩), .int .i64 (j : Int), .agg (vals (R2 j)), .bool true, .bool false] _ (by kernel_rfl) (by kernel_rfl) (by rfl) (by decide) (by kernel_rfl) (by simp only [lay, Act.put, List.setIfInBounds_toArray, List.set_cons_zero, List.set_cons_succ, List.getD_cons_zero, List.getD_cons_succ, Nat.reduceAdd]; rfl) ⟨?_, ?_, ?_, ?_, ?_, ?_, trivial⟩ ?_
          · exact .inl ⟨rfl, fun W hb => yields_load rfl rfl (load_run (hD3.below hb hD3.lt) hM216)⟩
          · exact .inl ⟨rfl, fun W hb => yields_move rfl rfl⟩
          · exact .inl ⟨rfl, fun W hb => yields_move rfl rfl⟩
          · exact .inl ⟨rfl, fun W hb => yields_call (f := 17) (xs := [.tmp 80, .tmp 81]) (vs := [.pointer (some ⟨G, 0, none⟩), .int .i64 (j : Int)]) (v := .agg (vals (R2 j))) rfl rfl (enters_mrow _ _) (mrow_in hjn (hM.below hb hM.lt))⟩
          · exact .inl ⟨rfl, fun W hb => yields_call (f := 18) (xs := [.tmp 79, .tmp 82]) (vs := [.agg (vals (M2)), .agg (vals (R2 j))]) (v := .bool true) rfl rfl (enters_most _ _) (okbool (most_any M2 (R2 j) hM216 (hM.grid.len j) W) hmost)⟩
          · exact .inl ⟨rfl, fun W hb => yields_un rfl rfl rfl⟩
          intro w8 hb8
          have HM : Hid (Mat w8 G n R2) := hM.below hb8 hM.lt
          have HS : Hid (Lies w8 w.heap.size s) := hS.below hb8 hS.lt
          have HO : Hid (MopsB w8 (some ⟨b, off, none⟩) len w.heap.size O) := hOs.below (hb8.mono hB.size)
          have HD : Hid (Lies w8 D3 M2) := hD3.below hb8 hD3.lt
          have HB : Hid (Below w.heap.size w w8) := hB.trans (hb8.mono hB.size)
          clear hM hS hOs hD3 hB hb8 hmost
          go_wp2
          go_roundw
          case rel => exact ⟨j + 1, by omega, by go_num, HM.out, HS.out, HO.out, HD.out, HB.out⟩
          case measure => simp [intOf]; omega
        · obtain rfl : n = j := by omega
          have hC := HC _ hM
          go_wp2_with (refine load_vec rfl rfl rfl hS hs ?_)
          refine Calls.mono hC ?_
          rintro e w5 ⟨rfl, hb5⟩
          clear hC HC
          have hn0 := lies_new w5 zeros
          have hst := store_run (l := c) hn0 hc16 rfl
          have hbn : Below w5.heap.size w5 ((w5.alloc (.cells (vals zeros) 24)).setRow w5.heap.size (vals c)) := below_setRow ((Below.refl _ w5).alloc (Nat.le_refl _) _) (Nat.le_refl _) _
          have hD4 := hn0.row c
          have hbq := hb5.trans (hbn.mono hb5.size)
          clear hbn
          generalize hW6 : (w5.alloc (.cells (vals zeros) 24)).setRow w5.heap.size (vals c) = w6 at *
          generalize hE3 : w5.heap.size = D4 at *
          rw [zeros_vals] at hst
          go_wp2_with (refine wpList_storeR (ty := 24) (x := .tmp 14) (y := .tmp 87) (ad := ⟨D4, 0, none⟩) (v := .agg (vals c)) (w' := w6) rfl rfl rfl rfl hst ?_)
          have hM := hM.below hbq hM.lt
          have hS := hS.below hbq hS.lt
          have hOs := hOs.below (hbq.mono hB.size)
          have hD3 := hD3.below hbq hD3.lt
          have hB := hB.trans (hbq.mono hB.size)
          clear hbq hst hn0 hW6 hE3 hb5
          by_cases hq1 : c = M2
          · by_cases hq2 : c2 = M2
            · go_wp2_with fail
              refine B.region_vals [88, 89, 90, 91, 92, 93, 94, 95, 96, 97, 98, 99, 100, 101, 102, 103, 104, 105, 106, 107, 108, 109, 110, 111, 112] [.agg (vals (c)), .agg (vals (M2)), .bool false, .bool false, undef, undef, undef, .bool false, .bool false, .pointer (some ⟨G, 0, none⟩), .agg (vals (s)), .agg (vals (M2)), .agg (vals (J)), .agg (vals (c2)), .agg (vals (M2)), .bool false, .bool false, undef, undef, undef, undef, undef, undef, .bool false, .bool false] _ (by kernel_rfl) (by kernel_rfl) (by rfl) (by decide) (by kernel_rfl) (by simp only [lay, Act.put, List.setIfInBounds_toArray, List.set_cons_zero, List.set_cons_succ, List.getD_cons_zero, List.getD_cons_succ, Nat.reduceAdd]; rfl) ⟨?_, ?_, ?_, ?_, ?_, ?_, ?_, ?_, ?_, ?_, ?_, ?_, ?_, ?_, ?_, ?_, ?_, ?_, ?_, ?_, ?_, ?_, ?_, ?_, ?_, trivial⟩ ?_
              · exact .inl ⟨rfl, fun W hb => yields_load rfl rfl (load_run (hD4.below hb hD4.lt) hc16)⟩
              · exact .inl ⟨rfl, fun W hb => yields_load rfl rfl (load_run (hD3.below hb hD3.lt) hM216)⟩
              · exact .inl ⟨rfl, fun W hb => yields_bin rfl rfl rfl (eqGuard_vv _ _ _) (run_neq_same W hq1 hc16 hM216)⟩
              · exact .inl ⟨rfl, fun W hb => yields_move rfl rfl⟩
              · exact .inr ⟨rfl, rfl⟩
              · exact .inr ⟨rfl, rfl⟩
              · exact .inr ⟨rfl, rfl⟩
              · exact .inl ⟨rfl, fun W hb => yields_pick (b := false) rfl rfl rfl⟩
              · exact .inl ⟨rfl, fun W hb => yields_move rfl rfl⟩
              · exact .inl ⟨rfl, fun W hb => yields_move rfl rfl⟩
              · exact .inl ⟨rfl, fun W hb => yields_load rfl rfl (load_run (hS.below hb hS.lt) hs)⟩
              · exact .inl ⟨rfl, fun W hb => yields_load rfl rfl (load_run (hD3.below hb hD3.lt) hM216)⟩
              · exact .inl ⟨rfl, fun W hb => yields_call (f := 19) (xs := [.tmp 98, .tmp 99]) (vs := [.agg (vals (s)), .agg (vals (M2))]) (v := .agg (vals (J))) rfl rfl (enters_rjoin _ _) (by rw [← HJ.out]; exact rjoin_any s M2 hs hM216 W)⟩
              · exact .inl ⟨rfl, fun W hb => yields_call (f := 15) (xs := [.tmp 97, .tmp 100]) (vs := [.pointer (some ⟨G, 0, none⟩), .agg (vals (J))]) (v := .agg (vals (c2))) rfl rfl (enters_mcut _ _) (by rw [← Hc2.out]; exact mcut_any _ n R2 J hJ16 W (hM.below hb hM.lt).mp)⟩
              · exact .inl ⟨rfl, fun W hb => yields_load rfl rfl (load_run (hD3.below hb hD3.lt) hM216)⟩
              · exact .inl ⟨rfl, fun W hb => yields_bin rfl rfl rfl (eqGuard_vv _ _ _) (run_neq_same W hq2 hc216 hM216)⟩
              · exact .inl ⟨rfl, fun W hb => yields_move rfl rfl⟩
              · exact .inr ⟨rfl, rfl⟩
              · exact .inr ⟨rfl, rfl⟩
              · exact .inr ⟨rfl, rfl⟩
              · exact .inr ⟨rfl, rfl⟩
              · exact .inr ⟨rfl, rfl⟩
              · exact .inr ⟨rfl, rfl⟩
              · exact .inl ⟨rfl, fun W hb => yields_pick (b := false) rfl rfl rfl⟩
              · exact .inl ⟨rfl, fun W hb => yields_pick (b := false) rfl rfl rfl⟩
              intro w9 hb9
              have HM : Hid (Mat w9 G n R2) := hM.below hb9 hM.lt
              have HS : Hid (Lies w9 w.heap.size s) := hS.below hb9 hS.lt
              have HO : Hid (MopsB w9 (some ⟨b, off, none⟩) len w.heap.size O) := hOs.below (hb9.mono hB.size)
              have HB : Hid (Below w.heap.size w w9) := hB.trans (hb9.mono hB.size)
              clear hM hS hOs hB hb9 hD3 hD4 hq1 hq2
              go_wp2
              go_roundw
              case rel => exact ⟨k + 1, R2, by omega, by go_num, HM.out, HS.out, HO.out, HB.out⟩
              case measure => simp [intOf]; omega
            · go_wp2_with fail
              refine B.region_vals [88, 89, 90, 91, 92, 93, 94, 95, 96, 97, 98, 99, 100, 101, 102, 103, 104, 105, 106, 107, 108, 109, 110, 111, 112] [.agg (vals (c)), .agg (vals (M2)), .bool false, .bool false, undef, undef, undef, .bool false, .bool false, .pointer (some ⟨G, 0, none⟩), .agg (vals (s)), .agg (vals (M2)), .agg (vals (J)), .agg (vals (c2)), .agg (vals (M2)), .bool true, .bool true, .pointer (some ⟨G, 0, none⟩), .int .i64 (n : Int), .agg (vals (s)), .agg (vals (M2)), .agg (vals (J)), .bool false, .bool false, .bool false] _ (by kernel_rfl) (by kernel_rfl) (by rfl) (by decide) (by kernel_rfl) (by simp only [lay, Act.put, List.setIfInBounds_toArray, List.set_cons_zero, List.set_cons_succ, List.getD_cons_zero, List.getD_cons_succ, Nat.reduceAdd]; rfl) ⟨?_, ?_, ?_, ?_, ?_, ?_, ?_, ?_, ?_, ?_, ?_, ?_, ?_, ?_, ?_, ?_, ?_, ?_, ?_, ?_, ?_, ?_, ?_, ?_, ?_, trivial⟩ ?_
              · exact .inl ⟨rfl, fun W hb => yields_load rfl rfl (load_run (hD4.below hb hD4.lt) hc16)⟩
              · exact .inl ⟨rfl, fun W hb => yields_load rfl rfl (load_run (hD3.below hb hD3.lt) hM216)⟩
              · exact .inl ⟨rfl, fun W hb => yields_bin rfl rfl rfl (eqGuard_vv _ _ _) (run_neq_same W hq1 hc16 hM216)⟩
              · exact .inl ⟨rfl, fun W hb => yields_move rfl rfl⟩
              · exact .inr ⟨rfl, rfl⟩
              · exact .inr ⟨rfl, rfl⟩
              · exact .inr ⟨rfl, rfl⟩
              · exact .inl ⟨rfl, fun W hb => yields_pick (b := false) rfl rfl rfl⟩
              · exact .inl ⟨rfl, fun W hb => yields_move rfl rfl⟩
              · exact .inl ⟨rfl, fun W hb => yields_move rfl rfl⟩
              · exact .inl ⟨rfl, fun W hb => yields_load rfl rfl (load_run (hS.below hb hS.lt) hs)⟩
              · exact .inl ⟨rfl, fun W hb => yields_load rfl rfl (load_run (hD3.below hb hD3.lt) hM216)⟩
              · exact .inl ⟨rfl, fun W hb => yields_call (f := 19) (xs := [.tmp 98, .tmp 99]) (vs := [.agg (vals (s)), .agg (vals (M2))]) (v := .agg (vals (J))) rfl rfl (enters_rjoin _ _) (by rw [← HJ.out]; exact rjoin_any s M2 hs hM216 W)⟩
              · exact .inl ⟨rfl, fun W hb => yields_call (f := 15) (xs := [.tmp 97, .tmp 100]) (vs := [.pointer (some ⟨G, 0, none⟩), .agg (vals (J))]) (v := .agg (vals (c2))) rfl rfl (enters_mcut _ _) (by rw [← Hc2.out]; exact mcut_any _ n R2 J hJ16 W (hM.below hb hM.lt).mp)⟩
              · exact .inl ⟨rfl, fun W hb => yields_load rfl rfl (load_run (hD3.below hb hD3.lt) hM216)⟩
              · exact .inl ⟨rfl, fun W hb => yields_bin rfl rfl rfl (eqGuard_vv _ _ _) (run_neq_not W hq2 hc216 hM216)⟩
              · exact .inl ⟨rfl, fun W hb => yields_move rfl rfl⟩
              · exact .inl ⟨rfl, fun W hb => yields_move rfl rfl⟩
              · exact .inl ⟨rfl, fun W hb => yields_move rfl rfl⟩
              · exact .inl ⟨rfl, fun W hb => yields_load rfl rfl (load_run (hS.below hb hS.lt) hs)⟩
              · exact .inl ⟨rfl, fun W hb => yields_load rfl rfl (load_run (hD3.below hb hD3.lt) hM216)⟩
              · exact .inl ⟨rfl, fun W hb => yields_call (f := 19) (xs := [.tmp 107, .tmp 108]) (vs := [.agg (vals (s)), .agg (vals (M2))]) (v := .agg (vals (J))) rfl rfl (enters_rjoin _ _) (by rw [← HJ.out]; exact rjoin_any s M2 hs hM216 W)⟩
              · exact .inl ⟨rfl, fun W hb => yields_call (f := 20) (xs := [.tmp 105, .tmp 106, .tmp 109]) (vs := [.pointer (some ⟨G, 0, none⟩), .int .i64 (n : Int), .agg (vals (J))]) (v := .bool false) rfl rfl (enters_whole _ _) (okbool (whole_any G n R2 J hJ16 W (hM.below hb hM.lt)) (Hw.out hq2))⟩
              · exact .inl ⟨rfl, fun W hb => yields_pick (b := true) rfl rfl rfl⟩
              · exact .inl ⟨rfl, fun W hb => yields_pick (b := false) rfl rfl rfl⟩
              intro w9 hb9
              have HM : Hid (Mat w9 G n R2) := hM.below hb9 hM.lt
              have HS : Hid (Lies w9 w.heap.size s) := hS.below hb9 hS.lt
              have HO : Hid (MopsB w9 (some ⟨b, off, none⟩) len w.heap.size O) := hOs.below (hb9.mono hB.size)
              have HB : Hid (Below w.heap.size w w9) := hB.trans (hb9.mono hB.size)
              clear hM hS hOs hB hb9 hD3 hD4 hq1 hq2
              go_wp2
              go_roundw
              case rel => exact ⟨k + 1, R2, by omega, by go_num, HM.out, HS.out, HO.out, HB.out⟩
              case measure => simp [intOf]; omega
          · have hz1 : c = zeros := Hcc.out.resolve_left hq1
            by_cases hq2 : c2 = M2
            · go_wp2_with fail
              refine B.region_vals [88, 89, 90, 91, 92, 93, 94, 95, 96, 97, 98, 99, 100, 101, 102, 103, 104, 105, 106, 107, 108, 109, 110, 111, 112] [.agg (vals (c)), .agg (vals (M2)), .bool true, .bool true, .agg (vals (c)), .agg (vals (zeros)), .bool false, .bool false, .bool false, .pointer (some ⟨G, 0, none⟩), .agg (vals (s)), .agg (vals (M2)), .agg (vals (J)), .agg (vals (c2)), .agg (vals (M2)), .bool false, .bool false, undef, undef, undef, undef, undef, undef, .bool false, .bool false] _ (by kernel_rfl) (by kernel_rfl) (by rfl) (by decide) (by kernel_rfl) (by simp only [lay, Act.put, List.setIfInBounds_toArray, List.set_cons_zero, List.set_cons_succ, List.getD_cons_zero, List.getD_cons_succ, Nat.reduceAdd]; rfl) ⟨?_, ?_, ?_, ?_, ?_, ?_, ?_, ?_, ?_, ?_, ?_, ?_, ?_, ?_, ?_, ?_, ?_, ?_, ?_, ?_, ?_, ?_, ?_, ?_, ?_, trivial⟩ ?_
              · exact .inl ⟨rfl, fun W hb => yields_load rfl rfl (load_run (hD4.below hb hD4.lt) hc16)⟩
              · exact .inl ⟨rfl, fun W hb => yields_load rfl rfl (load_run (hD3.below hb hD3.lt) hM216)⟩
              · exact .inl ⟨rfl, fun W hb => yields_bin rfl rfl rfl (eqGuard_vv _ _ _) (run_neq_not W hq1 hc16 hM216)⟩
              · exact .inl ⟨rfl, fun W hb => yields_move rfl rfl⟩
              · exact .inl ⟨rfl, fun W hb => yields_load rfl rfl (load_run (hD4.below hb hD4.lt) hc16)⟩
              · exact .inl ⟨rfl, fun W hb => yields_ex (exec_build0 rfl)⟩
              · exact .inl ⟨rfl, fun W hb => yields_bin rfl rfl rfl (eqGuard_vv _ _ _) (run_neq_same W hz1 hc16 rfl)⟩
              · exact .inl ⟨rfl, fun W hb => yields_pick (b := true) rfl rfl rfl⟩
              · exact .inl ⟨rfl, fun W hb => yields_move rfl rfl⟩
              · exact .inl ⟨rfl, fun W hb => yields_move rfl rfl⟩
              · exact .inl ⟨rfl, fun W hb => yields_load rfl rfl (load_run (hS.below hb hS.lt) hs)⟩
              · exact .inl ⟨rfl, fun W hb => yields_load rfl rfl (load_run (hD3.below hb hD3.lt) hM216)⟩
              · exact .inl ⟨rfl, fun W hb => yields_call (f := 19) (xs := [.tmp 98, .tmp 99]) (vs := [.agg (vals (s)), .agg (vals (M2))]) (v := .agg (vals (J))) rfl rfl (enters_rjoin _ _) (by rw [← HJ.out]; exact rjoin_any s M2 hs hM216 W)⟩
              · exact .inl ⟨rfl, fun W hb => yields_call (f := 15) (xs := [.tmp 97, .tmp 100]) (vs := [.pointer (some ⟨G, 0, none⟩), .agg (vals (J))]) (v := .agg (vals (c2))) rfl rfl (enters_mcut _ _) (by rw [← Hc2.out]; exact mcut_any _ n R2 J hJ16 W (hM.below hb hM.lt).mp)⟩
              · exact .inl ⟨rfl, fun W hb => yields_load rfl rfl (load_run (hD3.below hb hD3.lt) hM216)⟩
              · exact .inl ⟨rfl, fun W hb => yields_bin rfl rfl rfl (eqGuard_vv _ _ _) (run_neq_same W hq2 hc216 hM216)⟩
              · exact .inl ⟨rfl, fun W hb => yields_move rfl rfl⟩
              · exact .inr ⟨rfl, rfl⟩
              · exact .inr ⟨rfl, rfl⟩
              · exact .inr ⟨rfl, rfl⟩
              · exact .inr ⟨rfl, rfl⟩
              · exact .inr ⟨rfl, rfl⟩
              · exact .inr ⟨rfl, rfl⟩
              · exact .inl ⟨rfl, fun W hb => yields_pick (b := false) rfl rfl rfl⟩
              · exact .inl ⟨rfl, fun W hb => yields_pick (b := false) rfl rfl rfl⟩
              intro w9 hb9
              have HM : Hid (Mat w9 G n R2) := hM.below hb9 hM.lt
              have HS : Hid (Lies w9 w.heap.size s) := hS.below hb9 hS.lt
              have HO : Hid (MopsB w9 (some ⟨b, off, none⟩) len w.heap.size O) := hOs.below (hb9.mono hB.size)
              have HB : Hid (Below w.heap.size w w9) := hB.trans (hb9.mono hB.size)
              clear hM hS hOs hB hb9 hD3 hD4 hq1 hq2
              go_wp2
              go_roundw
              case rel => exact ⟨k + 1, R2, by omega, by go_num, HM.out, HS.out, HO.out, HB.out⟩
              case measure => simp [intOf]; omega
            · go_wp2_with fail
              refine B.region_vals [88, 89, 90, 91, 92, 93, 94, 95, 96, 97, 98, 99, 100, 101, 102, 103, 104, 105, 106, 107, 108, 109, 110, 111, 112] [.agg (vals (c)), .agg (vals (M2)), .bool true, .bool true, .agg (vals (c)), .agg (vals (zeros)), .bool false, .bool false, .bool false, .pointer (some ⟨G, 0, none⟩), .agg (vals (s)), .agg (vals (M2)), .agg (vals (J)), .agg (vals (c2)), .agg (vals (M2)), .bool true, .bool true, .pointer (some ⟨G, 0, none⟩), .int .i64 (n : Int), .agg (vals (s)), .agg (vals (M2)), .agg (vals (J)), .bool false, .bool false, .bool false] _ (by kernel_rfl) (by kernel_rfl) (by rfl) (by decide) (by kernel_rfl) (by simp only [lay, Act.put, List.setIfInBounds_toArray, List.set_cons_zero, List.set_cons_succ, List.getD_cons_zero, List.getD_cons_succ, Nat.reduceAdd]; rfl) ⟨?_, ?_, ?_, ?_, ?_, ?_, ?_, ?_, ?_, ?_, ?_, ?_, ?_, ?_, ?_, ?_, ?_, ?_, ?_, ?_, ?_, ?_, ?_, ?_, ?_, trivial⟩ ?_
              · exact .inl ⟨rfl, fun W hb => yields_load rfl rfl (load_run (hD4.below hb hD4.lt) hc16)⟩
              · exact .inl ⟨rfl, fun W hb => yields_load rfl rfl (load_run (hD3.below hb hD3.lt) hM216)⟩
              · exact .inl ⟨rfl, fun W hb => yields_bin rfl rfl rfl (eqGuard_vv _ _ _) (run_neq_not W hq1 hc16 hM216)⟩
              · exact .inl ⟨rfl, fun W hb => yields_move rfl rfl⟩
              · exact .inl ⟨rfl, fun W hb => yields_load rfl rfl (load_run (hD4.below hb hD4.lt) hc16)⟩
              · exact .inl ⟨rfl, fun W hb => yields_ex (exec_build0 rfl)⟩
              · exact .inl ⟨rfl, fun W hb => yields_bin rfl rfl rfl (eqGuard_vv _ _ _) (run_neq_same W hz1 hc16 rfl)⟩
              · exact .inl ⟨rfl, fun W hb => yields_pick (b := true) rfl rfl rfl⟩
              · exact .inl ⟨rfl, fun W hb => yields_move rfl rfl⟩
              · exact .inl ⟨rfl, fun W hb => yields_move rfl rfl⟩
              · exact .inl ⟨rfl, fun W hb => yields_load rfl rfl (load_run (hS.below hb hS.lt) hs)⟩
              · exact .inl ⟨rfl, fun W hb => yields_load rfl rfl (load_run (hD3.below hb hD3.lt) hM216)⟩
              · exact .inl ⟨rfl, fun W hb => yields_call (f := 19) (xs := [.tmp 98, .tmp 99]) (vs := [.agg (vals (s)), .agg (vals (M2))]) (v := .agg (vals (J))) rfl rfl (enters_rjoin _ _) (by rw [← HJ.out]; exact rjoin_any s M2 hs hM216 W)⟩
              · exact .inl ⟨rfl, fun W hb => yields_call (f := 15) (xs := [.tmp 97, .tmp 100]) (vs := [.pointer (some ⟨G, 0, none⟩), .agg (vals (J))]) (v := .agg (vals (c2))) rfl rfl (enters_mcut _ _) (by rw [← Hc2.out]; exact mcut_any _ n R2 J hJ16 W (hM.below hb hM.lt).mp)⟩
              · exact .inl ⟨rfl, fun W hb => yields_load rfl rfl (load_run (hD3.below hb hD3.lt) hM216)⟩
              · exact .inl ⟨rfl, fun W hb => yields_bin rfl rfl rfl (eqGuard_vv _ _ _) (run_neq_not W hq2 hc216 hM216)⟩
              · exact .inl ⟨rfl, fun W hb => yields_move rfl rfl⟩
              · exact .inl ⟨rfl, fun W hb => yields_move rfl rfl⟩
              · exact .inl ⟨rfl, fun W hb => yields_move rfl rfl⟩
              · exact .inl ⟨rfl, fun W hb => yields_load rfl rfl (load_run (hS.below hb hS.lt) hs)⟩
              · exact .inl ⟨rfl, fun W hb => yields_load rfl rfl (load_run (hD3.below hb hD3.lt) hM216)⟩
              · exact .inl ⟨rfl, fun W hb => yields_call (f := 19) (xs := [.tmp 107, .tmp 108]) (vs := [.agg (vals (s)), .agg (vals (M2))]) (v := .agg (vals (J))) rfl rfl (enters_rjoin _ _) (by rw [← HJ.out]; exact rjoin_any s M2 hs hM216 W)⟩
              · exact .inl ⟨rfl, fun W hb => yields_call (f := 20) (xs := [.tmp 105, .tmp 106, .tmp 109]) (vs := [.pointer (some ⟨G, 0, none⟩), .int .i64 (n : Int), .agg (vals (J))]) (v := .bool false) rfl rfl (enters_whole _ _) (okbool (whole_any G n R2 J hJ16 W (hM.below hb hM.lt)) (Hw.out hq2))⟩
              · exact .inl ⟨rfl, fun W hb => yields_pick (b := true) rfl rfl rfl⟩
              · exact .inl ⟨rfl, fun W hb => yields_pick (b := false) rfl rfl rfl⟩
              intro w9 hb9
              have HM : Hid (Mat w9 G n R2) := hM.below hb9 hM.lt
              have HS : Hid (Lies w9 w.heap.size s) := hS.below hb9 hS.lt
              have HO : Hid (MopsB w9 (some ⟨b, off, none⟩) len w.heap.size O) := hOs.below (hb9.mono hB.size)
              have HB : Hid (Below w.heap.size w w9) := hB.trans (hb9.mono hB.size)
              clear hM hS hOs hB hb9 hD3 hD4 hq1 hq2
              go_wp2
              go_roundw
              case rel => exact ⟨k + 1, R2, by omega, by go_num, HM.out, HS.out, HO.out, HB.out⟩
              case measure => simp [intOf]; omega
    · obtain rfl : k = len := by omega
      have HB : Hid (Below w.heap.size w wr) := hB
      clear hM hS hOs hB
      go_wp2
      go_ret
      exact ⟨rfl, HB.out⟩
theorem lrises_walk (x : Int) (a : Option Addr) (len cap : Nat) (s : List Int) (hs : s.length = 16) (w : World) (O : Nat → Int × List Int) (hO : Mops w a len O) : Calls Try.prog 4 #[.int .i64 x, .slice a len cap, .agg (vals s)] w fun e w' => e = .returned (.bool true) ∧ Below w.heap.size w w' := by
  by_cases hl : 300 < len
  · exact lrises_far x a len cap s w hl
  · exact lrises_go x a len cap s hs w O hl hO
end Go.Proofs.Ytcndgbepdgjkeaa
