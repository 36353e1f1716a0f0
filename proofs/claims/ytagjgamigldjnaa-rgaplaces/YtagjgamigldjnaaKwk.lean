/-
  What awake comes to.
-/
import Derived.Test.YtagjgamigldjnaaKri
import Derived.Test.YtagjgamigldjnaaLsa
namespace Go.Proofs.Ytagjgamigldjnaa
set_option maxRecDepth 100000
open Go.RowKit

def aw : Ev := ⟨0, 1, 0, zeros, 9, [107], [], [], 0, 0, 0⟩
theorem aw_wide : Wide aw := ⟨rfl, ⟨by simp [aw], by simp [aw], by simp [aw]⟩⟩
theorem aw_order : orderE [107] [aw] = [aw] := by decide +kernel
theorem aw_items : itemsE [107] [aw] = [aw] := by decide +kernel
theorem enters_order (xs : Array Value) (w : World) : (callFunc 14 xs).run Try.prog w = .ok (.enter 14 xs) w := enters Try.func14 (by kernel_rfl) (by kernel_rfl) xs w
theorem eqGuard_er {P : Program} (w : World) {op : BinOp} {x y : Operand} {a b : Int} : (eqGuard op 27 x y (.int .i64 a) (.int .i64 b)).run P w = .ok () w := by
  cases op <;> rfl
theorem eql_er (W : World) : (binOp .eql 27 (.int .i64 0) (.int .i64 0)).run Try.prog W = .ok (.bool true) W := by simp [go_sem]
set_option maxHeartbeats 4000000 in
theorem awake_any (w : World) : Calls Try.prog 9 #[] w fun e w' => e = .returned (.bool true) ∧ Below w.heap.size w w' := by
  have hF := evs_single (w.alloc (.cells (evc aw) 41)) w.heap.size aw aw_wide (liesE_new w aw)
  have hB0 : Below w.heap.size w (w.alloc (.cells (evc aw) 41)) := (Below.refl _ _).alloc (Nat.le_refl _) _
  have hLE0 := liesE_new w aw
  go_enter Try.func9, Try.ntmps9
  go_wp2_with (first | refine build_ev1 (u := aw) rfl rfl rfl rfl ?_)
  generalize w.alloc (.cells (evc aw) 41) = W0 at hF hB0 hLE0 ⊢
  refine (anchor_any _ 1 1 [aw] [107] 1 W0 hF (by omega)).mono ?_
  rintro e w1 ⟨rfl, hb1⟩
  rw [aw_items, show anchE [aw] 1 = ((0, 1), 0) by decide +kernel]
  have hZ : LiesD (w1.alloc (.cells (dotc 0 0) 26)) w1.heap.size 0 0 := heap_alloc_new w1 _
  have hD : LiesD ((w1.alloc (.cells (dotc 0 0) 26)).setRow w1.heap.size (dotc 0 1)) w1.heap.size 0 1 := hZ.row 0 1
  have hB2 : Below w1.heap.size w1 ((w1.alloc (.cells (dotc 0 0) 26)).setRow w1.heap.size (dotc 0 1)) := below_setRow ((Below.refl _ _).alloc (Nat.le_refl _) _) (Nat.le_refl _) _
  have hLE1 : LiesE w1 w.heap.size aw := hLE0.below hb1 hLE0.lt
  have hLE : LiesE ((w1.alloc (.cells (dotc 0 0) 26)).setRow w1.heap.size (dotc 0 1)) w.heap.size aw := hLE1.below hB2 hLE1.lt
  have hF1 := (hF.below hb1 (Nat.le_refl _)).below hB2 (Nat.le_refl _)
  have HB1 : Hid (Below w.heap.size w ((w1.alloc (.cells (dotc 0 0) 26)).setRow w1.heap.size (dotc 0 1))) := (hB0.trans (hb1.mono hB0.size)).trans (hB2.mono (Nat.le_trans hB0.size hb1.size))
  clear hF hB0 hLE0 hb1 hB2 hLE1
  go_upto_region 3 with (refine store_dot rfl rfl rfl rfl hZ ?_)
  change Code.wp _ _ _ _ ((w1.alloc (.cells (dotc 0 0) 26)).setRow w1.heap.size (dotc 0 1))
  generalize (w1.alloc (.cells (dotc 0 0) 26)).setRow w1.heap.size (dotc 0 1) = W at hD hLE hF1 HB1 ⊢
  clear hZ
  generalize w1.heap.size = D at *
  have hEv : Evs W.drew (some ⟨w.heap.size, 0, none⟩) 1 1 [aw] := hF1.below (Below.refl _ _).drew (Nat.le_refl _)
  clear hF1
  refine wp_region_noPanic ?_
  refine wp_region_held_drew (S := fun W' : World => LiesD W' D 0 1 ∧ LiesE W' w.heap.size aw) (by kernel_rfl) ⟨hD, hLE⟩ (fun hHeld => ?_)
  refine wpAnyH_take (i := 0) (oi := { dst := some 13, op := _, type := _, pos := _, after := _, guard := _ }) (v := .slice (some ⟨w.heap.size, 0, none⟩) 1 1) rfl (by kernel_rfl) (by kernel_rfl) (by kernel_rfl) (fun _ _ _ h => h) (Or.inl ⟨by rfl, ?_⟩) (by assumption) ?_
  · intro w9 hSw
    exact exec_move rfl rfl
  simp only [Act.put, List.setIfInBounds_toArray, List.set_cons_zero, List.set_cons_succ]
  clear hHeld
  refine wpAnyH_ready (rs := [1]) (by kernel_rfl) (by simp) ?_
  refine AllReadyH.cons (o := { dst := some 14, op := _, type := _, pos := _, after := _, guard := _ }) rfl (fun K hK => ?_) AllReadyH.nil
  rw [if_pos (by rfl)]
  refine wp_callL (xs := [.tmp 13, .const (.string ⟨#[107]⟩)]) (vs := [.slice (some ⟨w.heap.size, 0, none⟩) 1 1, .string (sb [107])]) rfl rfl (enters_order _ _) (order_any _ 1 1 [aw] [107] _ hEv (by omega)) ?_
  rintro e w5 ⟨v5, rfl, hR5, hb5⟩
  refine ⟨_, rfl, ?_⟩
  obtain ⟨a5, c5, hv5, -⟩ := hR5.evs (fun e he => by rw [aw_order] at he; rw [List.mem_singleton.1 he]; exact aw_wide)
  rw [aw_order] at hv5
  subst hv5
  have hD5 : LiesD w5 D 0 1 := LiesD.below (w := W.drew) hD hb5 hD.lt
  have hLE5 : LiesE w5 w.heap.size aw := LiesE.below (w := W.drew) hLE hb5 hLE.lt
  refine hK.out _ _ ⟨hD5, hLE5⟩ (fun hHeld => ?_)
  clear hK K
  simp only [Act.put, List.setIfInBounds_toArray, List.set_cons_zero, List.set_cons_succ]
  refine wpAnyH_take (i := 2) (oi := { dst := some 15, op := _, type := _, pos := _, after := _, guard := _ }) (v := .int .i64 (([aw] : List Ev).length : Int)) rfl (by kernel_rfl) (by kernel_rfl) (by kernel_rfl) (fun _ _ _ h => h) (Or.inl ⟨by rfl, ?_⟩) (by assumption) ?_
  · intro w9 hSw
    exact exec_lenE rfl rfl
  simp only [Act.put, List.setIfInBounds_toArray, List.set_cons_zero, List.set_cons_succ]
  refine wpAnyH_take (i := 3) (oi := { dst := some 16, op := _, type := _, pos := _, after := _, guard := _ }) (v := .bool true) rfl (by kernel_rfl) (by kernel_rfl) (by kernel_rfl) (fun _ _ _ h => h) (Or.inl ⟨by rfl, ?_⟩) (by assumption) ?_
  · intro w9 hSw
    exact exec_bin rfl rfl rfl (eqGuard_ik _) (eql_ib _ _ _ (by decide))
  simp only [Act.put, List.setIfInBounds_toArray, List.set_cons_zero, List.set_cons_succ]
  refine wpAnyH_take (i := 4) (oi := { dst := some 17, op := _, type := _, pos := _, after := _, guard := _ }) (v := .bool true) rfl (by kernel_rfl) (by kernel_rfl) (by kernel_rfl) (fun _ _ _ h => h) (Or.inl ⟨by rfl, ?_⟩) (by assumption) ?_
  · intro w9 hSw
    exact exec_move rfl rfl
  simp only [Act.put, List.setIfInBounds_toArray, List.set_cons_zero, List.set_cons_succ]
  refine wpAnyH_take (i := 5) (oi := { dst := some 18, op := _, type := _, pos := _, after := _, guard := _ }) (v := .agg (dotc 0 1)) rfl (by kernel_rfl) (by kernel_rfl) (by kernel_rfl) (fun _ _ _ h => h) (Or.inl ⟨by rfl, ?_⟩) (by assumption) ?_
  · intro w9 hSw
    exact exec_load (ad := ⟨D, 0, none⟩) rfl rfl (load_dtr hSw.1.range)
  simp only [Act.put, List.setIfInBounds_toArray, List.set_cons_zero, List.set_cons_succ]
  refine wpAnyH_take (i := 6) (oi := { dst := some 19, op := _, type := _, pos := _, after := _, guard := _ }) (v := .slice (some ⟨w.heap.size, 0, none⟩) 1 1) rfl (by kernel_rfl) (by kernel_rfl) (by kernel_rfl) (fun _ _ _ h => h) (Or.inl ⟨by rfl, ?_⟩) (by assumption) ?_
  · intro w9 hSw
    exact exec_move rfl rfl
  simp only [Act.put, List.setIfInBounds_toArray, List.set_cons_zero, List.set_cons_succ]
  refine wpAnyH_take (i := 7) (oi := { dst := some 20, op := _, type := _, pos := _, after := _, guard := _ }) (v := .pointer (some ⟨w.heap.size, 0 + 0 * 26, none⟩)) rfl (by kernel_rfl) (by kernel_rfl) (by kernel_rfl) (fun _ _ _ h => h) (Or.inl ⟨by rfl, ?_⟩) (by assumption) ?_
  · intro w9 hSw
    exact exec_index rfl rfl rfl (index_ev w9 (k := 0) (by omega))
  simp only [Act.put, List.setIfInBounds_toArray, List.set_cons_zero, List.set_cons_succ]
  refine wpAnyH_take (i := 8) (oi := { dst := some 21, op := _, type := _, pos := _, after := _, guard := _ }) (v := .pointer (some ⟨w.heap.size, 0 + 0 * 26 + 0, none⟩)) rfl (by kernel_rfl) (by kernel_rfl) (by kernel_rfl) (fun _ _ _ h => h) (Or.inl ⟨by rfl, ?_⟩) (by assumption) ?_
  · intro w9 hSw
    exact exec_field rfl rfl (fun w => field_e0 w _ _)
  simp only [Act.put, List.setIfInBounds_toArray, List.set_cons_zero, List.set_cons_succ]
  refine wpAnyH_take (i := 9) (oi := { dst := some 22, op := _, type := _, pos := _, after := _, guard := _ }) (v := .agg (dotc 0 1)) rfl (by kernel_rfl) (by kernel_rfl) (by kernel_rfl) (fun _ _ _ h => h) (Or.inl ⟨by rfl, ?_⟩) (by assumption) ?_
  · intro w9 hSw
    exact exec_load (ad := ⟨w.heap.size, 0 + 0 * 26 + 0, none⟩) rfl rfl (load_dtr hSw.2.dotK)
  simp only [Act.put, List.setIfInBounds_toArray, List.set_cons_zero, List.set_cons_succ]
  refine wpAnyH_take (i := 10) (oi := { dst := some 23, op := _, type := _, pos := _, after := _, guard := _ }) (v := .bool true) rfl (by kernel_rfl) (by kernel_rfl) (by kernel_rfl) (fun _ _ _ h => h) (Or.inl ⟨by rfl, ?_⟩) (by assumption) ?_
  · intro w9 hSw
    exact exec_bin rfl rfl rfl (eqGuard_dt _ _ _ _ _) (eql_dt _ (by decide))
  simp only [Act.put, List.setIfInBounds_toArray, List.set_cons_zero, List.set_cons_succ]
  refine wpAnyH_take (i := 11) (oi := { dst := some 24, op := _, type := _, pos := _, after := _, guard := _ }) (v := .bool true) rfl (by kernel_rfl) (by kernel_rfl) (by kernel_rfl) (fun _ _ _ h => h) (Or.inl ⟨by rfl, ?_⟩) (by assumption) ?_
  · intro w9 hSw
    exact exec_pick (b := true) rfl rfl rfl rfl
  simp only [Act.put, List.setIfInBounds_toArray, List.set_cons_zero, List.set_cons_succ]
  refine wpAnyH_take (i := 12) (oi := { dst := some 25, op := _, type := _, pos := _, after := _, guard := _ }) (v := .bool true) rfl (by kernel_rfl) (by kernel_rfl) (by kernel_rfl) (fun _ _ _ h => h) (Or.inl ⟨by rfl, ?_⟩) (by assumption) ?_
  · intro w9 hSw
    exact exec_move rfl rfl
  simp only [Act.put, List.setIfInBounds_toArray, List.set_cons_zero, List.set_cons_succ]
  refine wpAnyH_take (i := 13) (oi := { dst := some 26, op := _, type := _, pos := _, after := _, guard := _ }) (v := .int .i64 0) rfl (by kernel_rfl) (by kernel_rfl) (by kernel_rfl) (fun _ _ _ h => h) (Or.inl ⟨by rfl, ?_⟩) (by assumption) ?_
  · intro w9 hSw
    exact exec_move rfl rfl
  simp only [Act.put, List.setIfInBounds_toArray, List.set_cons_zero, List.set_cons_succ]
  refine wpAnyH_take (i := 14) (oi := { dst := some 27, op := _, type := _, pos := _, after := _, guard := _ }) (v := .bool true) rfl (by kernel_rfl) (by kernel_rfl) (by kernel_rfl) (fun _ _ _ h => h) (Or.inl ⟨by rfl, ?_⟩) (by assumption) ?_
  · intro w9 hSw
    exact exec_bin rfl rfl rfl (eqGuard_er _) (eql_er _)
  simp only [Act.put, List.setIfInBounds_toArray, List.set_cons_zero, List.set_cons_succ]
  refine wpAnyH_take (i := 15) (oi := { dst := some 28, op := _, type := _, pos := _, after := _, guard := _ }) (v := .bool true) rfl (by kernel_rfl) (by kernel_rfl) (by kernel_rfl) (fun _ _ _ h => h) (Or.inl ⟨by rfl, ?_⟩) (by assumption) ?_
  · intro w9 hSw
    exact exec_pick (b := true) rfl rfl rfl rfl
  simp only [Act.put, List.setIfInBounds_toArray, List.set_cons_zero, List.set_cons_succ]
  refine wpAnyH_take (i := 16) (oi := { dst := some 0, op := _, type := _, pos := _, after := _, guard := _ }) (v := .bool true) rfl (by kernel_rfl) (by kernel_rfl) (by kernel_rfl) (fun _ _ _ h => h) (Or.inl ⟨by rfl, ?_⟩) (by assumption) ?_
  · intro w9 hSw
    exact exec_assign rfl rfl
  simp only [Act.put, List.setIfInBounds_toArray, List.set_cons_zero]
  refine wpAnyH_done (by kernel_rfl) ?_ _
  refine NoPanic.normal ?_
  clear hHeld
  have HB5 : Hid (Below w.heap.size w w5) := HB1.out.drew.trans (hb5.mono HB1.out.drew.size)
  clear hb5 hD5 hLE5 hR5 HB1 hD hLE hEv
  go_wp2
  go_ret
  exact ⟨rfl, HB5.out⟩
end Go.Proofs.Ytagjgamigldjnaa
