/-
  MatrixNil, the walk.
-/
import Derived.Test.YtcndgbepdgjkeaaMop
namespace Go.Proofs.Ytcndgbepdgjkeaa
set_option maxRecDepth 100000
open Go.RowKit

theorem mop_new (w : World) (o : Int × List Int) (ho : o.2.length = 16) : IsMop (w.alloc (.cells (mopl o).toArray 33)) w.heap.size 0 o := by
  have hc : ∀ k, (w.alloc (.cells (mopl o).toArray 33)).cell? ⟨w.heap.size, k, none⟩ = (mopl o)[k]? := fun k => by rw [cell_of_row _ w.heap.size k _ _ _ (heap_alloc_new w _), List.getElem?_toArray]
  refine ⟨by rw [hc]; rfl, fun j v hv => ?_, ho⟩
  rw [hc, Nat.zero_add, Nat.add_comm, mopl, List.getElem?_cons_succ]
  exact hv
set_option maxHeartbeats 2000000 in
theorem lnil_false (o : Int × List Int) (ho : o.2.length = 16) (w : World) : Calls Try.prog 6 #[.agg (mopl o).toArray, .bool false] w fun e w' => e = .returned (.bool true) ∧ Below w.heap.size w w' := by
  have hO0 := mop_new w o ho
  have hb0 : Below w.heap.size w (w.alloc (.cells (mopl o).toArray 33)) := (Below.refl _ w).alloc (Nat.le_refl _) _
  have hl0 : w.heap.size < (w.alloc (.cells (mopl o).toArray 33)).heap.size := by simp
  generalize hW0 : w.alloc (.cells (mopl o).toArray 33) = W0 at *
  have hA := mawake_any W0
  have hz4 := build_vv0
  have hm0 := build_mat0
  go_enter Try.func6, Try.ntmps6
  go_wp2_with fail
  refine Calls.mono hA ?_
  rintro e w1 ⟨rfl, hb1⟩
  have hO1 := hO0.same (hb1.block _ hl0)
  have hl1 : w.heap.size < w1.heap.size := Nat.lt_of_lt_of_le hl0 hb1.size
  have hB1 : Below w.heap.size w w1 := hb0.trans (hb1.mono hb0.size)
  clear hO0 hb0 hb1 hA hl0 hW0
  have hO2 := hO1
  have hB2 := hB1
  have hl2 := hl1
  have hP2 : MP w1 (.pointer none) 0 zeroR := .inr ⟨rfl, rfl, fun _ => rfl⟩
  generalize hW2 : w1 = W2 at *
  clear hO1 hB1 hl1
  have hZ2 := lies_new W2 zeros
  have hZ3 := hZ2.row zeros
  have hO3 : IsMop ((W2.alloc (.cells (vals zeros) 24)).setRow W2.heap.size (vals zeros)) w.heap.size 0 o := hO2.same ((setRow_other _ _ _ _ (by omega)).trans (Below.heap_alloc W2 _ _ hl2))
  have hB3 : Below w.heap.size w ((W2.alloc (.cells (vals zeros) 24)).setRow W2.heap.size (vals zeros)) := below_setRow (hB2.alloc (Nat.le_of_lt hl2) _) (Nat.le_of_lt hl2) _
  have hP3 : MP ((W2.alloc (.cells (vals zeros) 24)).setRow W2.heap.size (vals zeros)) (.pointer none) 0 zeroR := hP2.below (B := W2.heap.size) (below_setRow ((Below.refl _ W2).alloc (Nat.le_refl _) _) (Nat.le_refl _) _) (Nat.le_refl _)
  have hl3 : w.heap.size < ((W2.alloc (.cells (vals zeros) 24)).setRow W2.heap.size (vals zeros)).heap.size := Nat.lt_trans hl2 hZ3.lt
  have hst := store_run hZ2 (l := zeros) rfl rfl
  generalize hW3 : (W2.alloc (.cells (vals zeros) 24)).setRow W2.heap.size (vals zeros) = W3 at *
  generalize hF : W2.heap.size = F at *
  clear hO2 hB2 hP2 hl2 hZ2
  rw [zeros_vals] at hst
  go_wp2_with (first
    | (refine wpList_b0 (ty := 48) (v := .agg (mcells 0)) rfl rfl (hm0 _) ?_)
    | (refine wpList_b0 (ty := 24) (v := .agg (vals zeros)) rfl rfl (hz4 _) ?_)
    | (refine wpList_storeR (ty := 24) (x := .tmp 6) (y := .tmp 12) (ad := ⟨F, 0, none⟩) (v := .agg (vals zeros)) (w' := W3) rfl rfl rfl rfl (by rw [zeros_vals]; exact hst) ?_))
  refine region_vals [13, 14, 15, 16, 17, 18, 19, 20, 21, 22, 23, 24, 25, 26, 27, 28, 29, 30, 31, 32, 33, 34, 35, 36, 37, 38, 39, 40, 41, 4] [.pointer none, .pointer (some ⟨w.heap.size, 0, none⟩), .int .i64 o.1, .pointer (some ⟨w.heap.size, 0 + 1, none⟩), .agg (vals (o.2)), .int .i64 1, .bool true, .bool true, .pointer none, .pointer (some ⟨w.heap.size, 0, none⟩), .int .i64 o.1, .agg (vals (zeros)), .agg (vals (zeros)), .bool true, .bool true, .bool true, .pointer none, .agg (vals (zeros)), .agg (vals (zeros)), .bool true, .bool true, .bool true, .pointer none, .pointer (some ⟨w.heap.size, 0 + 1, none⟩), .agg (vals (o.2)), .agg (vals (zeros)), .agg (vals (zeros)), .bool true, .bool true, .bool true] _ (by kernel_rfl) (by kernel_rfl) (by rfl) (by decide) (by kernel_rfl) (by simp only [lay, Act.put, List.setIfInBounds_toArray, List.set_cons_zero, List.set_cons_succ, List.getD_cons_zero, List.getD_cons_succ, Nat.reduceAdd]; rfl) ⟨?_, ?_, ?_, ?_, ?_, ?_, ?_, ?_, ?_, ?_, ?_, ?_, ?_, ?_, ?_, ?_, ?_, ?_, ?_, ?_, ?_, ?_, ?_, ?_, ?_, ?_, ?_, ?_, ?_, ?_, trivial⟩ ?_
  · exact .inl ⟨rfl, fun W hb => yields_move rfl rfl⟩
  · exact .inl ⟨rfl, fun W hb => yields_field rfl rfl (field_o0 W _ _)⟩
  · exact .inl ⟨rfl, fun W hb => yields_load rfl rfl (load_int_run (hO3.same (hb.block _ hl3)).num)⟩
  · exact .inl ⟨rfl, fun W hb => yields_field rfl rfl (field_o1 W _ _)⟩
  · exact .inl ⟨rfl, fun W hb => yields_load rfl rfl (hO3.same (hb.block _ hl3)).load⟩
  · exact .inl ⟨rfl, fun W hb => yields_call (f := 11) (xs := [.tmp 13, .tmp 15, .tmp 17]) (vs := [.pointer none, .int .i64 o.1, .agg (vals (o.2))]) (v := .int .i64 1) rfl rfl (enters_msee _ _) (msee_none _ zeroR _ _ ho W (hP3.below hb (Nat.le_refl _)))⟩
  · exact .inl ⟨rfl, fun W hb => yields_bin rfl rfl rfl (eqGuard_err W) (eql_err_same W _)⟩
  · exact .inl ⟨rfl, fun W hb => yields_move rfl rfl⟩
  · exact .inl ⟨rfl, fun W hb => yields_move rfl rfl⟩
  · exact .inl ⟨rfl, fun W hb => yields_field rfl rfl (field_o0 W _ _)⟩
  · exact .inl ⟨rfl, fun W hb => yields_load rfl rfl (load_int_run (hO3.same (hb.block _ hl3)).num)⟩
  · exact .inl ⟨rfl, fun W hb => yields_call (f := 17) (xs := [.tmp 21, .tmp 23]) (vs := [.pointer none, .int .i64 o.1]) (v := .agg (vals (zeros))) rfl rfl (enters_mrow _ _) (mrow_none _ zeroR _ W (hP3.below hb (Nat.le_refl _)))⟩
  · exact .inl ⟨rfl, fun W hb => yields_load rfl rfl (load_run (hZ3.below hb hZ3.lt) rfl)⟩
  · exact .inl ⟨rfl, fun W hb => yields_bin rfl rfl rfl (run_eqGuard_agg W _ _ _ _ _ _ plain_vec) (run_eql_same W rfl rfl rfl)⟩
  · exact .inl ⟨rfl, fun W hb => yields_pick (b := true) rfl rfl rfl⟩
  · exact .inl ⟨rfl, fun W hb => yields_move rfl rfl⟩
  · exact .inl ⟨rfl, fun W hb => yields_move rfl rfl⟩
  · exact .inl ⟨rfl, fun W hb => yields_call (f := 13) (xs := [.tmp 29]) (vs := [.pointer none]) (v := .agg (vals (zeros))) rfl rfl (enters_mstab _ _) (mstab_none _ zeroR W (hP3.below hb (Nat.le_refl _)))⟩
  · exact .inl ⟨rfl, fun W hb => yields_load rfl rfl (load_run (hZ3.below hb hZ3.lt) rfl)⟩
  · exact .inl ⟨rfl, fun W hb => yields_bin rfl rfl rfl (run_eqGuard_agg W _ _ _ _ _ _ plain_vec) (run_eql_same W rfl rfl rfl)⟩
  · exact .inl ⟨rfl, fun W hb => yields_pick (b := true) rfl rfl rfl⟩
  · exact .inl ⟨rfl, fun W hb => yields_move rfl rfl⟩
  · exact .inl ⟨rfl, fun W hb => yields_move rfl rfl⟩
  · exact .inl ⟨rfl, fun W hb => yields_field rfl rfl (field_o1 W _ _)⟩
  · exact .inl ⟨rfl, fun W hb => yields_load rfl rfl (hO3.same (hb.block _ hl3)).load⟩
  · exact .inl ⟨rfl, fun W hb => yields_call (f := 15) (xs := [.tmp 35, .tmp 37]) (vs := [.pointer none, .agg (vals (o.2))]) (v := .agg (vals (zeros))) rfl rfl (enters_mcut _ _) (mcut_none _ zeroR _ ho W (hP3.below hb (Nat.le_refl _)))⟩
  · exact .inl ⟨rfl, fun W hb => yields_load rfl rfl (load_run (hZ3.below hb hZ3.lt) rfl)⟩
  · exact .inl ⟨rfl, fun W hb => yields_bin rfl rfl rfl (run_eqGuard_agg W _ _ _ _ _ _ plain_vec) (run_eql_same W rfl rfl rfl)⟩
  · exact .inl ⟨rfl, fun W hb => yields_pick (b := true) rfl rfl rfl⟩
  · exact .inl ⟨rfl, fun W hb => yields_assign rfl rfl⟩
  intro w5 hb5
  have HB : Hid (Below w.heap.size w w5) := hB3.trans (hb5.mono (Nat.le_of_lt hl3))
  clear hO3 hZ3 hP3 hB3 hb5 hst
  go_wp2
  go_ret
  exact ⟨rfl, HB.out⟩
set_option maxHeartbeats 2000000 in
theorem lnil_true (o : Int × List Int) (ho : o.2.length = 16) (w : World) : Calls Try.prog 6 #[.agg (mopl o).toArray, .bool true] w fun e w' => e = .returned (.bool true) ∧ Below w.heap.size w w' := by
  have hO0 := mop_new w o ho
  have hb0 : Below w.heap.size w (w.alloc (.cells (mopl o).toArray 33)) := (Below.refl _ w).alloc (Nat.le_refl _) _
  have hl0 : w.heap.size < (w.alloc (.cells (mopl o).toArray 33)).heap.size := by simp
  generalize hW0 : w.alloc (.cells (mopl o).toArray 33) = W0 at *
  have hA := mawake_any W0
  have hz4 := build_vv0
  have hm0 := build_mat0
  go_enter Try.func6, Try.ntmps6
  go_wp2_with fail
  refine Calls.mono hA ?_
  rintro e w1 ⟨rfl, hb1⟩
  have hO1 := hO0.same (hb1.block _ hl0)
  have hl1 : w.heap.size < w1.heap.size := Nat.lt_of_lt_of_le hl0 hb1.size
  have hB1 : Below w.heap.size w w1 := hb0.trans (hb1.mono hb0.size)
  clear hO0 hb0 hb1 hA hl0 hW0
  have hM2 := mat_new w1 0 (by decide)
  have hO2 := hO1.same (w' := w1.alloc (.cells (mcells 0) 48)) (Below.heap_alloc w1 _ _ hl1)
  have hB2 : Below w.heap.size w (w1.alloc (.cells (mcells 0) 48)) := hB1.alloc (Nat.le_of_lt hl1) _
  have hl2 : w.heap.size < (w1.alloc (.cells (mcells 0) 48)).heap.size := by rw [World.size_alloc]; omega
  generalize hG : w1.heap.size = G at *
  generalize hW2 : w1.alloc (.cells (mcells 0) 48) = W2 at *
  have hP2 := hM2.mp
  clear hM2
  clear hO1 hB1 hl1
  have hZ2 := lies_new W2 zeros
  have hZ3 := hZ2.row zeros
  have hO3 : IsMop ((W2.alloc (.cells (vals zeros) 24)).setRow W2.heap.size (vals zeros)) w.heap.size 0 o := hO2.same ((setRow_other _ _ _ _ (by omega)).trans (Below.heap_alloc W2 _ _ hl2))
  have hB3 : Below w.heap.size w ((W2.alloc (.cells (vals zeros) 24)).setRow W2.heap.size (vals zeros)) := below_setRow (hB2.alloc (Nat.le_of_lt hl2) _) (Nat.le_of_lt hl2) _
  have hP3 : MP ((W2.alloc (.cells (vals zeros) 24)).setRow W2.heap.size (vals zeros)) (.pointer (some ⟨G, 0, none⟩)) 0 zeroR := hP2.below (B := W2.heap.size) (below_setRow ((Below.refl _ W2).alloc (Nat.le_refl _) _) (Nat.le_refl _) _) (Nat.le_refl _)
  have hl3 : w.heap.size < ((W2.alloc (.cells (vals zeros) 24)).setRow W2.heap.size (vals zeros)).heap.size := Nat.lt_trans hl2 hZ3.lt
  have hst := store_run hZ2 (l := zeros) rfl rfl
  generalize hW3 : (W2.alloc (.cells (vals zeros) 24)).setRow W2.heap.size (vals zeros) = W3 at *
  generalize hF : W2.heap.size = F at *
  clear hO2 hB2 hP2 hl2 hZ2
  rw [zeros_vals] at hst
  go_wp2_with (first
    | (refine wpList_b0 (ty := 48) (v := .agg (mcells 0)) rfl rfl (hm0 _) ?_)
    | (refine wpList_b0 (ty := 24) (v := .agg (vals zeros)) rfl rfl (hz4 _) ?_)
    | (refine wpList_storeR (ty := 24) (x := .tmp 6) (y := .tmp 12) (ad := ⟨F, 0, none⟩) (v := .agg (vals zeros)) (w' := W3) rfl rfl rfl rfl (by rw [zeros_vals]; exact hst) ?_))
  refine region_vals [13, 14, 15, 16, 17, 18, 19, 20, 21, 22, 23, 24, 25, 26, 27, 28, 29, 30, 31, 32, 33, 34, 35, 36, 37, 38, 39, 40, 41, 4] [.pointer (some ⟨G, 0, none⟩), .pointer (some ⟨w.heap.size, 0, none⟩), .int .i64 o.1, .pointer (some ⟨w.heap.size, 0 + 1, none⟩), .agg (vals (o.2)), .int .i64 1, .bool true, .bool true, .pointer (some ⟨G, 0, none⟩), .pointer (some ⟨w.heap.size, 0, none⟩), .int .i64 o.1, .agg (vals (zeros)), .agg (vals (zeros)), .bool true, .bool true, .bool true, .pointer (some ⟨G, 0, none⟩), .agg (vals (zeros)), .agg (vals (zeros)), .bool true, .bool true, .bool true, .pointer (some ⟨G, 0, none⟩), .pointer (some ⟨w.heap.size, 0 + 1, none⟩), .agg (vals (o.2)), .agg (vals (zeros)), .agg (vals (zeros)), .bool true, .bool true, .bool true] _ (by kernel_rfl) (by kernel_rfl) (by rfl) (by decide) (by kernel_rfl) (by simp only [lay, Act.put, List.setIfInBounds_toArray, List.set_cons_zero, List.set_cons_succ, List.getD_cons_zero, List.getD_cons_succ, Nat.reduceAdd]; rfl) ⟨?_, ?_, ?_, ?_, ?_, ?_, ?_, ?_, ?_, ?_, ?_, ?_, ?_, ?_, ?_, ?_, ?_, ?_, ?_, ?_, ?_, ?_, ?_, ?_, ?_, ?_, ?_, ?_, ?_, ?_, trivial⟩ ?_
  · exact .inl ⟨rfl, fun W hb => yields_move rfl rfl⟩
  · exact .inl ⟨rfl, fun W hb => yields_field rfl rfl (field_o0 W _ _)⟩
  · exact .inl ⟨rfl, fun W hb => yields_load rfl rfl (load_int_run (hO3.same (hb.block _ hl3)).num)⟩
  · exact .inl ⟨rfl, fun W hb => yields_field rfl rfl (field_o1 W _ _)⟩
  · exact .inl ⟨rfl, fun W hb => yields_load rfl rfl (hO3.same (hb.block _ hl3)).load⟩
  · exact .inl ⟨rfl, fun W hb => yields_call (f := 11) (xs := [.tmp 13, .tmp 15, .tmp 17]) (vs := [.pointer (some ⟨G, 0, none⟩), .int .i64 o.1, .agg (vals (o.2))]) (v := .int .i64 1) rfl rfl (enters_msee _ _) (msee_none _ zeroR _ _ ho W (hP3.below hb (Nat.le_refl _)))⟩
  · exact .inl ⟨rfl, fun W hb => yields_bin rfl rfl rfl (eqGuard_err W) (eql_err_same W _)⟩
  · exact .inl ⟨rfl, fun W hb => yields_move rfl rfl⟩
  · exact .inl ⟨rfl, fun W hb => yields_move rfl rfl⟩
  · exact .inl ⟨rfl, fun W hb => yields_field rfl rfl (field_o0 W _ _)⟩
  · exact .inl ⟨rfl, fun W hb => yields_load rfl rfl (load_int_run (hO3.same (hb.block _ hl3)).num)⟩
  · exact .inl ⟨rfl, fun W hb => yields_call (f := 17) (xs := [.tmp 21, .tmp 23]) (vs := [.pointer (some ⟨G, 0, none⟩), .int .i64 o.1]) (v := .agg (vals (zeros))) rfl rfl (enters_mrow _ _) (mrow_none _ zeroR _ W (hP3.below hb (Nat.le_refl _)))⟩
  · exact .inl ⟨rfl, fun W hb => yields_load rfl rfl (load_run (hZ3.below hb hZ3.lt) rfl)⟩
  · exact .inl ⟨rfl, fun W hb => yields_bin rfl rfl rfl (run_eqGuard_agg W _ _ _ _ _ _ plain_vec) (run_eql_same W rfl rfl rfl)⟩
  · exact .inl ⟨rfl, fun W hb => yields_pick (b := true) rfl rfl rfl⟩
  · exact .inl ⟨rfl, fun W hb => yields_move rfl rfl⟩
  · exact .inl ⟨rfl, fun W hb => yields_move rfl rfl⟩
  · exact .inl ⟨rfl, fun W hb => yields_call (f := 13) (xs := [.tmp 29]) (vs := [.pointer (some ⟨G, 0, none⟩)]) (v := .agg (vals (zeros))) rfl rfl (enters_mstab _ _) (mstab_none _ zeroR W (hP3.below hb (Nat.le_refl _)))⟩
  · exact .inl ⟨rfl, fun W hb => yields_load rfl rfl (load_run (hZ3.below hb hZ3.lt) rfl)⟩
  · exact .inl ⟨rfl, fun W hb => yields_bin rfl rfl rfl (run_eqGuard_agg W _ _ _ _ _ _ plain_vec) (run_eql_same W rfl rfl rfl)⟩
  · exact .inl ⟨rfl, fun W hb => yields_pick (b := true) rfl rfl rfl⟩
  · exact .inl ⟨rfl, fun W hb => yields_move rfl rfl⟩
  · exact .inl ⟨rfl, fun W hb => yields_move rfl rfl⟩
  · exact .inl ⟨rfl, fun W hb => yields_field rfl rfl (field_o1 W _ _)⟩
  · exact .inl ⟨rfl, fun W hb => yields_load rfl rfl (hO3.same (hb.block _ hl3)).load⟩
  · exact .inl ⟨rfl, fun W hb => yields_call (f := 15) (xs := [.tmp 35, .tmp 37]) (vs := [.pointer (some ⟨G, 0, none⟩), .agg (vals (o.2))]) (v := .agg (vals (zeros))) rfl rfl (enters_mcut _ _) (mcut_none _ zeroR _ ho W (hP3.below hb (Nat.le_refl _)))⟩
  · exact .inl ⟨rfl, fun W hb => yields_load rfl rfl (load_run (hZ3.below hb hZ3.lt) rfl)⟩
  · exact .inl ⟨rfl, fun W hb => yields_bin rfl rfl rfl (run_eqGuard_agg W _ _ _ _ _ _ plain_vec) (run_eql_same W rfl rfl rfl)⟩
  · exact .inl ⟨rfl, fun W hb => yields_pick (b := true) rfl rfl rfl⟩
  · exact .inl ⟨rfl, fun W hb => yields_assign rfl rfl⟩
  intro w5 hb5
  have HB : Hid (Below w.heap.size w w5) := hB3.trans (hb5.mono (Nat.le_of_lt hl3))
  clear hO3 hZ3 hP3 hB3 hb5 hst
  go_wp2
  go_ret
  exact ⟨rfl, HB.out⟩
theorem lnil_walk (o : Int × List Int) (z : Bool) (ho : o.2.length = 16) (w : World) : Calls Try.prog 6 #[.agg (mopl o).toArray, .bool z] w fun e w' => e = .returned (.bool true) ∧ Below w.heap.size w w' := by
  cases z
  · exact lnil_false o ho w
  · exact lnil_true o ho w
end Go.Proofs.Ytcndgbepdgjkeaa
