/-
  VecLattice: Join and Meet don't hang on the order or the grouping, and take one another back. For every input.
-/
import Derived.Test.YtdphhkchodaeiaaAwk
import Derived.Test.YtdphhkchodaeiaaRvl
namespace Go.Proofs.Ytdphhkchodaeiaa
open Go.RowKit

theorem each_ext (a b : List Int) (la : a.length = 16) (lb : b.length = 16) (h : ∀ i, i < 16 → a.getD i 0 = b.getD i 0) : a = b := vec_ext a b la lb h
theorem join_comm (a b : List Int) (la : a.length = 16) (lb : b.length = 16) : each max a b = each max b a :=
  vec_ext _ _ (each_length _ _ _ la lb) (each_length _ _ _ lb la) fun i hi => by rw [each_get _ _ _ _ la lb hi, each_get _ _ _ _ lb la hi]; omega
theorem meet_comm (a b : List Int) (la : a.length = 16) (lb : b.length = 16) : each min a b = each min b a :=
  vec_ext _ _ (each_length _ _ _ la lb) (each_length _ _ _ lb la) fun i hi => by rw [each_get _ _ _ _ la lb hi, each_get _ _ _ _ lb la hi]; omega
theorem join_self (a : List Int) (la : a.length = 16) : each max a a = a :=
  vec_ext _ _ (each_length _ _ _ la la) la fun i hi => by rw [each_get _ _ _ _ la la hi]; omega
theorem meet_self (a : List Int) (la : a.length = 16) : each min a a = a :=
  vec_ext _ _ (each_length _ _ _ la la) la fun i hi => by rw [each_get _ _ _ _ la la hi]; omega
theorem join_assoc (a b c : List Int) (la : a.length = 16) (lb : b.length = 16) (lc : c.length = 16) : each max (each max a b) c = each max a (each max b c) :=
  vec_ext _ _ (each_length _ _ _ (each_length _ _ _ la lb) lc) (each_length _ _ _ la (each_length _ _ _ lb lc)) fun i hi => by
    rw [each_get _ _ _ _ (each_length _ _ _ la lb) lc hi, each_get _ _ _ _ la lb hi, each_get _ _ _ _ la (each_length _ _ _ lb lc) hi, each_get _ _ _ _ lb lc hi]; omega
theorem meet_assoc (a b c : List Int) (la : a.length = 16) (lb : b.length = 16) (lc : c.length = 16) : each min (each min a b) c = each min a (each min b c) :=
  vec_ext _ _ (each_length _ _ _ (each_length _ _ _ la lb) lc) (each_length _ _ _ la (each_length _ _ _ lb lc)) fun i hi => by
    rw [each_get _ _ _ _ (each_length _ _ _ la lb) lc hi, each_get _ _ _ _ la lb hi, each_get _ _ _ _ la (each_length _ _ _ lb lc) hi, each_get _ _ _ _ lb lc hi]; omega
theorem join_meet (a b : List Int) (la : a.length = 16) (lb : b.length = 16) : each max a (each min a b) = a :=
  vec_ext _ _ (each_length _ _ _ la (each_length _ _ _ la lb)) la fun i hi => by rw [each_get _ _ _ _ la (each_length _ _ _ la lb) hi, each_get _ _ _ _ la lb hi]; omega
theorem meet_join (a b : List Int) (la : a.length = 16) (lb : b.length = 16) : each min a (each max a b) = a :=
  vec_ext _ _ (each_length _ _ _ la (each_length _ _ _ la lb)) la fun i hi => by rw [each_get _ _ _ _ la (each_length _ _ _ la lb) hi, each_get _ _ _ _ la lb hi]; omega

set_option maxHeartbeats 1000000 in
theorem lattice_walk (a b c : List Int) (la : a.length = 16) (lb : b.length = 16) (lc : c.length = 16) (w : World) :
    Calls Try.prog 5 #[.agg (vals a), .agg (vals b), .agg (vals c)] w fun e w' => e = .returned (.bool true) ∧ Below w.heap.size w w' := by
  obtain ⟨hA, hB, hC, hb0⟩ := boxed3 w a b c
  go_enter Try.func5, Try.ntmps5
  go_wp2_with fail
  refine (awake_any _).mono ?_
  rintro e w1 ⟨rfl, hb1⟩
  have hA1 := hA.below hb1 hA.lt
  have hB1 := hB.below hb1 hB.lt
  have hC1 := hC.below hb1 hC.lt
  have hW1 : Hid (Below w.heap.size w w1) := hb0.trans (hb1.mono hb0.size)
  clear hA hB hC hb0 hb1
  go_wp2_with fail
  refine region_vals [9, 10, 11, 12, 13, 14, 15, 16, 17, 18, 19, 20, 21, 22, 23, 24, 25, 26, 27, 28, 29, 30, 31, 32, 33, 34, 35, 36, 37, 38] [.agg (vals (a)), .agg (vals (b)), .agg (vals (each max (a) (b))), .agg (vals (b)), .agg (vals (a)), .agg (vals (each max (b) (a))), .bool false, .bool false, .agg (vals (a)), .agg (vals (b)), .agg (vals (each min (a) (b))), .agg (vals (b)), .agg (vals (a)), .agg (vals (each min (b) (a))), .bool false, .bool false, .bool false, .agg (vals (a)), .agg (vals (a)), .agg (vals (each max (a) (a))), .agg (vals (a)), .bool false, .bool false, .bool false, .agg (vals (a)), .agg (vals (a)), .agg (vals (each min (a) (a))), .agg (vals (a)), .bool false, .bool false] _ (by kernel_rfl) (by kernel_rfl) (by rfl) (by decide) (by kernel_rfl) (by simp only [lay, Act.put, List.setIfInBounds_toArray, List.set_cons_zero, List.set_cons_succ, List.getD_cons_zero, List.getD_cons_succ, Nat.reduceAdd]; rfl) ⟨?_, ?_, ?_, ?_, ?_, ?_, ?_, ?_, ?_, ?_, ?_, ?_, ?_, ?_, ?_, ?_, ?_, ?_, ?_, ?_, ?_, ?_, ?_, ?_, ?_, ?_, ?_, ?_, ?_, ?_, trivial⟩ ?_
  · exact .inl ⟨rfl, fun W hb => yields_load rfl rfl (load_run ((hA1).below hb (hA1).lt) la)⟩
  · exact .inl ⟨rfl, fun W hb => yields_load rfl rfl (load_run ((hB1).below hb (hB1).lt) lb)⟩
  · exact .inl ⟨rfl, fun W hb => yields_call (vs := [.agg (vals (a)), .agg (vals (b))]) (v := .agg (vals (each max (a) (b)))) rfl rfl (enters_join _ _) (join_any _ _ la lb W)⟩
  · exact .inl ⟨rfl, fun W hb => yields_load rfl rfl (load_run ((hB1).below hb (hB1).lt) lb)⟩
  · exact .inl ⟨rfl, fun W hb => yields_load rfl rfl (load_run ((hA1).below hb (hA1).lt) la)⟩
  · exact .inl ⟨rfl, fun W hb => yields_call (vs := [.agg (vals (b)), .agg (vals (a))]) (v := .agg (vals (each max (b) (a)))) rfl rfl (enters_join _ _) (join_any _ _ lb la W)⟩
  · exact .inl ⟨rfl, fun W hb => yields_bin rfl rfl rfl (run_eqGuard_agg W _ _ _ _ _ _ plain_vec) (run_neq_same W (join_comm a b la lb) (each_length max _ _ la lb) (each_length max _ _ lb la))⟩
  · exact .inl ⟨rfl, fun W hb => yields_move rfl rfl⟩
  · exact .inl ⟨rfl, fun W hb => yields_load rfl rfl (load_run ((hA1).below hb (hA1).lt) la)⟩
  · exact .inl ⟨rfl, fun W hb => yields_load rfl rfl (load_run ((hB1).below hb (hB1).lt) lb)⟩
  · exact .inl ⟨rfl, fun W hb => yields_call (vs := [.agg (vals (a)), .agg (vals (b))]) (v := .agg (vals (each min (a) (b)))) rfl rfl (enters_meet _ _) (meet_any _ _ la lb W)⟩
  · exact .inl ⟨rfl, fun W hb => yields_load rfl rfl (load_run ((hB1).below hb (hB1).lt) lb)⟩
  · exact .inl ⟨rfl, fun W hb => yields_load rfl rfl (load_run ((hA1).below hb (hA1).lt) la)⟩
  · exact .inl ⟨rfl, fun W hb => yields_call (vs := [.agg (vals (b)), .agg (vals (a))]) (v := .agg (vals (each min (b) (a)))) rfl rfl (enters_meet _ _) (meet_any _ _ lb la W)⟩
  · exact .inl ⟨rfl, fun W hb => yields_bin rfl rfl rfl (run_eqGuard_agg W _ _ _ _ _ _ plain_vec) (run_neq_same W (meet_comm a b la lb) (each_length min _ _ la lb) (each_length min _ _ lb la))⟩
  · exact .inl ⟨rfl, fun W hb => yields_pick (b := false) rfl rfl rfl⟩
  · exact .inl ⟨rfl, fun W hb => yields_move rfl rfl⟩
  · exact .inl ⟨rfl, fun W hb => yields_load rfl rfl (load_run ((hA1).below hb (hA1).lt) la)⟩
  · exact .inl ⟨rfl, fun W hb => yields_load rfl rfl (load_run ((hA1).below hb (hA1).lt) la)⟩
  · exact .inl ⟨rfl, fun W hb => yields_call (vs := [.agg (vals (a)), .agg (vals (a))]) (v := .agg (vals (each max (a) (a)))) rfl rfl (enters_join _ _) (join_any _ _ la la W)⟩
  · exact .inl ⟨rfl, fun W hb => yields_load rfl rfl (load_run ((hA1).below hb (hA1).lt) la)⟩
  · exact .inl ⟨rfl, fun W hb => yields_bin rfl rfl rfl (run_eqGuard_agg W _ _ _ _ _ _ plain_vec) (run_neq_same W (join_self a la) (each_length max _ _ la la) la)⟩
  · exact .inl ⟨rfl, fun W hb => yields_pick (b := false) rfl rfl rfl⟩
  · exact .inl ⟨rfl, fun W hb => yields_move rfl rfl⟩
  · exact .inl ⟨rfl, fun W hb => yields_load rfl rfl (load_run ((hA1).below hb (hA1).lt) la)⟩
  · exact .inl ⟨rfl, fun W hb => yields_load rfl rfl (load_run ((hA1).below hb (hA1).lt) la)⟩
  · exact .inl ⟨rfl, fun W hb => yields_call (vs := [.agg (vals (a)), .agg (vals (a))]) (v := .agg (vals (each min (a) (a)))) rfl rfl (enters_meet _ _) (meet_any _ _ la la W)⟩
  · exact .inl ⟨rfl, fun W hb => yields_load rfl rfl (load_run ((hA1).below hb (hA1).lt) la)⟩
  · exact .inl ⟨rfl, fun W hb => yields_bin rfl rfl rfl (run_eqGuard_agg W _ _ _ _ _ _ plain_vec) (run_neq_same W (meet_self a la) (each_length min _ _ la la) la)⟩
  · exact .inl ⟨rfl, fun W hb => yields_pick (b := false) rfl rfl rfl⟩
  intro w2 hb2
  have hA2 := hA1.below hb2 hA1.lt
  have hB2 := hB1.below hb2 hB1.lt
  have hC2 := hC1.below hb2 hC1.lt
  have hW2 : Hid (Below w.heap.size w w2) := hW1.out.trans (hb2.mono hW1.out.size)
  clear hA1 hB1 hC1 hb2 hW1
  go_wp2_with fail
  refine region_vals [39, 40, 41, 42, 43, 44, 45, 46, 47, 48, 49, 50, 51, 52, 53, 54, 55, 56, 57, 58, 59, 60, 61, 62] [.agg (vals (a)), .agg (vals (b)), .agg (vals (each max (a) (b))), .agg (vals (c)), .agg (vals (each max (each max (a) (b)) (c))), .agg (vals (a)), .agg (vals (b)), .agg (vals (c)), .agg (vals (each max (b) (c))), .agg (vals (each max (a) (each max (b) (c)))), .bool false, .bool false, .agg (vals (a)), .agg (vals (b)), .agg (vals (each min (a) (b))), .agg (vals (c)), .agg (vals (each min (each min (a) (b)) (c))), .agg (vals (a)), .agg (vals (b)), .agg (vals (c)), .agg (vals (each min (b) (c))), .agg (vals (each min (a) (each min (b) (c)))), .bool false, .bool false] _ (by kernel_rfl) (by kernel_rfl) (by rfl) (by decide) (by kernel_rfl) (by simp only [lay, Act.put, List.setIfInBounds_toArray, List.set_cons_zero, List.set_cons_succ, List.getD_cons_zero, List.getD_cons_succ, Nat.reduceAdd]; rfl) ⟨?_, ?_, ?_, ?_, ?_, ?_, ?_, ?_, ?_, ?_, ?_, ?_, ?_, ?_, ?_, ?_, ?_, ?_, ?_, ?_, ?_, ?_, ?_, ?_, trivial⟩ ?_
  · exact .inl ⟨rfl, fun W hb => yields_load rfl rfl (load_run ((hA2).below hb (hA2).lt) la)⟩
  · exact .inl ⟨rfl, fun W hb => yields_load rfl rfl (load_run ((hB2).below hb (hB2).lt) lb)⟩
  · exact .inl ⟨rfl, fun W hb => yields_call (vs := [.agg (vals (a)), .agg (vals (b))]) (v := .agg (vals (each max (a) (b)))) rfl rfl (enters_join _ _) (join_any _ _ la lb W)⟩
  · exact .inl ⟨rfl, fun W hb => yields_load rfl rfl (load_run ((hC2).below hb (hC2).lt) lc)⟩
  · exact .inl ⟨rfl, fun W hb => yields_call (vs := [.agg (vals (each max (a) (b))), .agg (vals (c))]) (v := .agg (vals (each max (each max (a) (b)) (c)))) rfl rfl (enters_join _ _) (join_any _ _ (each_length max _ _ la lb) lc W)⟩
  · exact .inl ⟨rfl, fun W hb => yields_load rfl rfl (load_run ((hA2).below hb (hA2).lt) la)⟩
  · exact .inl ⟨rfl, fun W hb => yields_load rfl rfl (load_run ((hB2).below hb (hB2).lt) lb)⟩
  · exact .inl ⟨rfl, fun W hb => yields_load rfl rfl (load_run ((hC2).below hb (hC2).lt) lc)⟩
  · exact .inl ⟨rfl, fun W hb => yields_call (vs := [.agg (vals (b)), .agg (vals (c))]) (v := .agg (vals (each max (b) (c)))) rfl rfl (enters_join _ _) (join_any _ _ lb lc W)⟩
  · exact .inl ⟨rfl, fun W hb => yields_call (vs := [.agg (vals (a)), .agg (vals (each max (b) (c)))]) (v := .agg (vals (each max (a) (each max (b) (c))))) rfl rfl (enters_join _ _) (join_any _ _ la (each_length max _ _ lb lc) W)⟩
  · exact .inl ⟨rfl, fun W hb => yields_bin rfl rfl rfl (run_eqGuard_agg W _ _ _ _ _ _ plain_vec) (run_neq_same W (join_assoc a b c la lb lc) (each_length max _ _ (each_length max _ _ la lb) lc) (each_length max _ _ la (each_length max _ _ lb lc)))⟩
  · exact .inl ⟨rfl, fun W hb => yields_move rfl rfl⟩
  · exact .inl ⟨rfl, fun W hb => yields_load rfl rfl (load_run ((hA2).below hb (hA2).lt) la)⟩
  · exact .inl ⟨rfl, fun W hb => yields_load rfl rfl (load_run ((hB2).below hb (hB2).lt) lb)⟩
  · exact .inl ⟨rfl, fun W hb => yields_call (vs := [.agg (vals (a)), .agg (vals (b))]) (v := .agg (vals (each min (a) (b)))) rfl rfl (enters_meet _ _) (meet_any _ _ la lb W)⟩
  · exact .inl ⟨rfl, fun W hb => yields_load rfl rfl (load_run ((hC2).below hb (hC2).lt) lc)⟩
  · exact .inl ⟨rfl, fun W hb => yields_call (vs := [.agg (vals (each min (a) (b))), .agg (vals (c))]) (v := .agg (vals (each min (each min (a) (b)) (c)))) rfl rfl (enters_meet _ _) (meet_any _ _ (each_length min _ _ la lb) lc W)⟩
  · exact .inl ⟨rfl, fun W hb => yields_load rfl rfl (load_run ((hA2).below hb (hA2).lt) la)⟩
  · exact .inl ⟨rfl, fun W hb => yields_load rfl rfl (load_run ((hB2).below hb (hB2).lt) lb)⟩
  · exact .inl ⟨rfl, fun W hb => yields_load rfl rfl (load_run ((hC2).below hb (hC2).lt) lc)⟩
  · exact .inl ⟨rfl, fun W hb => yields_call (vs := [.agg (vals (b)), .agg (vals (c))]) (v := .agg (vals (each min (b) (c)))) rfl rfl (enters_meet _ _) (meet_any _ _ lb lc W)⟩
  · exact .inl ⟨rfl, fun W hb => yields_call (vs := [.agg (vals (a)), .agg (vals (each min (b) (c)))]) (v := .agg (vals (each min (a) (each min (b) (c))))) rfl rfl (enters_meet _ _) (meet_any _ _ la (each_length min _ _ lb lc) W)⟩
  · exact .inl ⟨rfl, fun W hb => yields_bin rfl rfl rfl (run_eqGuard_agg W _ _ _ _ _ _ plain_vec) (run_neq_same W (meet_assoc a b c la lb lc) (each_length min _ _ (each_length min _ _ la lb) lc) (each_length min _ _ la (each_length min _ _ lb lc)))⟩
  · exact .inl ⟨rfl, fun W hb => yields_pick (b := false) rfl rfl rfl⟩
  intro w3 hb3
  have hA3 := hA2.below hb3 hA2.lt
  have hB3 := hB2.below hb3 hB2.lt
  have hW3 : Hid (Below w.heap.size w w3) := hW2.out.trans (hb3.mono hW2.out.size)
  clear hA2 hB2 hC2 hb3 hW2
  go_wp2_with fail
  refine region_vals [63, 64, 65, 66, 67, 68, 69, 70, 71, 72, 73, 74, 75, 76, 77, 78, 6] [.agg (vals (a)), .agg (vals (a)), .agg (vals (b)), .agg (vals (each min (a) (b))), .agg (vals (each max (a) (each min (a) (b)))), .agg (vals (a)), .bool true, .bool true, .agg (vals (a)), .agg (vals (a)), .agg (vals (b)), .agg (vals (each max (a) (b))), .agg (vals (each min (a) (each max (a) (b)))), .agg (vals (a)), .bool true, .bool true, .bool true] _ (by kernel_rfl) (by kernel_rfl) (by rfl) (by decide) (by kernel_rfl) (by simp only [lay, Act.put, List.setIfInBounds_toArray, List.set_cons_zero, List.set_cons_succ, List.getD_cons_zero, List.getD_cons_succ, Nat.reduceAdd]; rfl) ⟨?_, ?_, ?_, ?_, ?_, ?_, ?_, ?_, ?_, ?_, ?_, ?_, ?_, ?_, ?_, ?_, ?_, trivial⟩ ?_
  · exact .inl ⟨rfl, fun W hb => yields_load rfl rfl (load_run ((hA3).below hb (hA3).lt) la)⟩
  · exact .inl ⟨rfl, fun W hb => yields_load rfl rfl (load_run ((hA3).below hb (hA3).lt) la)⟩
  · exact .inl ⟨rfl, fun W hb => yields_load rfl rfl (load_run ((hB3).below hb (hB3).lt) lb)⟩
  · exact .inl ⟨rfl, fun W hb => yields_call (vs := [.agg (vals (a)), .agg (vals (b))]) (v := .agg (vals (each min (a) (b)))) rfl rfl (enters_meet _ _) (meet_any _ _ la lb W)⟩
  · exact .inl ⟨rfl, fun W hb => yields_call (vs := [.agg (vals (a)), .agg (vals (each min (a) (b)))]) (v := .agg (vals (each max (a) (each min (a) (b))))) rfl rfl (enters_join _ _) (join_any _ _ la (each_length min _ _ la lb) W)⟩
  · exact .inl ⟨rfl, fun W hb => yields_load rfl rfl (load_run ((hA3).below hb (hA3).lt) la)⟩
  · exact .inl ⟨rfl, fun W hb => yields_bin rfl rfl rfl (run_eqGuard_agg W _ _ _ _ _ _ plain_vec) (run_eql_same W (join_meet a b la lb) (each_length max _ _ la (each_length min _ _ la lb)) la)⟩
  · exact .inl ⟨rfl, fun W hb => yields_move rfl rfl⟩
  · exact .inl ⟨rfl, fun W hb => yields_load rfl rfl (load_run ((hA3).below hb (hA3).lt) la)⟩
  · exact .inl ⟨rfl, fun W hb => yields_load rfl rfl (load_run ((hA3).below hb (hA3).lt) la)⟩
  · exact .inl ⟨rfl, fun W hb => yields_load rfl rfl (load_run ((hB3).below hb (hB3).lt) lb)⟩
  · exact .inl ⟨rfl, fun W hb => yields_call (vs := [.agg (vals (a)), .agg (vals (b))]) (v := .agg (vals (each max (a) (b)))) rfl rfl (enters_join _ _) (join_any _ _ la lb W)⟩
  · exact .inl ⟨rfl, fun W hb => yields_call (vs := [.agg (vals (a)), .agg (vals (each max (a) (b)))]) (v := .agg (vals (each min (a) (each max (a) (b))))) rfl rfl (enters_meet _ _) (meet_any _ _ la (each_length max _ _ la lb) W)⟩
  · exact .inl ⟨rfl, fun W hb => yields_load rfl rfl (load_run ((hA3).below hb (hA3).lt) la)⟩
  · exact .inl ⟨rfl, fun W hb => yields_bin rfl rfl rfl (run_eqGuard_agg W _ _ _ _ _ _ plain_vec) (run_eql_same W (meet_join a b la lb) (each_length min _ _ la (each_length max _ _ la lb)) la)⟩
  · exact .inl ⟨rfl, fun W hb => yields_pick (b := true) rfl rfl rfl⟩
  · exact .inl ⟨rfl, fun W hb => yields_assign rfl rfl⟩
  intro w4 hb4
  go_wp2
  go_ret
  exact ⟨rfl, hW3.out.trans (hb4.mono hW3.out.size)⟩
end Go.Proofs.Ytdphhkchodaeiaa
