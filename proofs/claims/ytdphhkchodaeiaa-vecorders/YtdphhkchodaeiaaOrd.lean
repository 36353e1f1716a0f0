/-
  VecOrders: a is the same as, or behind b just if their Join is b, just if their Meet is a, just if b lacks no dot of a; and the other way round it is ahead. For every input.
-/
import Derived.Test.YtdphhkchodaeiaaCmp
import Derived.Test.YtdphhkchodaeiaaLck
import Derived.Test.YtdphhkchodaeiaaAwk
namespace Go.Proofs.Ytdphhkchodaeiaa
open Go.RowKit

theorem lackTo_zero (a b : List Int) : ∀ k, lackTo a b k = 0 ↔ ∀ i, i < k → b.getD i 0 ≤ a.getD i 0
  | 0 => ⟨fun _ i hi => by omega, fun _ => rfl⟩
  | k + 1 => by
    have ih := lackTo_zero a b k
    have l0 := lackTo_low a b k
    have g0 := gp_low (a.getD k 0) (b.getD k 0)
    have gz : gp (a.getD k 0) (b.getD k 0) = 0 ↔ b.getD k 0 ≤ a.getD k 0 := by
      unfold gp
      split <;> omega
    have e : lackTo a b (k + 1) = 0 ↔ lackTo a b k = 0 ∧ gp (a.getD k 0) (b.getD k 0) = 0 := by
      rw [lackTo]; omega
    rw [e, ih, gz]
    constructor
    · rintro ⟨h1, h2⟩ i hi
      by_cases he : i = k
      · subst he; exact h2
      · exact h1 i (by omega)
    · intro h
      exact ⟨fun i hi => h i (by omega), h k (by omega)⟩
theorem lacks_zero (a b : List Int) : lacks a b = 0 ↔ most b a = true := by rw [lacks, lackTo_zero, most_spec]

set_option maxHeartbeats 1000000 in
theorem orders_0 (a b : List Int) (la : a.length = 16) (lb : b.length = 16) (sa : Small a) (sb : Small b) (h1 : most a b = true) (h2 : most b a = true) (h : a = b) (w : World) :
    Calls Try.prog 6 #[.agg (vals a), .agg (vals b)] w fun e w' => e = .returned (.bool true) ∧ Below w.heap.size w w' := by
  obtain ⟨hA, hB, hb0⟩ := boxed2 w a b
  have hn : Hid (way a b = 0) := by show _ = _; unfold way; rw [if_pos h]
  have hm : Hid (way b a = 0) := by show _ = _; unfold way; rw [if_pos h.symm]
  have hj : Hid (each max a b = b) := by exact (most_join a b la lb).2 h1
  have he : Hid (each min a b = a) := by exact (most_meet a b la lb).2 h1
  have hl : Hid (lacks b a = 0) := by exact (lacks_zero b a).2 h1
  have hk : Hid (lacks a b = 0) := by exact (lacks_zero a b).2 h2
  have pv := plain_vec
  have q0 := fun W => run_equalIn_vec W 9998 a b la lb
  rw [decide_eq_true h] at q0
  clear h1 h2 h
  go_enter Try.func6, Try.ntmps6
  go_wp2_with fail
  refine (awake_any _).mono ?_
  rintro e w1 ⟨rfl, hb1⟩
  have hA1 := hA.below hb1 hA.lt
  have hB1 := hB.below hb1 hB.lt
  have hW1 : Hid (Below w.heap.size w w1) := hb0.trans (hb1.mono hb0.size)
  clear hA hB hb0 hb1
  go_wp2_with fail
  refine region_vals [11, 12, 13, 14, 15, 16, 5, 6] [.agg (vals (a)), .agg (vals (b)), .int .i64 (0), .agg (vals (b)), .agg (vals (a)), .int .i64 (0), .int .i64 (0), .int .i64 (0)] _ (by kernel_rfl) (by kernel_rfl) (by rfl) (by decide) (by kernel_rfl) (by simp only [lay, Act.put, List.setIfInBounds_toArray, List.set_cons_zero, List.set_cons_succ, List.getD_cons_zero, List.getD_cons_succ, Nat.reduceAdd]; rfl) ⟨?_, ?_, ?_, ?_, ?_, ?_, ?_, ?_, trivial⟩ ?_
  · exact .inl ⟨rfl, fun W hb => yields_load rfl rfl (load_run ((hA1).below hb (hA1).lt) la)⟩
  · exact .inl ⟨rfl, fun W hb => yields_load rfl rfl (load_run ((hB1).below hb (hB1).lt) lb)⟩
  · exact .inl ⟨rfl, fun W hb => yields_call (vs := [.agg (vals (a)), .agg (vals (b))]) (v := .int .i64 (0)) rfl rfl (enters_compare _ _) (okint (compare_any _ _ la lb W) hn.out)⟩
  · exact .inl ⟨rfl, fun W hb => yields_load rfl rfl (load_run ((hB1).below hb (hB1).lt) lb)⟩
  · exact .inl ⟨rfl, fun W hb => yields_load rfl rfl (load_run ((hA1).below hb (hA1).lt) la)⟩
  · exact .inl ⟨rfl, fun W hb => yields_call (vs := [.agg (vals (b)), .agg (vals (a))]) (v := .int .i64 (0)) rfl rfl (enters_compare _ _) (okint (compare_any _ _ lb la W) hm.out)⟩
  · exact .inl ⟨rfl, fun W hb => yields_assign rfl rfl⟩
  · exact .inl ⟨rfl, fun W hb => yields_assign rfl rfl⟩
  intro w2 hb2
  have hA2 := hA1.below hb2 hA1.lt
  have hB2 := hB1.below hb2 hB1.lt
  have hW2 : Hid (Below w.heap.size w w2) := hW1.out.trans (hb2.mono hW1.out.size)
  clear hA1 hB1 hb2 hW1
  go_wp2_with fail
  refine region_vals [29, 30, 31, 32, 33, 34, 35, 36, 37, 38, 39, 40, 41, 42, 43, 44, 45, 46, 47, 48, 49, 50, 51, 52, 53, 54, 55, 56, 57, 58, 59, 60] [.bool true, .agg (vals (a)), .agg (vals (b)), .agg (vals (each max (a) (b))), .agg (vals (b)), .bool true, .bool false, .bool false, .bool true, .agg (vals (a)), .agg (vals (b)), .agg (vals (each min (a) (b))), .agg (vals (a)), .bool true, .bool false, .bool false, .bool false, .bool true, .agg (vals (b)), .agg (vals (a)), .int .i64 (lacks b a), .bool true, .bool false, .bool false, .bool false, .bool true, .agg (vals (a)), .agg (vals (b)), .int .i64 (lacks a b), .bool true, .bool false, .bool false] _ (by kernel_rfl) (by kernel_rfl) (by rfl) (by decide) (by kernel_rfl) (by simp only [lay, Act.put, List.setIfInBounds_toArray, List.set_cons_zero, List.set_cons_succ, List.getD_cons_zero, List.getD_cons_succ, Nat.reduceAdd]; rfl) ⟨?_, ?_, ?_, ?_, ?_, ?_, ?_, ?_, ?_, ?_, ?_, ?_, ?_, ?_, ?_, ?_, ?_, ?_, ?_, ?_, ?_, ?_, ?_, ?_, ?_, ?_, ?_, ?_, ?_, ?_, ?_, ?_, trivial⟩ ?_
  · exact .inl ⟨rfl, fun W hb => yields_move rfl rfl⟩
  · exact .inl ⟨rfl, fun W hb => yields_load rfl rfl (load_run ((hA2).below hb (hA2).lt) la)⟩
  · exact .inl ⟨rfl, fun W hb => yields_load rfl rfl (load_run ((hB2).below hb (hB2).lt) lb)⟩
  · exact .inl ⟨rfl, fun W hb => yields_call (vs := [.agg (vals (a)), .agg (vals (b))]) (v := .agg (vals (each max (a) (b)))) rfl rfl (enters_join _ _) (join_any _ _ la lb W)⟩
  · exact .inl ⟨rfl, fun W hb => yields_load rfl rfl (load_run ((hB2).below hb (hB2).lt) lb)⟩
  · exact .inl ⟨rfl, fun W hb => yields_bin rfl rfl rfl (run_eqGuard_agg W _ _ _ _ _ _ plain_vec) (run_eql_same W (hj.out) (each_length max _ _ la lb) lb)⟩
  · exact .inl ⟨rfl, fun W hb => yields_bin rfl rfl rfl (eqGuard_bool W) (neq_bool W)⟩
  · exact .inl ⟨rfl, fun W hb => yields_move rfl rfl⟩
  · exact .inl ⟨rfl, fun W hb => yields_move rfl rfl⟩
  · exact .inl ⟨rfl, fun W hb => yields_load rfl rfl (load_run ((hA2).below hb (hA2).lt) la)⟩
  · exact .inl ⟨rfl, fun W hb => yields_load rfl rfl (load_run ((hB2).below hb (hB2).lt) lb)⟩
  · exact .inl ⟨rfl, fun W hb => yields_call (vs := [.agg (vals (a)), .agg (vals (b))]) (v := .agg (vals (each min (a) (b)))) rfl rfl (enters_meet _ _) (meet_any _ _ la lb W)⟩
  · exact .inl ⟨rfl, fun W hb => yields_load rfl rfl (load_run ((hA2).below hb (hA2).lt) la)⟩
  · exact .inl ⟨rfl, fun W hb => yields_bin rfl rfl rfl (run_eqGuard_agg W _ _ _ _ _ _ plain_vec) (run_eql_same W (he.out) (each_length min _ _ la lb) la)⟩
  · exact .inl ⟨rfl, fun W hb => yields_bin rfl rfl rfl (eqGuard_bool W) (neq_bool W)⟩
  · exact .inl ⟨rfl, fun W hb => yields_pick (b := false) rfl rfl rfl⟩
  · exact .inl ⟨rfl, fun W hb => yields_move rfl rfl⟩
  · exact .inl ⟨rfl, fun W hb => yields_move rfl rfl⟩
  · exact .inl ⟨rfl, fun W hb => yields_load rfl rfl (load_run ((hB2).below hb (hB2).lt) lb)⟩
  · exact .inl ⟨rfl, fun W hb => yields_load rfl rfl (load_run ((hA2).below hb (hA2).lt) la)⟩
  · exact .inl ⟨rfl, fun W hb => yields_call (vs := [.agg (vals (b)), .agg (vals (a))]) (v := .int .i64 (lacks b a)) rfl rfl (enters_lacks _ _) (lacks_any _ _ lb la sb sa W)⟩
  · exact .inl ⟨rfl, fun W hb => yields_bin rfl rfl rfl (eqGuard_int W) (run_eql_int_same W (hl.out))⟩
  · exact .inl ⟨rfl, fun W hb => yields_bin rfl rfl rfl (eqGuard_bool W) (neq_bool W)⟩
  · exact .inl ⟨rfl, fun W hb => yields_pick (b := false) rfl rfl rfl⟩
  · exact .inl ⟨rfl, fun W hb => yields_move rfl rfl⟩
  · exact .inl ⟨rfl, fun W hb => yields_move rfl rfl⟩
  · exact .inl ⟨rfl, fun W hb => yields_load rfl rfl (load_run ((hA2).below hb (hA2).lt) la)⟩
  · exact .inl ⟨rfl, fun W hb => yields_load rfl rfl (load_run ((hB2).below hb (hB2).lt) lb)⟩
  · exact .inl ⟨rfl, fun W hb => yields_call (vs := [.agg (vals (a)), .agg (vals (b))]) (v := .int .i64 (lacks a b)) rfl rfl (enters_lacks _ _) (lacks_any _ _ la lb sa sb W)⟩
  · exact .inl ⟨rfl, fun W hb => yields_bin rfl rfl rfl (eqGuard_int W) (run_eql_int_same W (hk.out))⟩
  · exact .inl ⟨rfl, fun W hb => yields_bin rfl rfl rfl (eqGuard_bool W) (neq_bool W)⟩
  · exact .inl ⟨rfl, fun W hb => yields_pick (b := false) rfl rfl rfl⟩
  intro w3 hb3
  have hA3 := hA2.below hb3 hA2.lt
  have hB3 := hB2.below hb3 hB2.lt
  have hW3 : Hid (Below w.heap.size w w3) := hW2.out.trans (hb3.mono hW2.out.size)
  clear hA2 hB2 hb3 hW2
  go_wp2_with (first | refine load_vec_w rfl rfl rfl hA3 la ?_ | refine load_vec_w rfl rfl rfl hB3 lb ?_)
  go_ret
  exact ⟨rfl, hW3.out⟩
set_option maxHeartbeats 1000000 in
theorem orders_1 (a b : List Int) (la : a.length = 16) (lb : b.length = 16) (sa : Small a) (sb : Small b) (h1 : most a b = true) (h2 : most b a = false) (h : a ≠ b) (w : World) :
    Calls Try.prog 6 #[.agg (vals a), .agg (vals b)] w fun e w' => e = .returned (.bool true) ∧ Below w.heap.size w w' := by
  obtain ⟨hA, hB, hb0⟩ := boxed2 w a b
  have hn : Hid (way a b = 1) := by show _ = _; unfold way; rw [if_neg h, if_pos h1]
  have hm : Hid (way b a = 2) := by show _ = _; unfold way; rw [if_neg (Ne.symm h), if_neg (by rw [h2]; decide), if_pos h1]
  have hj : Hid (each max a b = b) := by exact (most_join a b la lb).2 h1
  have he : Hid (each min a b = a) := by exact (most_meet a b la lb).2 h1
  have hl : Hid (lacks b a = 0) := by exact (lacks_zero b a).2 h1
  have hk : Hid (lacks a b ≠ 0) := by exact fun e => by have := (lacks_zero a b).1 e; rw [h2] at this; cases this
  have pv := plain_vec
  have q0 := fun W => run_equalIn_vec W 9998 a b la lb
  rw [decide_eq_false h] at q0
  clear h1 h2 h
  go_enter Try.func6, Try.ntmps6
  go_wp2_with fail
  refine (awake_any _).mono ?_
  rintro e w1 ⟨rfl, hb1⟩
  have hA1 := hA.below hb1 hA.lt
  have hB1 := hB.below hb1 hB.lt
  have hW1 : Hid (Below w.heap.size w w1) := hb0.trans (hb1.mono hb0.size)
  clear hA hB hb0 hb1
  go_wp2_with fail
  refine region_vals [11, 12, 13, 14, 15, 16, 5, 6] [.agg (vals (a)), .agg (vals (b)), .int .i64 (1), .agg (vals (b)), .agg (vals (a)), .int .i64 (2), .int .i64 (1), .int .i64 (2)] _ (by kernel_rfl) (by kernel_rfl) (by rfl) (by decide) (by kernel_rfl) (by simp only [lay, Act.put, List.setIfInBounds_toArray, List.set_cons_zero, List.set_cons_succ, List.getD_cons_zero, List.getD_cons_succ, Nat.reduceAdd]; rfl) ⟨?_, ?_, ?_, ?_, ?_, ?_, ?_, ?_, trivial⟩ ?_
  · exact .inl ⟨rfl, fun W hb => yields_load rfl rfl (load_run ((hA1).below hb (hA1).lt) la)⟩
  · exact .inl ⟨rfl, fun W hb => yields_load rfl rfl (load_run ((hB1).below hb (hB1).lt) lb)⟩
  · exact .inl ⟨rfl, fun W hb => yields_call (vs := [.agg (vals (a)), .agg (vals (b))]) (v := .int .i64 (1)) rfl rfl (enters_compare _ _) (okint (compare_any _ _ la lb W) hn.out)⟩
  · exact .inl ⟨rfl, fun W hb => yields_load rfl rfl (load_run ((hB1).below hb (hB1).lt) lb)⟩
  · exact .inl ⟨rfl, fun W hb => yields_load rfl rfl (load_run ((hA1).below hb (hA1).lt) la)⟩
  · exact .inl ⟨rfl, fun W hb => yields_call (vs := [.agg (vals (b)), .agg (vals (a))]) (v := .int .i64 (2)) rfl rfl (enters_compare _ _) (okint (compare_any _ _ lb la W) hm.out)⟩
  · exact .inl ⟨rfl, fun W hb => yields_assign rfl rfl⟩
  · exact .inl ⟨rfl, fun W hb => yields_assign rfl rfl⟩
  intro w2 hb2
  have hA2 := hA1.below hb2 hA1.lt
  have hB2 := hB1.below hb2 hB1.lt
  have hW2 : Hid (Below w.heap.size w w2) := hW1.out.trans (hb2.mono hW1.out.size)
  clear hA1 hB1 hb2 hW1
  go_wp2_with fail
  refine region_vals [29, 30, 31, 32, 33, 34, 35, 36, 37, 38, 39, 40, 41, 42, 43, 44, 45, 46, 47, 48, 49, 50, 51, 52, 53, 54, 55, 56, 57, 58, 59, 60] [.bool true, .agg (vals (a)), .agg (vals (b)), .agg (vals (each max (a) (b))), .agg (vals (b)), .bool true, .bool false, .bool false, .bool true, .agg (vals (a)), .agg (vals (b)), .agg (vals (each min (a) (b))), .agg (vals (a)), .bool true, .bool false, .bool false, .bool false, .bool true, .agg (vals (b)), .agg (vals (a)), .int .i64 (lacks b a), .bool true, .bool false, .bool false, .bool false, .bool false, .agg (vals (a)), .agg (vals (b)), .int .i64 (lacks a b), .bool false, .bool false, .bool false] _ (by kernel_rfl) (by kernel_rfl) (by rfl) (by decide) (by kernel_rfl) (by simp only [lay, Act.put, List.setIfInBounds_toArray, List.set_cons_zero, List.set_cons_succ, List.getD_cons_zero, List.getD_cons_succ, Nat.reduceAdd]; rfl) ⟨?_, ?_, ?_, ?_, ?_, ?_, ?_, ?_, ?_, ?_, ?_, ?_, ?_, ?_, ?_, ?_, ?_, ?_, ?_, ?_, ?_, ?_, ?_, ?_, ?_, ?_, ?_, ?_, ?_, ?_, ?_, ?_, trivial⟩ ?_
  · exact .inl ⟨rfl, fun W hb => yields_move rfl rfl⟩
  · exact .inl ⟨rfl, fun W hb => yields_load rfl rfl (load_run ((hA2).below hb (hA2).lt) la)⟩
  · exact .inl ⟨rfl, fun W hb => yields_load rfl rfl (load_run ((hB2).below hb (hB2).lt) lb)⟩
  · exact .inl ⟨rfl, fun W hb => yields_call (vs := [.agg (vals (a)), .agg (vals (b))]) (v := .agg (vals (each max (a) (b)))) rfl rfl (enters_join _ _) (join_any _ _ la lb W)⟩
  · exact .inl ⟨rfl, fun W hb => yields_load rfl rfl (load_run ((hB2).below hb (hB2).lt) lb)⟩
  · exact .inl ⟨rfl, fun W hb => yields_bin rfl rfl rfl (run_eqGuard_agg W _ _ _ _ _ _ plain_vec) (run_eql_same W (hj.out) (each_length max _ _ la lb) lb)⟩
  · exact .inl ⟨rfl, fun W hb => yields_bin rfl rfl rfl (eqGuard_bool W) (neq_bool W)⟩
  · exact .inl ⟨rfl, fun W hb => yields_move rfl rfl⟩
  · exact .inl ⟨rfl, fun W hb => yields_move rfl rfl⟩
  · exact .inl ⟨rfl, fun W hb => yields_load rfl rfl (load_run ((hA2).below hb (hA2).lt) la)⟩
  · exact .inl ⟨rfl, fun W hb => yields_load rfl rfl (load_run ((hB2).below hb (hB2).lt) lb)⟩
  · exact .inl ⟨rfl, fun W hb => yields_call (vs := [.agg (vals (a)), .agg (vals (b))]) (v := .agg (vals (each min (a) (b)))) rfl rfl (enters_meet _ _) (meet_any _ _ la lb W)⟩
  · exact .inl ⟨rfl, fun W hb => yields_load rfl rfl (load_run ((hA2).below hb (hA2).lt) la)⟩
  · exact .inl ⟨rfl, fun W hb => yields_bin rfl rfl rfl (run_eqGuard_agg W _ _ _ _ _ _ plain_vec) (run_eql_same W (he.out) (each_length min _ _ la lb) la)⟩
  · exact .inl ⟨rfl, fun W hb => yields_bin rfl rfl rfl (eqGuard_bool W) (neq_bool W)⟩
  · exact .inl ⟨rfl, fun W hb => yields_pick (b := false) rfl rfl rfl⟩
  · exact .inl ⟨rfl, fun W hb => yields_move rfl rfl⟩
  · exact .inl ⟨rfl, fun W hb => yields_move rfl rfl⟩
  · exact .inl ⟨rfl, fun W hb => yields_load rfl rfl (load_run ((hB2).below hb (hB2).lt) lb)⟩
  · exact .inl ⟨rfl, fun W hb => yields_load rfl rfl (load_run ((hA2).below hb (hA2).lt) la)⟩
  · exact .inl ⟨rfl, fun W hb => yields_call (vs := [.agg (vals (b)), .agg (vals (a))]) (v := .int .i64 (lacks b a)) rfl rfl (enters_lacks _ _) (lacks_any _ _ lb la sb sa W)⟩
  · exact .inl ⟨rfl, fun W hb => yields_bin rfl rfl rfl (eqGuard_int W) (run_eql_int_same W (hl.out))⟩
  · exact .inl ⟨rfl, fun W hb => yields_bin rfl rfl rfl (eqGuard_bool W) (neq_bool W)⟩
  · exact .inl ⟨rfl, fun W hb => yields_pick (b := false) rfl rfl rfl⟩
  · exact .inl ⟨rfl, fun W hb => yields_move rfl rfl⟩
  · exact .inl ⟨rfl, fun W hb => yields_move rfl rfl⟩
  · exact .inl ⟨rfl, fun W hb => yields_load rfl rfl (load_run ((hA2).below hb (hA2).lt) la)⟩
  · exact .inl ⟨rfl, fun W hb => yields_load rfl rfl (load_run ((hB2).below hb (hB2).lt) lb)⟩
  · exact .inl ⟨rfl, fun W hb => yields_call (vs := [.agg (vals (a)), .agg (vals (b))]) (v := .int .i64 (lacks a b)) rfl rfl (enters_lacks _ _) (lacks_any _ _ la lb sa sb W)⟩
  · exact .inl ⟨rfl, fun W hb => yields_bin rfl rfl rfl (eqGuard_int W) (run_eql_int_not W (hk.out))⟩
  · exact .inl ⟨rfl, fun W hb => yields_bin rfl rfl rfl (eqGuard_bool W) (neq_bool W)⟩
  · exact .inl ⟨rfl, fun W hb => yields_pick (b := false) rfl rfl rfl⟩
  intro w3 hb3
  have hA3 := hA2.below hb3 hA2.lt
  have hB3 := hB2.below hb3 hB2.lt
  have hW3 : Hid (Below w.heap.size w w3) := hW2.out.trans (hb3.mono hW2.out.size)
  clear hA2 hB2 hb3 hW2
  go_wp2_with (first | refine load_vec_w rfl rfl rfl hA3 la ?_ | refine load_vec_w rfl rfl rfl hB3 lb ?_)
  go_ret
  exact ⟨rfl, hW3.out⟩
set_option maxHeartbeats 1000000 in
theorem orders_2 (a b : List Int) (la : a.length = 16) (lb : b.length = 16) (sa : Small a) (sb : Small b) (h1 : most a b = false) (h2 : most b a = true) (h : a ≠ b) (w : World) :
    Calls Try.prog 6 #[.agg (vals a), .agg (vals b)] w fun e w' => e = .returned (.bool true) ∧ Below w.heap.size w w' := by
  obtain ⟨hA, hB, hb0⟩ := boxed2 w a b
  have hn : Hid (way a b = 2) := by show _ = _; unfold way; rw [if_neg h, if_neg (by rw [h1]; decide), if_pos h2]
  have hm : Hid (way b a = 1) := by show _ = _; unfold way; rw [if_neg (Ne.symm h), if_pos h2]
  have hj : Hid (each max a b ≠ b) := by exact fun e => by have := (most_join a b la lb).1 e; rw [h1] at this; cases this
  have he : Hid (each min a b ≠ a) := by exact fun e => by have := (most_meet a b la lb).1 e; rw [h1] at this; cases this
  have hl : Hid (lacks b a ≠ 0) := by exact fun e => by have := (lacks_zero b a).1 e; rw [h1] at this; cases this
  have hk : Hid (lacks a b = 0) := by exact (lacks_zero a b).2 h2
  have pv := plain_vec
  have q0 := fun W => run_equalIn_vec W 9998 a b la lb
  rw [decide_eq_false h] at q0
  clear h1 h2 h
  go_enter Try.func6, Try.ntmps6
  go_wp2_with fail
  refine (awake_any _).mono ?_
  rintro e w1 ⟨rfl, hb1⟩
  have hA1 := hA.below hb1 hA.lt
  have hB1 := hB.below hb1 hB.lt
  have hW1 : Hid (Below w.heap.size w w1) := hb0.trans (hb1.mono hb0.size)
  clear hA hB hb0 hb1
  go_wp2_with fail
  refine region_vals [11, 12, 13, 14, 15, 16, 5, 6] [.agg (vals (a)), .agg (vals (b)), .int .i64 (2), .agg (vals (b)), .agg (vals (a)), .int .i64 (1), .int .i64 (2), .int .i64 (1)] _ (by kernel_rfl) (by kernel_rfl) (by rfl) (by decide) (by kernel_rfl) (by simp only [lay, Act.put, List.setIfInBounds_toArray, List.set_cons_zero, List.set_cons_succ, List.getD_cons_zero, List.getD_cons_succ, Nat.reduceAdd]; rfl) ⟨?_, ?_, ?_, ?_, ?_, ?_, ?_, ?_, trivial⟩ ?_
  · exact .inl ⟨rfl, fun W hb => yields_load rfl rfl (load_run ((hA1).below hb (hA1).lt) la)⟩
  · exact .inl ⟨rfl, fun W hb => yields_load rfl rfl (load_run ((hB1).below hb (hB1).lt) lb)⟩
  · exact .inl ⟨rfl, fun W hb => yields_call (vs := [.agg (vals (a)), .agg (vals (b))]) (v := .int .i64 (2)) rfl rfl (enters_compare _ _) (okint (compare_any _ _ la lb W) hn.out)⟩
  · exact .inl ⟨rfl, fun W hb => yields_load rfl rfl (load_run ((hB1).below hb (hB1).lt) lb)⟩
  · exact .inl ⟨rfl, fun W hb => yields_load rfl rfl (load_run ((hA1).below hb (hA1).lt) la)⟩
  · exact .inl ⟨rfl, fun W hb => yields_call (vs := [.agg (vals (b)), .agg (vals (a))]) (v := .int .i64 (1)) rfl rfl (enters_compare _ _) (okint (compare_any _ _ lb la W) hm.out)⟩
  · exact .inl ⟨rfl, fun W hb => yields_assign rfl rfl⟩
  · exact .inl ⟨rfl, fun W hb => yields_assign rfl rfl⟩
  intro w2 hb2
  have hA2 := hA1.below hb2 hA1.lt
  have hB2 := hB1.below hb2 hB1.lt
  have hW2 : Hid (Below w.heap.size w w2) := hW1.out.trans (hb2.mono hW1.out.size)
  clear hA1 hB1 hb2 hW1
  go_wp2_with fail
  refine region_vals [29, 30, 31, 32, 33, 34, 35, 36, 37, 38, 39, 40, 41, 42, 43, 44, 45, 46, 47, 48, 49, 50, 51, 52, 53, 54, 55, 56, 57, 58, 59, 60] [.bool false, .agg (vals (a)), .agg (vals (b)), .agg (vals (each max (a) (b))), .agg (vals (b)), .bool false, .bool false, .bool false, .bool false, .agg (vals (a)), .agg (vals (b)), .agg (vals (each min (a) (b))), .agg (vals (a)), .bool false, .bool false, .bool false, .bool false, .bool false, .agg (vals (b)), .agg (vals (a)), .int .i64 (lacks b a), .bool false, .bool false, .bool false, .bool false, .bool true, .agg (vals (a)), .agg (vals (b)), .int .i64 (lacks a b), .bool true, .bool false, .bool false] _ (by kernel_rfl) (by kernel_rfl) (by rfl) (by decide) (by kernel_rfl) (by simp only [lay, Act.put, List.setIfInBounds_toArray, List.set_cons_zero, List.set_cons_succ, List.getD_cons_zero, List.getD_cons_succ, Nat.reduceAdd]; rfl) ⟨?_, ?_, ?_, ?_, ?_, ?_, ?_, ?_, ?_, ?_, ?_, ?_, ?_, ?_, ?_, ?_, ?_, ?_, ?_, ?_, ?_, ?_, ?_, ?_, ?_, ?_, ?_, ?_, ?_, ?_, ?_, ?_, trivial⟩ ?_
  · exact .inl ⟨rfl, fun W hb => yields_move rfl rfl⟩
  · exact .inl ⟨rfl, fun W hb => yields_load rfl rfl (load_run ((hA2).below hb (hA2).lt) la)⟩
  · exact .inl ⟨rfl, fun W hb => yields_load rfl rfl (load_run ((hB2).below hb (hB2).lt) lb)⟩
  · exact .inl ⟨rfl, fun W hb => yields_call (vs := [.agg (vals (a)), .agg (vals (b))]) (v := .agg (vals (each max (a) (b)))) rfl rfl (enters_join _ _) (join_any _ _ la lb W)⟩
  · exact .inl ⟨rfl, fun W hb => yields_load rfl rfl (load_run ((hB2).below hb (hB2).lt) lb)⟩
  · exact .inl ⟨rfl, fun W hb => yields_bin rfl rfl rfl (run_eqGuard_agg W _ _ _ _ _ _ plain_vec) (run_eql_not W (hj.out) (each_length max _ _ la lb) lb)⟩
  · exact .inl ⟨rfl, fun W hb => yields_bin rfl rfl rfl (eqGuard_bool W) (neq_bool W)⟩
  · exact .inl ⟨rfl, fun W hb => yields_move rfl rfl⟩
  · exact .inl ⟨rfl, fun W hb => yields_move rfl rfl⟩
  · exact .inl ⟨rfl, fun W hb => yields_load rfl rfl (load_run ((hA2).below hb (hA2).lt) la)⟩
  · exact .inl ⟨rfl, fun W hb => yields_load rfl rfl (load_run ((hB2).below hb (hB2).lt) lb)⟩
  · exact .inl ⟨rfl, fun W hb => yields_call (vs := [.agg (vals (a)), .agg (vals (b))]) (v := .agg (vals (each min (a) (b)))) rfl rfl (enters_meet _ _) (meet_any _ _ la lb W)⟩
  · exact .inl ⟨rfl, fun W hb => yields_load rfl rfl (load_run ((hA2).below hb (hA2).lt) la)⟩
  · exact .inl ⟨rfl, fun W hb => yields_bin rfl rfl rfl (run_eqGuard_agg W _ _ _ _ _ _ plain_vec) (run_eql_not W (he.out) (each_length min _ _ la lb) la)⟩
  · exact .inl ⟨rfl, fun W hb => yields_bin rfl rfl rfl (eqGuard_bool W) (neq_bool W)⟩
  · exact .inl ⟨rfl, fun W hb => yields_pick (b := false) rfl rfl rfl⟩
  · exact .inl ⟨rfl, fun W hb => yields_move rfl rfl⟩
  · exact .inl ⟨rfl, fun W hb => yields_move rfl rfl⟩
  · exact .inl ⟨rfl, fun W hb => yields_load rfl rfl (load_run ((hB2).below hb (hB2).lt) lb)⟩
  · exact .inl ⟨rfl, fun W hb => yields_load rfl rfl (load_run ((hA2).below hb (hA2).lt) la)⟩
  · exact .inl ⟨rfl, fun W hb => yields_call (vs := [.agg (vals (b)), .agg (vals (a))]) (v := .int .i64 (lacks b a)) rfl rfl (enters_lacks _ _) (lacks_any _ _ lb la sb sa W)⟩
  · exact .inl ⟨rfl, fun W hb => yields_bin rfl rfl rfl (eqGuard_int W) (run_eql_int_not W (hl.out))⟩
  · exact .inl ⟨rfl, fun W hb => yields_bin rfl rfl rfl (eqGuard_bool W) (neq_bool W)⟩
  · exact .inl ⟨rfl, fun W hb => yields_pick (b := false) rfl rfl rfl⟩
  · exact .inl ⟨rfl, fun W hb => yields_move rfl rfl⟩
  · exact .inl ⟨rfl, fun W hb => yields_move rfl rfl⟩
  · exact .inl ⟨rfl, fun W hb => yields_load rfl rfl (load_run ((hA2).below hb (hA2).lt) la)⟩
  · exact .inl ⟨rfl, fun W hb => yields_load rfl rfl (load_run ((hB2).below hb (hB2).lt) lb)⟩
  · exact .inl ⟨rfl, fun W hb => yields_call (vs := [.agg (vals (a)), .agg (vals (b))]) (v := .int .i64 (lacks a b)) rfl rfl (enters_lacks _ _) (lacks_any _ _ la lb sa sb W)⟩
  · exact .inl ⟨rfl, fun W hb => yields_bin rfl rfl rfl (eqGuard_int W) (run_eql_int_same W (hk.out))⟩
  · exact .inl ⟨rfl, fun W hb => yields_bin rfl rfl rfl (eqGuard_bool W) (neq_bool W)⟩
  · exact .inl ⟨rfl, fun W hb => yields_pick (b := false) rfl rfl rfl⟩
  intro w3 hb3
  have hA3 := hA2.below hb3 hA2.lt
  have hB3 := hB2.below hb3 hB2.lt
  have hW3 : Hid (Below w.heap.size w w3) := hW2.out.trans (hb3.mono hW2.out.size)
  clear hA2 hB2 hb3 hW2
  go_wp2_with (first | refine load_vec_w rfl rfl rfl hA3 la ?_ | refine load_vec_w rfl rfl rfl hB3 lb ?_)
  go_ret
  exact ⟨rfl, hW3.out⟩
set_option maxHeartbeats 1000000 in
theorem orders_3 (a b : List Int) (la : a.length = 16) (lb : b.length = 16) (sa : Small a) (sb : Small b) (h1 : most a b = false) (h2 : most b a = false) (h : a ≠ b) (w : World) :
    Calls Try.prog 6 #[.agg (vals a), .agg (vals b)] w fun e w' => e = .returned (.bool true) ∧ Below w.heap.size w w' := by
  obtain ⟨hA, hB, hb0⟩ := boxed2 w a b
  have hn : Hid (way a b = 3) := by show _ = _; unfold way; rw [if_neg h, if_neg (by rw [h1]; decide), if_neg (by rw [h2]; decide)]
  have hm : Hid (way b a = 3) := by show _ = _; unfold way; rw [if_neg (Ne.symm h), if_neg (by rw [h2]; decide), if_neg (by rw [h1]; decide)]
  have hj : Hid (each max a b ≠ b) := by exact fun e => by have := (most_join a b la lb).1 e; rw [h1] at this; cases this
  have he : Hid (each min a b ≠ a) := by exact fun e => by have := (most_meet a b la lb).1 e; rw [h1] at this; cases this
  have hl : Hid (lacks b a ≠ 0) := by exact fun e => by have := (lacks_zero b a).1 e; rw [h1] at this; cases this
  have hk : Hid (lacks a b ≠ 0) := by exact fun e => by have := (lacks_zero a b).1 e; rw [h2] at this; cases this
  have pv := plain_vec
  have q0 := fun W => run_equalIn_vec W 9998 a b la lb
  rw [decide_eq_false h] at q0
  clear h1 h2 h
  go_enter Try.func6, Try.ntmps6
  go_wp2_with fail
  refine (awake_any _).mono ?_
  rintro e w1 ⟨rfl, hb1⟩
  have hA1 := hA.below hb1 hA.lt
  have hB1 := hB.below hb1 hB.lt
  have hW1 : Hid (Below w.heap.size w w1) := hb0.trans (hb1.mono hb0.size)
  clear hA hB hb0 hb1
  go_wp2_with fail
  refine region_vals [11, 12, 13, 14, 15, 16, 5, 6] [.agg (vals (a)), .agg (vals (b)), .int .i64 (3), .agg (vals (b)), .agg (vals (a)), .int .i64 (3), .int .i64 (3), .int .i64 (3)] _ (by kernel_rfl) (by kernel_rfl) (by rfl) (by decide) (by kernel_rfl) (by simp only [lay, Act.put, List.setIfInBounds_toArray, List.set_cons_zero, List.set_cons_succ, List.getD_cons_zero, List.getD_cons_succ, Nat.reduceAdd]; rfl) ⟨?_, ?_, ?_, ?_, ?_, ?_, ?_, ?_, trivial⟩ ?_
  · exact .inl ⟨rfl, fun W hb => yields_load rfl rfl (load_run ((hA1).below hb (hA1).lt) la)⟩
  · exact .inl ⟨rfl, fun W hb => yields_load rfl rfl (load_run ((hB1).below hb (hB1).lt) lb)⟩
  · exact .inl ⟨rfl, fun W hb => yields_call (vs := [.agg (vals (a)), .agg (vals (b))]) (v := .int .i64 (3)) rfl rfl (enters_compare _ _) (okint (compare_any _ _ la lb W) hn.out)⟩
  · exact .inl ⟨rfl, fun W hb => yields_load rfl rfl (load_run ((hB1).below hb (hB1).lt) lb)⟩
  · exact .inl ⟨rfl, fun W hb => yields_load rfl rfl (load_run ((hA1).below hb (hA1).lt) la)⟩
  · exact .inl ⟨rfl, fun W hb => yields_call (vs := [.agg (vals (b)), .agg (vals (a))]) (v := .int .i64 (3)) rfl rfl (enters_compare _ _) (okint (compare_any _ _ lb la W) hm.out)⟩
  · exact .inl ⟨rfl, fun W hb => yields_assign rfl rfl⟩
  · exact .inl ⟨rfl, fun W hb => yields_assign rfl rfl⟩
  intro w2 hb2
  have hA2 := hA1.below hb2 hA1.lt
  have hB2 := hB1.below hb2 hB1.lt
  have hW2 : Hid (Below w.heap.size w w2) := hW1.out.trans (hb2.mono hW1.out.size)
  clear hA1 hB1 hb2 hW1
  go_wp2_with fail
  refine region_vals [29, 30, 31, 32, 33, 34, 35, 36, 37, 38, 39, 40, 41, 42, 43, 44, 45, 46, 47, 48, 49, 50, 51, 52, 53, 54, 55, 56, 57, 58, 59, 60] [.bool false, .agg (vals (a)), .agg (vals (b)), .agg (vals (each max (a) (b))), .agg (vals (b)), .bool false, .bool false, .bool false, .bool false, .agg (vals (a)), .agg (vals (b)), .agg (vals (each min (a) (b))), .agg (vals (a)), .bool false, .bool false, .bool false, .bool false, .bool false, .agg (vals (b)), .agg (vals (a)), .int .i64 (lacks b a), .bool false, .bool false, .bool false, .bool false, .bool false, .agg (vals (a)), .agg (vals (b)), .int .i64 (lacks a b), .bool false, .bool false, .bool false] _ (by kernel_rfl) (by kernel_rfl) (by rfl) (by decide) (by kernel_rfl) (by simp only [lay, Act.put, List.setIfInBounds_toArray, List.set_cons_zero, List.set_cons_succ, List.getD_cons_zero, List.getD_cons_succ, Nat.reduceAdd]; rfl) ⟨?_, ?_, ?_, ?_, ?_, ?_, ?_, ?_, ?_, ?_, ?_, ?_, ?_, ?_, ?_, ?_, ?_, ?_, ?_, ?_, ?_, ?_, ?_, ?_, ?_, ?_, ?_, ?_, ?_, ?_, ?_, ?_, trivial⟩ ?_
  · exact .inl ⟨rfl, fun W hb => yields_move rfl rfl⟩
  · exact .inl ⟨rfl, fun W hb => yields_load rfl rfl (load_run ((hA2).below hb (hA2).lt) la)⟩
  · exact .inl ⟨rfl, fun W hb => yields_load rfl rfl (load_run ((hB2).below hb (hB2).lt) lb)⟩
  · exact .inl ⟨rfl, fun W hb => yields_call (vs := [.agg (vals (a)), .agg (vals (b))]) (v := .agg (vals (each max (a) (b)))) rfl rfl (enters_join _ _) (join_any _ _ la lb W)⟩
  · exact .inl ⟨rfl, fun W hb => yields_load rfl rfl (load_run ((hB2).below hb (hB2).lt) lb)⟩
  · exact .inl ⟨rfl, fun W hb => yields_bin rfl rfl rfl (run_eqGuard_agg W _ _ _ _ _ _ plain_vec) (run_eql_not W (hj.out) (each_length max _ _ la lb) lb)⟩
  · exact .inl ⟨rfl, fun W hb => yields_bin rfl rfl rfl (eqGuard_bool W) (neq_bool W)⟩
  · exact .inl ⟨rfl, fun W hb => yields_move rfl rfl⟩
  · exact .inl ⟨rfl, fun W hb => yields_move rfl rfl⟩
  · exact .inl ⟨rfl, fun W hb => yields_load rfl rfl (load_run ((hA2).below hb (hA2).lt) la)⟩
  · exact .inl ⟨rfl, fun W hb => yields_load rfl rfl (load_run ((hB2).below hb (hB2).lt) lb)⟩
  · exact .inl ⟨rfl, fun W hb => yields_call (vs := [.agg (vals (a)), .agg (vals (b))]) (v := .agg (vals (each min (a) (b)))) rfl rfl (enters_meet _ _) (meet_any _ _ la lb W)⟩
  · exact .inl ⟨rfl, fun W hb => yields_load rfl rfl (load_run ((hA2).below hb (hA2).lt) la)⟩
  · exact .inl ⟨rfl, fun W hb => yields_bin rfl rfl rfl (run_eqGuard_agg W _ _ _ _ _ _ plain_vec) (run_eql_not W (he.out) (each_length min _ _ la lb) la)⟩
  · exact .inl ⟨rfl, fun W hb => yields_bin rfl rfl rfl (eqGuard_bool W) (neq_bool W)⟩
  · exact .inl ⟨rfl, fun W hb => yields_pick (b := false) rfl rfl rfl⟩
  · exact .inl ⟨rfl, fun W hb => yields_move rfl rfl⟩
  · exact .inl ⟨rfl, fun W hb => yields_move rfl rfl⟩
  · exact .inl ⟨rfl, fun W hb => yields_load rfl rfl (load_run ((hB2).below hb (hB2).lt) lb)⟩
  · exact .inl ⟨rfl, fun W hb => yields_load rfl rfl (load_run ((hA2).below hb (hA2).lt) la)⟩
  · exact .inl ⟨rfl, fun W hb => yields_call (vs := [.agg (vals (b)), .agg (vals (a))]) (v := .int .i64 (lacks b a)) rfl rfl (enters_lacks _ _) (lacks_any _ _ lb la sb sa W)⟩
  · exact .inl ⟨rfl, fun W hb => yields_bin rfl rfl rfl (eqGuard_int W) (run_eql_int_not W (hl.out))⟩
  · exact .inl ⟨rfl, fun W hb => yields_bin rfl rfl rfl (eqGuard_bool W) (neq_bool W)⟩
  · exact .inl ⟨rfl, fun W hb => yields_pick (b := false) rfl rfl rfl⟩
  · exact .inl ⟨rfl, fun W hb => yields_move rfl rfl⟩
  · exact .inl ⟨rfl, fun W hb => yields_move rfl rfl⟩
  · exact .inl ⟨rfl, fun W hb => yields_load rfl rfl (load_run ((hA2).below hb (hA2).lt) la)⟩
  · exact .inl ⟨rfl, fun W hb => yields_load rfl rfl (load_run ((hB2).below hb (hB2).lt) lb)⟩
  · exact .inl ⟨rfl, fun W hb => yields_call (vs := [.agg (vals (a)), .agg (vals (b))]) (v := .int .i64 (lacks a b)) rfl rfl (enters_lacks _ _) (lacks_any _ _ la lb sa sb W)⟩
  · exact .inl ⟨rfl, fun W hb => yields_bin rfl rfl rfl (eqGuard_int W) (run_eql_int_not W (hk.out))⟩
  · exact .inl ⟨rfl, fun W hb => yields_bin rfl rfl rfl (eqGuard_bool W) (neq_bool W)⟩
  · exact .inl ⟨rfl, fun W hb => yields_pick (b := false) rfl rfl rfl⟩
  intro w3 hb3
  have hA3 := hA2.below hb3 hA2.lt
  have hB3 := hB2.below hb3 hB2.lt
  have hW3 : Hid (Below w.heap.size w w3) := hW2.out.trans (hb3.mono hW2.out.size)
  clear hA2 hB2 hb3 hW2
  go_wp2_with (first | refine load_vec_w rfl rfl rfl hA3 la ?_ | refine load_vec_w rfl rfl rfl hB3 lb ?_)
  go_ret
  exact ⟨rfl, hW3.out⟩
theorem orders_walk (a b : List Int) (la : a.length = 16) (lb : b.length = 16) (sa : Small a) (sb : Small b) (w : World) :
    Calls Try.prog 6 #[.agg (vals a), .agg (vals b)] w fun e w' => e = .returned (.bool true) ∧ Below w.heap.size w w' := by
  by_cases h : a = b
  · subst h
    exact orders_0 a a la lb sa sb (most_self a) (most_self a) rfl w
  · rcases Bool.eq_false_or_eq_true (most a b) with h1 | h1 <;> rcases Bool.eq_false_or_eq_true (most b a) with h2 | h2
    · exact absurd (most_both a b la lb h1 h2) h
    · exact orders_1 a b la lb sa sb h1 h2 h w
    · exact orders_2 a b la lb sa sb h1 h2 h w
    · exact orders_3 a b la lb sa sb h1 h2 h w
end Go.Proofs.Ytdphhkchodaeiaa
