/-
  VecPairs: any two vectors are joined, met, compared, and lack as many of one another's dots, as the document says. For every input.
-/
import Derived.Test.YtdphhkchodaeiaaRjo
import Derived.Test.YtdphhkchodaeiaaRcm
import Derived.Test.YtdphhkchodaeiaaRlk
import Derived.Test.YtdphhkchodaeiaaAwk
namespace Go.Proofs.Ytdphhkchodaeiaa
open Go.RowKit

set_option maxHeartbeats 1000000 in
theorem pairs_walk (a b : List Int) (la : a.length = 16) (lb : b.length = 16) (sa : Small a) (sb : Small b) (w : World) :
    Calls Try.prog 4 #[.agg (vals a), .agg (vals b)] w fun e w' => e = .returned (.bool true) ∧ Below w.heap.size w w' := by
  obtain ⟨hA, hB, hb0⟩ := boxed2 w a b
  go_enter Try.func4, Try.ntmps4
  go_wp2_with fail
  refine (awake_any _).mono ?_
  rintro e w1 ⟨rfl, hb1⟩
  have hA1 := hA.below hb1 hA.lt
  have hB1 := hB.below hb1 hB.lt
  have hW1 : Hid (Below w.heap.size w w1) := hb0.trans (hb1.mono hb0.size)
  clear hA hB hb0 hb1
  go_wp2_with fail
  refine region_vals [7, 8, 9, 10, 11, 12, 13, 14, 15, 16, 17, 18, 19, 20, 21, 22, 23, 24, 25, 26, 27, 28, 29, 30, 31, 32, 33, 34, 35, 36, 37, 38, 39, 40, 4] [.agg (vals (a)), .agg (vals (b)), .agg (vals (each max (a) (b))), .agg (vals (a)), .agg (vals (b)), .agg (vals (each max (a) (b))), .bool true, .bool true, .agg (vals (a)), .agg (vals (b)), .agg (vals (each min (a) (b))), .agg (vals (a)), .agg (vals (b)), .agg (vals (each min (a) (b))), .bool true, .bool true, .bool true, .agg (vals (a)), .agg (vals (b)), .int .i64 (way a b), .agg (vals (a)), .agg (vals (b)), .int .i64 (way a b), .bool true, .bool true, .bool true, .agg (vals (a)), .agg (vals (b)), .int .i64 (lacks a b), .agg (vals (a)), .agg (vals (b)), .int .i64 (lacks a b), .bool true, .bool true, .bool true] _ (by kernel_rfl) (by kernel_rfl) (by rfl) (by decide) (by kernel_rfl) (by simp only [lay, Act.put, List.setIfInBounds_toArray, List.set_cons_zero, List.set_cons_succ, List.getD_cons_zero, List.getD_cons_succ, Nat.reduceAdd]; rfl) ⟨?_, ?_, ?_, ?_, ?_, ?_, ?_, ?_, ?_, ?_, ?_, ?_, ?_, ?_, ?_, ?_, ?_, ?_, ?_, ?_, ?_, ?_, ?_, ?_, ?_, ?_, ?_, ?_, ?_, ?_, ?_, ?_, ?_, ?_, ?_, trivial⟩ ?_
  · exact .inl ⟨rfl, fun W hb => yields_load rfl rfl (load_run ((hA1).below hb (hA1).lt) la)⟩
  · exact .inl ⟨rfl, fun W hb => yields_load rfl rfl (load_run ((hB1).below hb (hB1).lt) lb)⟩
  · exact .inl ⟨rfl, fun W hb => yields_call (vs := [.agg (vals (a)), .agg (vals (b))]) (v := .agg (vals (each max (a) (b)))) rfl rfl (enters_join _ _) (join_any _ _ la lb W)⟩
  · exact .inl ⟨rfl, fun W hb => yields_load rfl rfl (load_run ((hA1).below hb (hA1).lt) la)⟩
  · exact .inl ⟨rfl, fun W hb => yields_load rfl rfl (load_run ((hB1).below hb (hB1).lt) lb)⟩
  · exact .inl ⟨rfl, fun W hb => yields_call (vs := [.agg (vals (a)), .agg (vals (b))]) (v := .agg (vals (each max (a) (b)))) rfl rfl (enters_rjoin _ _) (rjoin_any _ _ la lb W)⟩
  · exact .inl ⟨rfl, fun W hb => yields_bin rfl rfl rfl (run_eqGuard_agg W _ _ _ _ _ _ plain_vec) (run_eql_same W (rfl) (each_length max _ _ la lb) (each_length max _ _ la lb))⟩
  · exact .inl ⟨rfl, fun W hb => yields_move rfl rfl⟩
  · exact .inl ⟨rfl, fun W hb => yields_load rfl rfl (load_run ((hA1).below hb (hA1).lt) la)⟩
  · exact .inl ⟨rfl, fun W hb => yields_load rfl rfl (load_run ((hB1).below hb (hB1).lt) lb)⟩
  · exact .inl ⟨rfl, fun W hb => yields_call (vs := [.agg (vals (a)), .agg (vals (b))]) (v := .agg (vals (each min (a) (b)))) rfl rfl (enters_meet _ _) (meet_any _ _ la lb W)⟩
  · exact .inl ⟨rfl, fun W hb => yields_load rfl rfl (load_run ((hA1).below hb (hA1).lt) la)⟩
  · exact .inl ⟨rfl, fun W hb => yields_load rfl rfl (load_run ((hB1).below hb (hB1).lt) lb)⟩
  · exact .inl ⟨rfl, fun W hb => yields_call (vs := [.agg (vals (a)), .agg (vals (b))]) (v := .agg (vals (each min (a) (b)))) rfl rfl (enters_rmeet _ _) (rmeet_any _ _ la lb W)⟩
  · exact .inl ⟨rfl, fun W hb => yields_bin rfl rfl rfl (run_eqGuard_agg W _ _ _ _ _ _ plain_vec) (run_eql_same W (rfl) (each_length min _ _ la lb) (each_length min _ _ la lb))⟩
  · exact .inl ⟨rfl, fun W hb => yields_pick (b := true) rfl rfl rfl⟩
  · exact .inl ⟨rfl, fun W hb => yields_move rfl rfl⟩
  · exact .inl ⟨rfl, fun W hb => yields_load rfl rfl (load_run ((hA1).below hb (hA1).lt) la)⟩
  · exact .inl ⟨rfl, fun W hb => yields_load rfl rfl (load_run ((hB1).below hb (hB1).lt) lb)⟩
  · exact .inl ⟨rfl, fun W hb => yields_call (vs := [.agg (vals (a)), .agg (vals (b))]) (v := .int .i64 (way a b)) rfl rfl (enters_compare _ _) (compare_any _ _ la lb W)⟩
  · exact .inl ⟨rfl, fun W hb => yields_load rfl rfl (load_run ((hA1).below hb (hA1).lt) la)⟩
  · exact .inl ⟨rfl, fun W hb => yields_load rfl rfl (load_run ((hB1).below hb (hB1).lt) lb)⟩
  · exact .inl ⟨rfl, fun W hb => yields_call (vs := [.agg (vals (a)), .agg (vals (b))]) (v := .int .i64 (way a b)) rfl rfl (enters_rcompare _ _) (rcompare_any _ _ la lb W)⟩
  · exact .inl ⟨rfl, fun W hb => yields_bin rfl rfl rfl (eqGuard_int W) (run_eql_int_same W (rfl))⟩
  · exact .inl ⟨rfl, fun W hb => yields_pick (b := true) rfl rfl rfl⟩
  · exact .inl ⟨rfl, fun W hb => yields_move rfl rfl⟩
  · exact .inl ⟨rfl, fun W hb => yields_load rfl rfl (load_run ((hA1).below hb (hA1).lt) la)⟩
  · exact .inl ⟨rfl, fun W hb => yields_load rfl rfl (load_run ((hB1).below hb (hB1).lt) lb)⟩
  · exact .inl ⟨rfl, fun W hb => yields_call (vs := [.agg (vals (a)), .agg (vals (b))]) (v := .int .i64 (lacks a b)) rfl rfl (enters_lacks _ _) (lacks_any _ _ la lb sa sb W)⟩
  · exact .inl ⟨rfl, fun W hb => yields_load rfl rfl (load_run ((hA1).below hb (hA1).lt) la)⟩
  · exact .inl ⟨rfl, fun W hb => yields_load rfl rfl (load_run ((hB1).below hb (hB1).lt) lb)⟩
  · exact .inl ⟨rfl, fun W hb => yields_call (vs := [.agg (vals (a)), .agg (vals (b))]) (v := .int .i64 (lacks a b)) rfl rfl (enters_rlacks _ _) (rlacks_any _ _ la lb sa sb W)⟩
  · exact .inl ⟨rfl, fun W hb => yields_bin rfl rfl rfl (eqGuard_int W) (run_eql_int_same W (rfl))⟩
  · exact .inl ⟨rfl, fun W hb => yields_pick (b := true) rfl rfl rfl⟩
  · exact .inl ⟨rfl, fun W hb => yields_assign rfl rfl⟩
  intro w2 hb2
  have hW2 : Hid (Below w.heap.size w w2) := hW1.out.trans (hb2.mono hW1.out.size)
  clear hA1 hB1 hb2 hW1
  go_wp2
  go_ret
  exact ⟨rfl, hW2.out⟩
end Go.Proofs.Ytdphhkchodaeiaa
