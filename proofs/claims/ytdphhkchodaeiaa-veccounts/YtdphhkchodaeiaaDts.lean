/-
  VecDots: any vector can be, has any dot, has any replica's next one, and takes any one more, as the document says. For every input.
-/
import Derived.Test.YtdphhkchodaeiaaNxt
import Derived.Test.YtdphhkchodaeiaaWth
import Derived.Test.YtdphhkchodaeiaaAwk
namespace Go.Proofs.Ytdphhkchodaeiaa
open Go.RowKit

/-- A dot, a vector laid in a block of its own. -/
theorem laidD (w : World) (r n : Int) : LiesD ((w.alloc (.cells (dotc 0 0) 25)).setRow w.heap.size (dotc r n)) w.heap.size r n := (liesD_new w 0 0).row r n
theorem laidV (w : World) (l : List Int) : Lies ((w.alloc (.cells (vals zeros) 23)).setRow w.heap.size (vals l)) w.heap.size l := (lies_new w zeros).row l
theorem Lies.past {w : World} {g : Nat} {l : List Int} (h : Lies w g l) (o : Obj) (cs : Array Value) : Lies ((w.alloc o).setRow w.heap.size cs) g l := (h.alloc o).rowOther cs (Nat.ne_of_lt h.lt)
theorem LiesD.past {w : World} {g : Nat} {r n : Int} (h : LiesD w g r n) (o : Obj) (cs : Array Value) : LiesD ((w.alloc o).setRow w.heap.size cs) g r n := (h.alloc o).rowOther cs (Nat.ne_of_lt h.lt)
theorem Below.past {B : Nat} {a w : World} (h : Below B a w) (hB : B ≤ w.heap.size) (o : Obj) (cs : Array Value) : Below B a ((w.alloc o).setRow w.heap.size cs) := below_setRow (h.alloc hB o) hB cs

set_option maxHeartbeats 1000000 in
set_option maxRecDepth 10000 in
theorem dots_walk (v : List Int) (r n q : Int) (hv : v.length = 16) (w : World) :
    Calls Try.prog 3 #[.agg (vals v), .agg (dotc r n), .int .i64 q] w fun e w' => e = .returned (.bool true) ∧ Below w.heap.size w w' := by
  obtain ⟨hV, hD, hb0⟩ := boxedVD w v r n
  have lw := withV_length v r n hv
  go_enter Try.func3, Try.ntmps3
  go_wp2_with fail
  refine (awake_any _).mono ?_
  rintro e w1 ⟨rfl, hb1⟩
  have hV1 := hV.below hb1 hV.lt
  have hD1 := hD.below hb1 hD.lt
  have B1 : Hid (Below w.heap.size w w1) := hb0.trans (hb1.mono hb0.size)
  clear hV hD hb0 hb1
  go_wp2_with (refine load_vec rfl rfl rfl hV1 hv ?_)
  refine (next_any v q hv _).mono ?_
  rintro e w2 ⟨rfl, hb2⟩
  have hV2 := (hV1.below hb2 hV1.lt).past (.cells (dotc 0 0) 25) (dotc (nextR v q) (nextN v q))
  have hD2 := (hD1.below hb2 hD1.lt).past (.cells (dotc 0 0) 25) (dotc (nextR v q) (nextN v q))
  have hN2 := laidD w2 (nextR v q) (nextN v q)
  have B2 : Hid _ := Below.past (B1.out.trans (hb2.mono B1.out.size)) (Nat.le_trans B1.out.size hb2.size) (.cells (dotc 0 0) 25) (dotc (nextR v q) (nextN v q))
  clear hV1 hD1 hb2 B1
  go_wp2_with (first | refine store_dot rfl rfl rfl rfl (liesD_new _ 0 0) ?_ | refine load_vec rfl rfl rfl hV2 hv ?_)
  refine (rnext_any v q hv _).mono ?_
  rintro e w3 ⟨rfl, hb3⟩
  have hV3 := (hV2.below hb3 hV2.lt).past (.cells (dotc 0 0) 25) (dotc (nextR v q) (nextN v q))
  have hD3 := (hD2.below hb3 hD2.lt).past (.cells (dotc 0 0) 25) (dotc (nextR v q) (nextN v q))
  have hN3 := (hN2.below hb3 hN2.lt).past (.cells (dotc 0 0) 25) (dotc (nextR v q) (nextN v q))
  have hM3 := laidD w3 (nextR v q) (nextN v q)
  have B3 : Hid _ := Below.past (B2.out.trans (hb3.mono B2.out.size)) (Nat.le_trans B2.out.size hb3.size) (.cells (dotc 0 0) 25) (dotc (nextR v q) (nextN v q))
  clear hV2 hD2 hN2 hb3 B2
  go_wp2_with (first | refine store_dot rfl rfl rfl rfl (liesD_new _ 0 0) ?_ | refine load_vec rfl rfl rfl hV3 hv ?_ | refine load_dot rfl rfl rfl hD3 ?_)
  refine (with_any v r n hv _).mono ?_
  rintro e w4 ⟨rfl, hb4⟩
  have hV4 := (hV3.below hb4 hV3.lt).past (.cells (vals zeros) 23) (vals (withV v r n))
  have hD4 := (hD3.below hb4 hD3.lt).past (.cells (vals zeros) 23) (vals (withV v r n))
  have hN4 := (hN3.below hb4 hN3.lt).past (.cells (vals zeros) 23) (vals (withV v r n))
  have hM4 := (hM3.below hb4 hM3.lt).past (.cells (vals zeros) 23) (vals (withV v r n))
  have hX4 := laidV w4 (withV v r n)
  have B4 : Hid _ := Below.past (B3.out.trans (hb4.mono B3.out.size)) (Nat.le_trans B3.out.size hb4.size) (.cells (vals zeros) 23) (vals (withV v r n))
  clear hV3 hD3 hN3 hM3 hb4 B3
  go_wp2_with (first | refine store_vec rfl rfl rfl rfl (lies_new _ zeros) lw rfl ?_ | refine load_vec rfl rfl rfl hV4 hv ?_ | refine load_dot rfl rfl rfl hD4 ?_)
  refine (rwith_any v r n hv _).mono ?_
  rintro e w5 ⟨rfl, hb5⟩
  have hV5 := (hV4.below hb5 hV4.lt).past (.cells (vals zeros) 23) (vals (withV v r n))
  have hD5 := (hD4.below hb5 hD4.lt).past (.cells (vals zeros) 23) (vals (withV v r n))
  have hN5 := (hN4.below hb5 hN4.lt).past (.cells (vals zeros) 23) (vals (withV v r n))
  have hM5 := (hM4.below hb5 hM4.lt).past (.cells (vals zeros) 23) (vals (withV v r n))
  have hX5 := (hX4.below hb5 hX4.lt).past (.cells (vals zeros) 23) (vals (withV v r n))
  have hY5 := laidV w5 (withV v r n)
  have B5 : Hid _ := Below.past (B4.out.trans (hb5.mono B4.out.size)) (Nat.le_trans B4.out.size hb5.size) (.cells (vals zeros) 23) (vals (withV v r n))
  clear hV4 hD4 hN4 hM4 hX4 hb5 B4
  go_wp2_with (refine store_vec rfl rfl rfl rfl (lies_new _ zeros) lw rfl ?_)
  refine region_vals [41, 42, 43, 44, 45, 46, 47, 48, 49, 50, 51, 52, 53, 54, 55, 56, 57, 58, 59, 60, 61, 62, 63, 64, 65, 66, 67, 68, 69, 70, 71, 72, 73, 74, 6] [.agg (vals (v)), .bool (fine v), .agg (vals (v)), .bool (fine v), .bool true, .bool true, .agg (vals (v)), .agg (dotc (r) (n)), .bool (hasv v r n), .agg (vals (v)), .agg (dotc (r) (n)), .bool (hasv v r n), .bool true, .bool true, .bool true, .agg (dotc (nextR v q) (nextN v q)), .agg (dotc (nextR v q) (nextN v q)), .bool true, .bool true, .bool true, .int .i64 (nextE v q), .int .i64 (nextE v q), .bool true, .bool true, .bool true, .agg (vals (withV v r n)), .agg (vals (withV v r n)), .bool true, .bool true, .bool true, .int .i64 (withE v r n), .int .i64 (withE v r n), .bool true, .bool true, .bool true] _ (by kernel_rfl) (by kernel_rfl) (by rfl) (by decide) (by kernel_rfl) (by simp only [lay, Act.put, List.setIfInBounds_toArray, List.set_cons_zero, List.set_cons_succ, List.getD_cons_zero, List.getD_cons_succ, Nat.reduceAdd]; rfl) ⟨?_, ?_, ?_, ?_, ?_, ?_, ?_, ?_, ?_, ?_, ?_, ?_, ?_, ?_, ?_, ?_, ?_, ?_, ?_, ?_, ?_, ?_, ?_, ?_, ?_, ?_, ?_, ?_, ?_, ?_, ?_, ?_, ?_, ?_, ?_, trivial⟩ ?_
  · exact .inl ⟨rfl, fun W hb => yields_load rfl rfl (load_run ((hV5).below hb (hV5).lt) hv)⟩
  · exact .inl ⟨rfl, fun W hb => yields_call (vs := [.agg (vals (v))]) (v := .bool (fine v)) rfl rfl (enters_right _ _) (right_any v hv W)⟩
  · exact .inl ⟨rfl, fun W hb => yields_load rfl rfl (load_run ((hV5).below hb (hV5).lt) hv)⟩
  · exact .inl ⟨rfl, fun W hb => yields_call (vs := [.agg (vals (v))]) (v := .bool (fine v)) rfl rfl (enters_rright _ _) (rright_any v hv W)⟩
  · exact .inl ⟨rfl, fun W hb => yields_bin rfl rfl rfl (eqGuard_bool W) (eql_bool_same W)⟩
  · exact .inl ⟨rfl, fun W hb => yields_move rfl rfl⟩
  · exact .inl ⟨rfl, fun W hb => yields_load rfl rfl (load_run ((hV5).below hb (hV5).lt) hv)⟩
  · exact .inl ⟨rfl, fun W hb => yields_load rfl rfl (load_dot_run ((hD5).below hb (hD5).lt))⟩
  · exact .inl ⟨rfl, fun W hb => yields_call (vs := [.agg (vals (v)), .agg (dotc (r) (n))]) (v := .bool (hasv v r n)) rfl rfl (enters_has _ _) (has_any v r n hv W)⟩
  · exact .inl ⟨rfl, fun W hb => yields_load rfl rfl (load_run ((hV5).below hb (hV5).lt) hv)⟩
  · exact .inl ⟨rfl, fun W hb => yields_load rfl rfl (load_dot_run ((hD5).below hb (hD5).lt))⟩
  · exact .inl ⟨rfl, fun W hb => yields_call (vs := [.agg (vals (v)), .agg (dotc (r) (n))]) (v := .bool (hasv v r n)) rfl rfl (enters_rhas _ _) (rhas_any v r n hv W)⟩
  · exact .inl ⟨rfl, fun W hb => yields_bin rfl rfl rfl (eqGuard_bool W) (eql_bool_same W)⟩
  · exact .inl ⟨rfl, fun W hb => yields_pick (b := true) rfl rfl rfl⟩
  · exact .inl ⟨rfl, fun W hb => yields_move rfl rfl⟩
  · exact .inl ⟨rfl, fun W hb => yields_load rfl rfl (load_dot_run ((hN5).below hb (hN5).lt))⟩
  · exact .inl ⟨rfl, fun W hb => yields_load rfl rfl (load_dot_run ((hM5).below hb (hM5).lt))⟩
  · exact .inl ⟨rfl, fun W hb => yields_bin rfl rfl rfl (run_eqGuard_agg W _ _ _ _ _ _ plain_dot) (run_eql_dot_same W (⟨rfl, rfl⟩))⟩
  · exact .inl ⟨rfl, fun W hb => yields_pick (b := true) rfl rfl rfl⟩
  · exact .inl ⟨rfl, fun W hb => yields_move rfl rfl⟩
  · exact .inl ⟨rfl, fun W hb => yields_move rfl rfl⟩
  · exact .inl ⟨rfl, fun W hb => yields_move rfl rfl⟩
  · exact .inl ⟨rfl, fun W hb => yields_bin rfl rfl rfl (eqGuard_int W) (run_eql_int_same W (rfl))⟩
  · exact .inl ⟨rfl, fun W hb => yields_pick (b := true) rfl rfl rfl⟩
  · exact .inl ⟨rfl, fun W hb => yields_move rfl rfl⟩
  · exact .inl ⟨rfl, fun W hb => yields_load rfl rfl (load_run ((hX5).below hb (hX5).lt) lw)⟩
  · exact .inl ⟨rfl, fun W hb => yields_load rfl rfl (load_run ((hY5).below hb (hY5).lt) lw)⟩
  · exact .inl ⟨rfl, fun W hb => yields_bin rfl rfl rfl (run_eqGuard_agg W _ _ _ _ _ _ plain_vec) (run_eql_same W (rfl) lw lw)⟩
  · exact .inl ⟨rfl, fun W hb => yields_pick (b := true) rfl rfl rfl⟩
  · exact .inl ⟨rfl, fun W hb => yields_move rfl rfl⟩
  · exact .inl ⟨rfl, fun W hb => yields_move rfl rfl⟩
  · exact .inl ⟨rfl, fun W hb => yields_move rfl rfl⟩
  · exact .inl ⟨rfl, fun W hb => yields_bin rfl rfl rfl (eqGuard_int W) (run_eql_int_same W (rfl))⟩
  · exact .inl ⟨rfl, fun W hb => yields_pick (b := true) rfl rfl rfl⟩
  · exact .inl ⟨rfl, fun W hb => yields_assign rfl rfl⟩
  intro w6 hb6
  have B6 : Hid (Below w.heap.size w w6) := B5.out.trans (hb6.mono B5.out.size)
  clear hV5 hD5 hN5 hM5 hX5 hY5 hb6 B5
  go_wp2
  go_ret
  exact ⟨rfl, B6.out⟩
end Go.Proofs.Ytdphhkchodaeiaa
