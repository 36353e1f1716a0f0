/-
  EventRights: any event can be, or not, as the document says; any kind adds, or not; and any two stand to one another as it says.
-/
import Derived.Test.YtgolokcajkccfaaRri
import Derived.Test.YtgolokcajkccfaaAwe
import Derived.Test.YtgolokcajkccfaaOde
namespace Go.Proofs.Ytgolokcajkccfaa
open Go.RowKit
theorem enters_eright (xs : Array Value) (w : World) : (callFunc 10 xs).run Try.prog w = .ok (.enter 10 xs) w := enters Try.func10 (by kernel_rfl) (by kernel_rfl) xs w
theorem enters_reright (xs : Array Value) (w : World) : (callFunc 11 xs).run Try.prog w = .ok (.enter 11 xs) w := enters Try.func11 (by kernel_rfl) (by kernel_rfl) xs w
theorem enters_adds (xs : Array Value) (w : World) : (callFunc 12 xs).run Try.prog w = .ok (.enter 12 xs) w := enters Try.func12 (by kernel_rfl) (by kernel_rfl) xs w
theorem enters_radds (xs : Array Value) (w : World) : (callFunc 13 xs).run Try.prog w = .ok (.enter 13 xs) w := enters Try.func13 (by kernel_rfl) (by kernel_rfl) xs w
theorem enters_covers (xs : Array Value) (w : World) : (callFunc 14 xs).run Try.prog w = .ok (.enter 14 xs) w := enters Try.func14 (by kernel_rfl) (by kernel_rfl) xs w
theorem enters_rcovers (xs : Array Value) (w : World) : (callFunc 15 xs).run Try.prog w = .ok (.enter 15 xs) w := enters Try.func15 (by kernel_rfl) (by kernel_rfl) xs w
theorem enters_rlater (xs : Array Value) (w : World) : (callFunc 17 xs).run Try.prog w = .ok (.enter 17 xs) w := enters Try.func17 (by kernel_rfl) (by kernel_rfl) xs w
theorem neq_bool_same (w : World) {a : Bool} : (binOp .neq 4 (.bool a) (.bool a)).run Try.prog w = .ok (.bool false) w := by rw [neq_bool]; simp

set_option maxHeartbeats 1000000 in
theorem rights_walk (a b : Ev) (la : a.deps.length = 16) (lb : b.deps.length = 16) (ra : Room a) (k : Int) (w : World) :
    Calls Try.prog 3 #[.agg (evc a), .agg (evc b), .int .i64 k] w fun e w' => e = .returned (.bool true) ∧ Below w.heap.size w w' := by
  obtain ⟨hA, hB, hb0⟩ := boxedEE w a b
  have H0 : Hid (Below w.heap.size w ((w.alloc (.cells (evc a) 29)).alloc (.cells (evc b) 29))) := hb0
  clear hb0
  go_enter Try.func3, Try.ntmps3
  go_wp2_with fail
  refine (awake_any _).mono ?_
  rintro e w1 ⟨rfl, hb1⟩
  have hA1 := hA.below hb1 hA.lt
  have hB1 := hB.below hb1 hB.lt
  have H1 : Hid (Below w.heap.size w w1) := H0.out.trans (hb1.mono H0.out.size)
  clear hA hB hb1 H0
  go_wp2_with fail
  refine region_vals [9, 10, 11, 12, 13, 14, 15, 16, 17, 18, 19, 20] [.agg (evc (a)), .bool (okev a), .agg (evc (a)), .bool (okev a), .bool false, .bool false, .int .i64 (k), .bool (addsE k), .int .i64 (k), .bool (addsE k), .bool false, .bool false] _ (by kernel_rfl) (by kernel_rfl) (by rfl) (by decide) (by kernel_rfl) (by simp only [lay, Act.put, List.setIfInBounds_toArray, List.set_cons_zero, List.set_cons_succ, List.getD_cons_zero, List.getD_cons_succ, Nat.reduceAdd]; rfl) ⟨?_, ?_, ?_, ?_, ?_, ?_, ?_, ?_, ?_, ?_, ?_, ?_, trivial⟩ ?_
  · exact .inl ⟨rfl, fun W hb => yields_load rfl rfl (load_ev_run ((hA1).below hb (hA1).lt) la)⟩
  · exact .inl ⟨rfl, fun W hb => yields_call (vs := [.agg (evc (a))]) (v := .bool (okev a)) rfl rfl (enters_eright _ _) (eright_any a la ra W)⟩
  · exact .inl ⟨rfl, fun W hb => yields_load rfl rfl (load_ev_run ((hA1).below hb (hA1).lt) la)⟩
  · exact .inl ⟨rfl, fun W hb => yields_call (vs := [.agg (evc (a))]) (v := .bool (okev a)) rfl rfl (enters_reright _ _) (reright_any a la W)⟩
  · exact .inl ⟨rfl, fun W hb => yields_bin rfl rfl rfl (eqGuard_bool W) (neq_bool_same W)⟩
  · exact .inl ⟨rfl, fun W hb => yields_move rfl rfl⟩
  · exact .inl ⟨rfl, fun W hb => yields_move rfl rfl⟩
  · exact .inl ⟨rfl, fun W hb => yields_call (vs := [.int .i64 (k)]) (v := .bool (addsE k)) rfl rfl (enters_adds _ _) (calls_below (adds_any k W))⟩
  · exact .inl ⟨rfl, fun W hb => yields_move rfl rfl⟩
  · exact .inl ⟨rfl, fun W hb => yields_call (vs := [.int .i64 (k)]) (v := .bool (addsE k)) rfl rfl (enters_radds _ _) (calls_below (radds_any k W))⟩
  · exact .inl ⟨rfl, fun W hb => yields_bin rfl rfl rfl (eqGuard_bool W) (neq_bool_same W)⟩
  · exact .inl ⟨rfl, fun W hb => yields_pick (b := false) rfl rfl rfl⟩
  intro w2 hb2
  have hA2 := hA1.below hb2 hA1.lt
  have hB2 := hB1.below hb2 hB1.lt
  have H2 : Hid (Below w.heap.size w w2) := H1.out.trans (hb2.mono H1.out.size)
  clear hA1 hB1 hb2 H1
  go_wp2_with fail
  refine region_vals [21, 22, 23, 24, 25, 26, 27, 28, 29, 30, 31, 32, 33, 34, 35, 36, 6] [.agg (evc (b)), .agg (evc (a)), .bool (coversE b a), .agg (evc (b)), .agg (evc (a)), .bool (coversE b a), .bool true, .bool true, .agg (evc (b)), .agg (evc (a)), .bool (laterE b a), .agg (evc (b)), .agg (evc (a)), .bool (laterE b a), .bool true, .bool true, .bool true] _ (by kernel_rfl) (by kernel_rfl) (by rfl) (by decide) (by kernel_rfl) (by simp only [lay, Act.put, List.setIfInBounds_toArray, List.set_cons_zero, List.set_cons_succ, List.getD_cons_zero, List.getD_cons_succ, Nat.reduceAdd]; rfl) ⟨?_, ?_, ?_, ?_, ?_, ?_, ?_, ?_, ?_, ?_, ?_, ?_, ?_, ?_, ?_, ?_, ?_, trivial⟩ ?_
  · exact .inl ⟨rfl, fun W hb => yields_load rfl rfl (load_ev_run ((hB2).below hb (hB2).lt) lb)⟩
  · exact .inl ⟨rfl, fun W hb => yields_load rfl rfl (load_ev_run ((hA2).below hb (hA2).lt) la)⟩
  · exact .inl ⟨rfl, fun W hb => yields_call (vs := [.agg (evc (b)), .agg (evc (a))]) (v := .bool (coversE b a)) rfl rfl (enters_covers _ _) (covers_any b a lb W)⟩
  · exact .inl ⟨rfl, fun W hb => yields_load rfl rfl (load_ev_run ((hB2).below hb (hB2).lt) lb)⟩
  · exact .inl ⟨rfl, fun W hb => yields_load rfl rfl (load_ev_run ((hA2).below hb (hA2).lt) la)⟩
  · exact .inl ⟨rfl, fun W hb => yields_call (vs := [.agg (evc (b)), .agg (evc (a))]) (v := .bool (coversE b a)) rfl rfl (enters_rcovers _ _) (rcovers_any b a lb W)⟩
  · exact .inl ⟨rfl, fun W hb => yields_bin rfl rfl rfl (eqGuard_bool W) (eql_bool_same W)⟩
  · exact .inl ⟨rfl, fun W hb => yields_move rfl rfl⟩
  · exact .inl ⟨rfl, fun W hb => yields_load rfl rfl (load_ev_run ((hB2).below hb (hB2).lt) lb)⟩
  · exact .inl ⟨rfl, fun W hb => yields_load rfl rfl (load_ev_run ((hA2).below hb (hA2).lt) la)⟩
  · exact .inl ⟨rfl, fun W hb => yields_call (vs := [.agg (evc (b)), .agg (evc (a))]) (v := .bool (laterE b a)) rfl rfl (enters_later _ _) (later_any b a W)⟩
  · exact .inl ⟨rfl, fun W hb => yields_load rfl rfl (load_ev_run ((hB2).below hb (hB2).lt) lb)⟩
  · exact .inl ⟨rfl, fun W hb => yields_load rfl rfl (load_ev_run ((hA2).below hb (hA2).lt) la)⟩
  · exact .inl ⟨rfl, fun W hb => yields_call (vs := [.agg (evc (b)), .agg (evc (a))]) (v := .bool (laterE b a)) rfl rfl (enters_rlater _ _) (rlater_any b a W)⟩
  · exact .inl ⟨rfl, fun W hb => yields_bin rfl rfl rfl (eqGuard_bool W) (eql_bool_same W)⟩
  · exact .inl ⟨rfl, fun W hb => yields_pick (b := true) rfl rfl rfl⟩
  · exact .inl ⟨rfl, fun W hb => yields_assign rfl rfl⟩
  intro w3 hb3
  have H3 : Hid (Below w.heap.size w w3) := H2.out.trans (hb3.mono H2.out.size)
  clear hA2 hB2 hb3 H2
  go_wp2
  go_ret
  exact ⟨rfl, H3.out⟩
end Go.Proofs.Ytgolokcajkccfaa
