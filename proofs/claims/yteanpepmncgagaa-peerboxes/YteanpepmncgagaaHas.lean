/-
  What vec.Has and the reference's Has come to: whether the dot can be, and its number is at most that of its replica.
-/
import Derived.Test.YteanpepmncgagaaDot
namespace Go.Proofs.Yteanpepmncgagaa
set_option maxRecDepth 100000
open Go.RowKit

/-- Has the vector the dot? -/
def hasv (v : List Int) (r n : Int) : Bool := okdot r n && decide (n ≤ v.getD r.toNat 0)

theorem okcall {f : FuncId} {as' : Array Value} {W : World} {b c : Bool} (h : Calls Try.prog f as' W fun e w' => e = .returned (.bool b) ∧ Below W.heap.size W w') (hb : b = c) :
    Calls Try.prog f as' W fun e w' => e = .returned (.bool c) ∧ Below W.heap.size W w' := by rw [← hb]; exact h

theorem boxedVD (w : World) (v : List Int) (r n : Int) :
    Lies ((w.alloc (.cells (vals v) 35)).alloc (.cells (dotc r n) 33)) w.heap.size v ∧
    LiesD ((w.alloc (.cells (vals v) 35)).alloc (.cells (dotc r n) 33)) (w.heap.size + 1) r n ∧
    Below w.heap.size w ((w.alloc (.cells (vals v) 35)).alloc (.cells (dotc r n) 33)) := by
  refine ⟨(lies_new w v).alloc _, ?_, ((Below.refl _ _).alloc (Nat.le_refl _) _).alloc (by simp) _⟩
  have := liesD_new (w.alloc (.cells (vals v) 35)) r n
  simpa using this

set_option maxHeartbeats 400000 in
theorem has_any (v : List Int) (r n : Int) (hv : v.length = 16) (w : World) : Calls Try.prog 32 #[.agg (vals v), .agg (dotc r n)] w fun e w' => e = .returned (.bool (hasv v r n)) ∧ Below w.heap.size w w' := by
  obtain ⟨hV, hD, hB⟩ := boxedVD w v r n
  have HB : Hid (Below w.heap.size w ((w.alloc (.cells (vals v) 35)).alloc (.cells (dotc r n) 33))) := hB
  clear hB
  rcases Bool.eq_false_or_eq_true (okdot r n) with hk | hk
  · obtain ⟨h0, h1, -, -⟩ := of_decide_eq_true hk
    obtain ⟨k, rfl⟩ : ∃ k : Nat, r = (k : Int) := ⟨r.toNat, by omega⟩
    have hk16 : k < 16 := by omega
    have c0 := hD.cell0
    have c1 := hD.cell1
    have cv := hV.cell (k := k) (by omega)
    have HR : Hid (hasv v (k : Int) n = decide (n ≤ v.getD k 0)) := by show _ = _; rw [hasv, hk, Int.toNat_natCast, Bool.true_and]
    clear h0 h1
    go_enter Try.func32, Try.ntmps32
    go_wp2_with fail
    refine region_vals [5, 6, 7, 8, 9, 10, 11, 12, 13, 14, 15, 4] [.agg (dotc ((k : Int)) (n)), .bool true, .bool true, .pointer (some ⟨(w.heap.size + 1), 1, none⟩), .int .i64 (n), .pointer (some ⟨(w.heap.size + 1), 0, none⟩), .int .i64 ((k : Int)), .pointer (some ⟨w.heap.size, k, none⟩), .int .i64 ((v.getD k 0)), .bool (decide (n ≤ (v.getD k 0))), .bool (decide (n ≤ (v.getD k 0))), .bool (decide (n ≤ (v.getD k 0)))] _ (by kernel_rfl) (by kernel_rfl) (by rfl) (by decide) (by kernel_rfl) (by simp only [lay, Act.put, List.setIfInBounds_toArray, List.set_cons_zero, List.set_cons_succ, List.getD_cons_zero, List.getD_cons_succ, Nat.reduceAdd]; rfl) ⟨?_, ?_, ?_, ?_, ?_, ?_, ?_, ?_, ?_, ?_, ?_, ?_, trivial⟩ ?_
    · exact .inl ⟨rfl, fun W hb => yields_load rfl rfl (load_dot_run ((hD).below hb (hD).lt))⟩
    · exact .inl ⟨rfl, fun W hb => yields_call (vs := [.agg (dotc ((k : Int)) (n))]) (v := .bool true) rfl rfl (enters_rightdot _ _) (okcall (rightdot_any _ _ W) hk)⟩
    · exact .inl ⟨rfl, fun W hb => yields_move rfl rfl⟩
    · exact .inl ⟨rfl, fun W hb => yields_field rfl rfl (field1_run W _)⟩
    · exact .inl ⟨rfl, fun W hb => yields_load rfl rfl (load_int_run ((hb.cell (block_lt_of_cell c1)).trans c1))⟩
    · exact .inl ⟨rfl, fun W hb => yields_field rfl rfl (field0_run W _)⟩
    · exact .inl ⟨rfl, fun W hb => yields_load rfl rfl (load_int_run ((hb.cell (block_lt_of_cell c0)).trans c0))⟩
    · exact .inl ⟨rfl, fun W hb => yields_indexAddr rfl rfl rfl (run_indexAt_vec W _ k hk16)⟩
    · exact .inl ⟨rfl, fun W hb => yields_load rfl rfl (load_int_run ((hb.cell (block_lt_of_cell cv)).trans cv))⟩
    · exact .inl ⟨rfl, fun W hb => yields_bin rfl rfl rfl (eqGuard_int W) (leq_run W _ _)⟩
    · exact .inl ⟨rfl, fun W hb => yields_pick (b := true) rfl rfl rfl⟩
    · exact .inl ⟨rfl, fun W hb => yields_assign rfl rfl⟩
    intro w2 hb2
    clear c0 c1 cv hD hV
    go_wp2
    go_ret
    exact ⟨by rw [HR.out]; rfl, HB.out.trans (hb2.mono HB.out.size)⟩
  · have HR : Hid (hasv v r n = false) := by show _ = _; rw [hasv, hk, Bool.false_and]
    go_enter Try.func32, Try.ntmps32
    go_wp2_with fail
    refine region_vals [5, 6, 7, 8, 9, 10, 11, 12, 13, 14, 15, 4] [.agg (dotc (r) (n)), .bool false, .bool false, undef, undef, undef, undef, undef, undef, undef, .bool false, .bool false] _ (by kernel_rfl) (by kernel_rfl) (by rfl) (by decide) (by kernel_rfl) (by simp only [lay, Act.put, List.setIfInBounds_toArray, List.set_cons_zero, List.set_cons_succ, List.getD_cons_zero, List.getD_cons_succ, Nat.reduceAdd]; rfl) ⟨?_, ?_, ?_, ?_, ?_, ?_, ?_, ?_, ?_, ?_, ?_, ?_, trivial⟩ ?_
    · exact .inl ⟨rfl, fun W hb => yields_load rfl rfl (load_dot_run ((hD).below hb (hD).lt))⟩
    · exact .inl ⟨rfl, fun W hb => yields_call (vs := [.agg (dotc (r) (n))]) (v := .bool false) rfl rfl (enters_rightdot _ _) (okcall (rightdot_any _ _ W) hk)⟩
    · exact .inl ⟨rfl, fun W hb => yields_move rfl rfl⟩
    · exact .inr ⟨rfl, rfl⟩
    · exact .inr ⟨rfl, rfl⟩
    · exact .inr ⟨rfl, rfl⟩
    · exact .inr ⟨rfl, rfl⟩
    · exact .inr ⟨rfl, rfl⟩
    · exact .inr ⟨rfl, rfl⟩
    · exact .inr ⟨rfl, rfl⟩
    · exact .inl ⟨rfl, fun W hb => yields_pick (b := false) rfl rfl rfl⟩
    · exact .inl ⟨rfl, fun W hb => yields_assign rfl rfl⟩
    intro w2 hb2
    clear hD hV
    go_wp2
    go_ret
    exact ⟨by rw [HR.out]; rfl, HB.out.trans (hb2.mono HB.out.size)⟩

set_option maxHeartbeats 400000 in
theorem rhas_any (v : List Int) (r n : Int) (hv : v.length = 16) (w : World) : Calls Try.prog 22 #[.agg (vals v), .agg (dotc r n)] w fun e w' => e = .returned (.bool (hasv v r n)) ∧ Below w.heap.size w w' := by
  obtain ⟨hV, hD, hB⟩ := boxedVD w v r n
  have HB : Hid (Below w.heap.size w ((w.alloc (.cells (vals v) 35)).alloc (.cells (dotc r n) 33))) := hB
  clear hB
  rcases Bool.eq_false_or_eq_true (okdot r n) with hk | hk
  · obtain ⟨h0, h1, -, -⟩ := of_decide_eq_true hk
    obtain ⟨k, rfl⟩ : ∃ k : Nat, r = (k : Int) := ⟨r.toNat, by omega⟩
    have hk16 : k < 16 := by omega
    have c0 := hD.cell0
    have c1 := hD.cell1
    have cv := hV.cell (k := k) (by omega)
    have HR : Hid (hasv v (k : Int) n = decide (n ≤ v.getD k 0)) := by show _ = _; rw [hasv, hk, Int.toNat_natCast, Bool.true_and]
    clear h0 h1
    go_enter Try.func22, Try.ntmps22
    go_wp2_with fail
    refine region_vals [5, 6, 7, 8, 9, 10, 11, 12, 13, 14, 15, 4] [.agg (dotc ((k : Int)) (n)), .bool true, .bool true, .pointer (some ⟨(w.heap.size + 1), 1, none⟩), .int .i64 (n), .pointer (some ⟨(w.heap.size + 1), 0, none⟩), .int .i64 ((k : Int)), .pointer (some ⟨w.heap.size, k, none⟩), .int .i64 ((v.getD k 0)), .bool (decide (n ≤ (v.getD k 0))), .bool (decide (n ≤ (v.getD k 0))), .bool (decide (n ≤ (v.getD k 0)))] _ (by kernel_rfl) (by kernel_rfl) (by rfl) (by decide) (by kernel_rfl) (by simp only [lay, Act.put, List.setIfInBounds_toArray, List.set_cons_zero, List.set_cons_succ, List.getD_cons_zero, List.getD_cons_succ, Nat.reduceAdd]; rfl) ⟨?_, ?_, ?_, ?_, ?_, ?_, ?_, ?_, ?_, ?_, ?_, ?_, trivial⟩ ?_
    · exact .inl ⟨rfl, fun W hb => yields_load rfl rfl (load_dot_run ((hD).below hb (hD).lt))⟩
    · exact .inl ⟨rfl, fun W hb => yields_call (vs := [.agg (dotc ((k : Int)) (n))]) (v := .bool true) rfl rfl (enters_rdot _ _) (okcall (rdot_any _ _ W) hk)⟩
    · exact .inl ⟨rfl, fun W hb => yields_move rfl rfl⟩
    · exact .inl ⟨rfl, fun W hb => yields_field rfl rfl (field1_run W _)⟩
    · exact .inl ⟨rfl, fun W hb => yields_load rfl rfl (load_int_run ((hb.cell (block_lt_of_cell c1)).trans c1))⟩
    · exact .inl ⟨rfl, fun W hb => yields_field rfl rfl (field0_run W _)⟩
    · exact .inl ⟨rfl, fun W hb => yields_load rfl rfl (load_int_run ((hb.cell (block_lt_of_cell c0)).trans c0))⟩
    · exact .inl ⟨rfl, fun W hb => yields_indexAddr rfl rfl rfl (run_indexAt_vec W _ k hk16)⟩
    · exact .inl ⟨rfl, fun W hb => yields_load rfl rfl (load_int_run ((hb.cell (block_lt_of_cell cv)).trans cv))⟩
    · exact .inl ⟨rfl, fun W hb => yields_bin rfl rfl rfl (eqGuard_int W) (leq_run W _ _)⟩
    · exact .inl ⟨rfl, fun W hb => yields_pick (b := true) rfl rfl rfl⟩
    · exact .inl ⟨rfl, fun W hb => yields_assign rfl rfl⟩
    intro w2 hb2
    clear c0 c1 cv hD hV
    go_wp2
    go_ret
    exact ⟨by rw [HR.out]; rfl, HB.out.trans (hb2.mono HB.out.size)⟩
  · have HR : Hid (hasv v r n = false) := by show _ = _; rw [hasv, hk, Bool.false_and]
    go_enter Try.func22, Try.ntmps22
    go_wp2_with fail
    refine region_vals [5, 6, 7, 8, 9, 10, 11, 12, 13, 14, 15, 4] [.agg (dotc (r) (n)), .bool false, .bool false, undef, undef, undef, undef, undef, undef, undef, .bool false, .bool false] _ (by kernel_rfl) (by kernel_rfl) (by rfl) (by decide) (by kernel_rfl) (by simp only [lay, Act.put, List.setIfInBounds_toArray, List.set_cons_zero, List.set_cons_succ, List.getD_cons_zero, List.getD_cons_succ, Nat.reduceAdd]; rfl) ⟨?_, ?_, ?_, ?_, ?_, ?_, ?_, ?_, ?_, ?_, ?_, ?_, trivial⟩ ?_
    · exact .inl ⟨rfl, fun W hb => yields_load rfl rfl (load_dot_run ((hD).below hb (hD).lt))⟩
    · exact .inl ⟨rfl, fun W hb => yields_call (vs := [.agg (dotc (r) (n))]) (v := .bool false) rfl rfl (enters_rdot _ _) (okcall (rdot_any _ _ W) hk)⟩
    · exact .inl ⟨rfl, fun W hb => yields_move rfl rfl⟩
    · exact .inr ⟨rfl, rfl⟩
    · exact .inr ⟨rfl, rfl⟩
    · exact .inr ⟨rfl, rfl⟩
    · exact .inr ⟨rfl, rfl⟩
    · exact .inr ⟨rfl, rfl⟩
    · exact .inr ⟨rfl, rfl⟩
    · exact .inr ⟨rfl, rfl⟩
    · exact .inl ⟨rfl, fun W hb => yields_pick (b := false) rfl rfl rfl⟩
    · exact .inl ⟨rfl, fun W hb => yields_assign rfl rfl⟩
    intro w2 hb2
    clear hD hV
    go_wp2
    go_ret
    exact ⟨by rw [HR.out]; rfl, HB.out.trans (hb2.mono HB.out.size)⟩
end Go.Proofs.Yteanpepmncgagaa
