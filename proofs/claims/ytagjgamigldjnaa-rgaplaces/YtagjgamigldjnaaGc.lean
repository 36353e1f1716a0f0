/-
  What vec.isReplica, vec.rightDot and the reference's Dot come to: whether a number is a replica's, whether a dot can be.
-/
import Derived.Test.YtagjgamigldjnaaRvl
namespace Go.Proofs.Ytagjgamigldjnaa
open Go.RowKit

def isrep (r : Int) : Bool := decide (0 ≤ r ∧ r < 16)
/-- Can a dot be? -/
def okdot (r n : Int) : Bool := decide (0 ≤ r ∧ r < 16 ∧ 1 ≤ n ∧ n ≤ 1048576)

set_option maxHeartbeats 400000 in
theorem isreplica_any (r : Int) (w : World) : Calls Try.prog 67 #[.int .i64 r] w fun e w' => e = .returned (.bool (isrep r)) ∧ w' = w := by
  by_cases h0 : 0 ≤ r
  · by_cases h1 : r < 16
    · go_enter Try.func67, Try.ntmps67
      go_wp2
      go_ret
      exact ⟨by rw [isrep, decide_eq_true ⟨h0, h1⟩]; rfl, rfl⟩
    · go_enter Try.func67, Try.ntmps67
      go_wp2
      go_ret
      exact ⟨by rw [isrep, decide_eq_false (by omega)]; rfl, rfl⟩
  · go_enter Try.func67, Try.ntmps67
    go_wp2
    go_ret
    exact ⟨by rw [isrep, decide_eq_false (by omega)]; rfl, rfl⟩

set_option maxHeartbeats 400000 in
theorem rightdot_any (r n : Int) (w : World) : Calls Try.prog 65 #[.agg (dotc r n)] w fun e w' => e = .returned (.bool (okdot r n)) ∧ Below w.heap.size w w' := by
  have hD := liesD_new w r n
  have c0 := hD.cell0
  have c1 := hD.cell1
  have hB : Hid (Below w.heap.size w (w.alloc (.cells (dotc r n) 26))) := (Below.refl _ _).alloc (Nat.le_refl _) _
  clear hD
  by_cases h0 : 0 ≤ r ∧ r < 16
  · have hr : isrep r = true := decide_eq_true h0
    by_cases h1 : 1 ≤ n
    · by_cases h2 : n ≤ 1048576
      · have Hk : Hid (okdot r n = true) := decide_eq_true ⟨h0.1, h0.2, h1, h2⟩
        go_enter Try.func65, Try.ntmps65
        go_wp2_with fail
        refine (isreplica_any r _).mono ?_
        rintro e w1 ⟨rfl, hw⟩
        obtain rfl := hw.symm
        rw [hr]
        go_wp2
        go_ret
        exact ⟨by rw [Hk.out]; first | rfl | (show Ending.returned (.bool (decide _)) = _; rw [decide_eq_false (by omega)]), hB.out⟩
      · have Hk : Hid (okdot r n = false) := decide_eq_false (fun h => h2 h.2.2.2)
        go_enter Try.func65, Try.ntmps65
        go_wp2_with fail
        refine (isreplica_any r _).mono ?_
        rintro e w1 ⟨rfl, hw⟩
        obtain rfl := hw.symm
        rw [hr]
        go_wp2
        go_ret
        exact ⟨by rw [Hk.out]; first | rfl | (show Ending.returned (.bool (decide _)) = _; rw [decide_eq_false (by omega)]), hB.out⟩
    · have Hk : Hid (okdot r n = false) := decide_eq_false (fun h => h1 h.2.2.1)
      go_enter Try.func65, Try.ntmps65
      go_wp2_with fail
      refine (isreplica_any r _).mono ?_
      rintro e w1 ⟨rfl, hw⟩
      obtain rfl := hw.symm
      rw [hr]
      go_wp2
      go_ret
      exact ⟨by rw [Hk.out]; first | rfl | (show Ending.returned (.bool (decide _)) = _; rw [decide_eq_false (by omega)]), hB.out⟩
  · have hr : isrep r = false := decide_eq_false h0
    have Hk : Hid (okdot r n = false) := decide_eq_false (fun h => h0 ⟨h.1, h.2.1⟩)
    go_enter Try.func65, Try.ntmps65
    go_wp2_with fail
    refine (isreplica_any r _).mono ?_
    rintro e w1 ⟨rfl, hw⟩
    obtain rfl := hw.symm
    rw [hr]
    go_wp2
    go_ret
    exact ⟨by rw [Hk.out]; first | rfl | (show Ending.returned (.bool (decide _)) = _; rw [decide_eq_false (by omega)]), hB.out⟩

set_option maxHeartbeats 400000 in
theorem rdot_any (r n : Int) (w : World) : Calls Try.prog 55 #[.agg (dotc r n)] w fun e w' => e = .returned (.bool (okdot r n)) ∧ Below w.heap.size w w' := by
  have hD := liesD_new w r n
  have c0 := hD.cell0
  have c1 := hD.cell1
  have hB : Hid (Below w.heap.size w (w.alloc (.cells (dotc r n) 26))) := (Below.refl _ _).alloc (Nat.le_refl _) _
  clear hD
  by_cases h0 : 0 ≤ r
  · by_cases h3 : r < 16
    · by_cases h1 : 1 ≤ n
      · by_cases h2 : n ≤ 1048576
        · have Hk : Hid (okdot r n = true) := decide_eq_true ⟨h0, h3, h1, h2⟩
          go_enter Try.func55, Try.ntmps55
          go_wp2
          go_ret
          exact ⟨by rw [Hk.out]; first | rfl | (show Ending.returned (.bool (decide _)) = _; rw [decide_eq_false (by omega)]), hB.out⟩
        · have Hk : Hid (okdot r n = false) := decide_eq_false (fun h => h2 h.2.2.2)
          go_enter Try.func55, Try.ntmps55
          go_wp2
          go_ret
          exact ⟨by rw [Hk.out]; first | rfl | (show Ending.returned (.bool (decide _)) = _; rw [decide_eq_false (by omega)]), hB.out⟩
      · have Hk : Hid (okdot r n = false) := decide_eq_false (fun h => h1 h.2.2.1)
        go_enter Try.func55, Try.ntmps55
        go_wp2
        go_ret
        exact ⟨by rw [Hk.out]; first | rfl | (show Ending.returned (.bool (decide _)) = _; rw [decide_eq_false (by omega)]), hB.out⟩
    · have Hk : Hid (okdot r n = false) := decide_eq_false (fun h => h3 h.2.1)
      go_enter Try.func55, Try.ntmps55
      go_wp2
      go_ret
      exact ⟨by rw [Hk.out]; first | rfl | (show Ending.returned (.bool (decide _)) = _; rw [decide_eq_false (by omega)]), hB.out⟩
  · have Hk : Hid (okdot r n = false) := decide_eq_false (fun h => h0 h.1)
    go_enter Try.func55, Try.ntmps55
    go_wp2
    go_ret
    exact ⟨by rw [Hk.out]; first | rfl | (show Ending.returned (.bool (decide _)) = _; rw [decide_eq_false (by omega)]), hB.out⟩
end Go.Proofs.Ytagjgamigldjnaa

namespace Go.Proofs.Ytagjgamigldjnaa
open Go.RowKit

/-- Has the vector the dot? -/
def hasv (v : List Int) (r n : Int) : Bool := okdot r n && decide (n ≤ v.getD r.toNat 0)

theorem okcall {f : FuncId} {as' : Array Value} {W : World} {b c : Bool} (h : Calls Try.prog f as' W fun e w' => e = .returned (.bool b) ∧ Below W.heap.size W w') (hb : b = c) :
    Calls Try.prog f as' W fun e w' => e = .returned (.bool c) ∧ Below W.heap.size W w' := by rw [← hb]; exact h

theorem boxedVD (w : World) (v : List Int) (r n : Int) :
    Lies ((w.alloc (.cells (vals v) 37)).alloc (.cells (dotc r n) 26)) w.heap.size v ∧
    LiesD ((w.alloc (.cells (vals v) 37)).alloc (.cells (dotc r n) 26)) (w.heap.size + 1) r n ∧
    Below w.heap.size w ((w.alloc (.cells (vals v) 37)).alloc (.cells (dotc r n) 26)) := by
  refine ⟨(lies_new w v).alloc _, ?_, ((Below.refl _ _).alloc (Nat.le_refl _) _).alloc (by simp) _⟩
  have := liesD_new (w.alloc (.cells (vals v) 37)) r n
  simpa using this

set_option maxHeartbeats 400000 in
theorem has_any (v : List Int) (r n : Int) (hv : v.length = 16) (w : World) : Calls Try.prog 62 #[.agg (vals v), .agg (dotc r n)] w fun e w' => e = .returned (.bool (hasv v r n)) ∧ Below w.heap.size w w' := by
  obtain ⟨hV, hD, hB⟩ := boxedVD w v r n
  have HB : Hid (Below w.heap.size w ((w.alloc (.cells (vals v) 37)).alloc (.cells (dotc r n) 26))) := hB
  clear hB
  rcases Bool.eq_false_or_eq_true (okdot r n) with hk | hk
  · obtain ⟨h0, h1, -, -⟩ := of_decide_eq_true hk
    obtain ⟨k, rfl⟩ : ∃ k : Nat, r = (k : Int) := ⟨r.toNat, by omega⟩
    have hk16 : k < 16 := by omega
    have c0 := hD.cell0
    have c1 := hD.cell1
    have cv := hV.cell (k := k) (by omega)
    have HR : Hid (hasv v (k : Int) n = decide (n ≤ v.getD k 0)) := by show _ = _; rw [hasv, hk, Int.toNat_natCast, Bool.true_and]
    clear h0 h1
    go_enter Try.func62, Try.ntmps62
    go_wp2_with fail
    refine region_vals [5, 6, 7, 8, 9, 10, 11, 12, 13, 14, 15, 4] [.agg (dotc ((k : Int)) (n)), .bool true, .bool true, .pointer (some ⟨(w.heap.size + 1), 1, none⟩), .int .i64 (n), .pointer (some ⟨(w.heap.size + 1), 0, none⟩), .int .i64 ((k : Int)), .pointer (some ⟨w.heap.size, k, none⟩), .int .i64 ((v.getD k 0)), .bool (decide (n ≤ (v.getD k 0))), .bool (decide (n ≤ (v.getD k 0))), .bool (decide (n ≤ (v.getD k 0)))] _ (by kernel_rfl) (by kernel_rfl) (by rfl) (by decide) (by kernel_rfl) (by simp only [lay, Act.put, List.setIfInBounds_toArray, List.set_cons_zero, List.set_cons_succ, List.getD_cons_zero, List.getD_cons_succ, Nat.reduceAdd]; rfl) ⟨?_, ?_, ?_, ?_, ?_, ?_, ?_, ?_, ?_, ?_, ?_, ?_, trivial⟩ ?_
    · exact .inl ⟨rfl, fun W hb => yields_load rfl rfl (load_dot_run ((hD).below hb (hD).lt))⟩
    · exact .inl ⟨rfl, fun W hb => yields_call (vs := [.agg (dotc ((k : Int)) (n))]) (v := .bool true) rfl rfl (enters_rightdot _ _) (okcall (rightdot_any _ _ W) hk)⟩
    · exact .inl ⟨rfl, fun W hb => yields_move rfl rfl⟩
    · exact .inl ⟨rfl, fun W hb => yields_field rfl rfl (field1_run W _)⟩
    · exact .inl ⟨rfl, fun W hb => yields_load rfl rfl (load_int_run ((hb.cell (block_lt_of_cell c1)).trans c1))⟩
    · exact .inl ⟨rfl, fun W hb => yields_field rfl rfl (field0_run W _)⟩
    · exact .inl ⟨rfl, fun W hb => yields_load rfl rfl (load_int_run ((hb.cell (block_lt_of_cell c0)).trans c0))⟩
    · exact .inl ⟨rfl, fun W hb => yields_indexAddr rfl rfl rfl (run_indexAt_vec W _ k hk16)⟩
    · exact .inl ⟨rfl, fun W hb => yields_load rfl rfl (load_int_run ((hb.cell (block_lt_of_cell cv)).trans cv))⟩
    · exact .inl ⟨rfl, fun W hb => yields_bin rfl rfl rfl (eqGuard_int W) (leq_run W _ _)⟩
    · exact .inl ⟨rfl, fun W hb => yields_pick (b := true) rfl rfl rfl⟩
    · exact .inl ⟨rfl, fun W hb => yields_assign rfl rfl⟩
    intro w2 hb2
    clear c0 c1 cv hD hV
    go_wp2
    go_ret
    exact ⟨by rw [HR.out]; rfl, HB.out.trans (hb2.mono HB.out.size)⟩
  · have HR : Hid (hasv v r n = false) := by show _ = _; rw [hasv, hk, Bool.false_and]
    go_enter Try.func62, Try.ntmps62
    go_wp2_with fail
    refine region_vals [5, 6, 7, 8, 9, 10, 11, 12, 13, 14, 15, 4] [.agg (dotc (r) (n)), .bool false, .bool false, undef, undef, undef, undef, undef, undef, undef, .bool false, .bool false] _ (by kernel_rfl) (by kernel_rfl) (by rfl) (by decide) (by kernel_rfl) (by simp only [lay, Act.put, List.setIfInBounds_toArray, List.set_cons_zero, List.set_cons_succ, List.getD_cons_zero, List.getD_cons_succ, Nat.reduceAdd]; rfl) ⟨?_, ?_, ?_, ?_, ?_, ?_, ?_, ?_, ?_, ?_, ?_, ?_, trivial⟩ ?_
    · exact .inl ⟨rfl, fun W hb => yields_load rfl rfl (load_dot_run ((hD).below hb (hD).lt))⟩
    · exact .inl ⟨rfl, fun W hb => yields_call (vs := [.agg (dotc (r) (n))]) (v := .bool false) rfl rfl (enters_rightdot _ _) (okcall (rightdot_any _ _ W) hk)⟩
    · exact .inl ⟨rfl, fun W hb => yields_move rfl rfl⟩
    · exact .inr ⟨rfl, rfl⟩
    · exact .inr ⟨rfl, rfl⟩
    · exact .inr ⟨rfl, rfl⟩
    · exact .inr ⟨rfl, rfl⟩
    · exact .inr ⟨rfl, rfl⟩
    · exact .inr ⟨rfl, rfl⟩
    · exact .inr ⟨rfl, rfl⟩
    · exact .inl ⟨rfl, fun W hb => yields_pick (b := false) rfl rfl rfl⟩
    · exact .inl ⟨rfl, fun W hb => yields_assign rfl rfl⟩
    intro w2 hb2
    clear hD hV
    go_wp2
    go_ret
    exact ⟨by rw [HR.out]; rfl, HB.out.trans (hb2.mono HB.out.size)⟩

set_option maxHeartbeats 400000 in
theorem rhas_any (v : List Int) (r n : Int) (hv : v.length = 16) (w : World) : Calls Try.prog 47 #[.agg (vals v), .agg (dotc r n)] w fun e w' => e = .returned (.bool (hasv v r n)) ∧ Below w.heap.size w w' := by
  obtain ⟨hV, hD, hB⟩ := boxedVD w v r n
  have HB : Hid (Below w.heap.size w ((w.alloc (.cells (vals v) 37)).alloc (.cells (dotc r n) 26))) := hB
  clear hB
  rcases Bool.eq_false_or_eq_true (okdot r n) with hk | hk
  · obtain ⟨h0, h1, -, -⟩ := of_decide_eq_true hk
    obtain ⟨k, rfl⟩ : ∃ k : Nat, r = (k : Int) := ⟨r.toNat, by omega⟩
    have hk16 : k < 16 := by omega
    have c0 := hD.cell0
    have c1 := hD.cell1
    have cv := hV.cell (k := k) (by omega)
    have HR : Hid (hasv v (k : Int) n = decide (n ≤ v.getD k 0)) := by show _ = _; rw [hasv, hk, Int.toNat_natCast, Bool.true_and]
    clear h0 h1
    go_enter Try.func47, Try.ntmps47
    go_wp2_with fail
    refine region_vals [5, 6, 7, 8, 9, 10, 11, 12, 13, 14, 15, 4] [.agg (dotc ((k : Int)) (n)), .bool true, .bool true, .pointer (some ⟨(w.heap.size + 1), 1, none⟩), .int .i64 (n), .pointer (some ⟨(w.heap.size + 1), 0, none⟩), .int .i64 ((k : Int)), .pointer (some ⟨w.heap.size, k, none⟩), .int .i64 ((v.getD k 0)), .bool (decide (n ≤ (v.getD k 0))), .bool (decide (n ≤ (v.getD k 0))), .bool (decide (n ≤ (v.getD k 0)))] _ (by kernel_rfl) (by kernel_rfl) (by rfl) (by decide) (by kernel_rfl) (by simp only [lay, Act.put, List.setIfInBounds_toArray, List.set_cons_zero, List.set_cons_succ, List.getD_cons_zero, List.getD_cons_succ, Nat.reduceAdd]; rfl) ⟨?_, ?_, ?_, ?_, ?_, ?_, ?_, ?_, ?_, ?_, ?_, ?_, trivial⟩ ?_
    · exact .inl ⟨rfl, fun W hb => yields_load rfl rfl (load_dot_run ((hD).below hb (hD).lt))⟩
    · exact .inl ⟨rfl, fun W hb => yields_call (vs := [.agg (dotc ((k : Int)) (n))]) (v := .bool true) rfl rfl (enters_rdot _ _) (okcall (rdot_any _ _ W) hk)⟩
    · exact .inl ⟨rfl, fun W hb => yields_move rfl rfl⟩
    · exact .inl ⟨rfl, fun W hb => yields_field rfl rfl (field1_run W _)⟩
    · exact .inl ⟨rfl, fun W hb => yields_load rfl rfl (load_int_run ((hb.cell (block_lt_of_cell c1)).trans c1))⟩
    · exact .inl ⟨rfl, fun W hb => yields_field rfl rfl (field0_run W _)⟩
    · exact .inl ⟨rfl, fun W hb => yields_load rfl rfl (load_int_run ((hb.cell (block_lt_of_cell c0)).trans c0))⟩
    · exact .inl ⟨rfl, fun W hb => yields_indexAddr rfl rfl rfl (run_indexAt_vec W _ k hk16)⟩
    · exact .inl ⟨rfl, fun W hb => yields_load rfl rfl (load_int_run ((hb.cell (block_lt_of_cell cv)).trans cv))⟩
    · exact .inl ⟨rfl, fun W hb => yields_bin rfl rfl rfl (eqGuard_int W) (leq_run W _ _)⟩
    · exact .inl ⟨rfl, fun W hb => yields_pick (b := true) rfl rfl rfl⟩
    · exact .inl ⟨rfl, fun W hb => yields_assign rfl rfl⟩
    intro w2 hb2
    clear c0 c1 cv hD hV
    go_wp2
    go_ret
    exact ⟨by rw [HR.out]; rfl, HB.out.trans (hb2.mono HB.out.size)⟩
  · have HR : Hid (hasv v r n = false) := by show _ = _; rw [hasv, hk, Bool.false_and]
    go_enter Try.func47, Try.ntmps47
    go_wp2_with fail
    refine region_vals [5, 6, 7, 8, 9, 10, 11, 12, 13, 14, 15, 4] [.agg (dotc (r) (n)), .bool false, .bool false, undef, undef, undef, undef, undef, undef, undef, .bool false, .bool false] _ (by kernel_rfl) (by kernel_rfl) (by rfl) (by decide) (by kernel_rfl) (by simp only [lay, Act.put, List.setIfInBounds_toArray, List.set_cons_zero, List.set_cons_succ, List.getD_cons_zero, List.getD_cons_succ, Nat.reduceAdd]; rfl) ⟨?_, ?_, ?_, ?_, ?_, ?_, ?_, ?_, ?_, ?_, ?_, ?_, trivial⟩ ?_
    · exact .inl ⟨rfl, fun W hb => yields_load rfl rfl (load_dot_run ((hD).below hb (hD).lt))⟩
    · exact .inl ⟨rfl, fun W hb => yields_call (vs := [.agg (dotc (r) (n))]) (v := .bool false) rfl rfl (enters_rdot _ _) (okcall (rdot_any _ _ W) hk)⟩
    · exact .inl ⟨rfl, fun W hb => yields_move rfl rfl⟩
    · exact .inr ⟨rfl, rfl⟩
    · exact .inr ⟨rfl, rfl⟩
    · exact .inr ⟨rfl, rfl⟩
    · exact .inr ⟨rfl, rfl⟩
    · exact .inr ⟨rfl, rfl⟩
    · exact .inr ⟨rfl, rfl⟩
    · exact .inr ⟨rfl, rfl⟩
    · exact .inl ⟨rfl, fun W hb => yields_pick (b := false) rfl rfl rfl⟩
    · exact .inl ⟨rfl, fun W hb => yields_assign rfl rfl⟩
    intro w2 hb2
    clear hD hV
    go_wp2
    go_ret
    exact ⟨by rw [HR.out]; rfl, HB.out.trans (hb2.mono HB.out.size)⟩
end Go.Proofs.Ytagjgamigldjnaa
