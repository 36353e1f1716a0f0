/-
  The reference's small functions: what a kind uses, whether it adds; Covers, Later.
-/
import Derived.Test.YtgolokcajkccfaaRig
namespace Go.Proofs.Ytgolokcajkccfaa
open Go.RowKit

set_option maxHeartbeats 400000 in
theorem rfield_any (k : Int) (w : World) : Calls Try.prog 37 #[.int .i64 k] w fun e w' => e = .returned (.bool (usesF k)) ∧ w' = w := by
  go_enter Try.func37, Try.ntmps37
  go_wp2
  all_goals
    go_ret
    refine ⟨congrArg (fun b => Ending.returned (.bool b)) (?_ : _ = usesF k), rfl⟩
    rw [Bool.eq_iff_iff]
    simp only [usesF, decide_eq_true_eq, Bool.false_eq_true, false_iff] <;> omega

set_option maxHeartbeats 400000 in
theorem rvalue_any (k : Int) (w : World) : Calls Try.prog 38 #[.int .i64 k] w fun e w' => e = .returned (.bool (usesV k)) ∧ w' = w := by
  go_enter Try.func38, Try.ntmps38
  go_wp2
  all_goals
    go_ret
    refine ⟨congrArg (fun b => Ending.returned (.bool b)) (?_ : _ = usesV k), rfl⟩
    rw [Bool.eq_iff_iff]
    simp only [usesV, decide_eq_true_eq, Bool.or_eq_true, beq_iff_eq, true_iff] <;> omega

set_option maxHeartbeats 400000 in
theorem rnum_any (k : Int) (w : World) : Calls Try.prog 39 #[.int .i64 k] w fun e w' => e = .returned (.bool (usesN k)) ∧ w' = w := by
  go_enter Try.func39, Try.ntmps39
  go_wp2
  all_goals
    go_ret
    refine ⟨congrArg (fun b => Ending.returned (.bool b)) (?_ : _ = usesN k), rfl⟩
    rw [Bool.eq_iff_iff]
    simp only [usesN, decide_eq_true_eq, Bool.or_eq_true, beq_iff_eq, true_iff] <;> omega

set_option maxHeartbeats 400000 in
theorem rref_any (k : Int) (w : World) : Calls Try.prog 41 #[.int .i64 k] w fun e w' => e = .returned (.bool (usesR k)) ∧ w' = w := by
  go_enter Try.func41, Try.ntmps41
  go_wp2
  all_goals
    go_ret
    refine ⟨congrArg (fun b => Ending.returned (.bool b)) (?_ : _ = usesR k), rfl⟩
    rw [Bool.eq_iff_iff]
    simp only [usesR, decide_eq_true_eq, Bool.or_eq_true, beq_iff_eq, true_iff] <;> omega

set_option maxHeartbeats 400000 in
theorem radds_any (k : Int) (w : World) : Calls Try.prog 13 #[.int .i64 k] w fun e w' => e = .returned (.bool (addsE k)) ∧ w' = w := by
  go_enter Try.func13, Try.ntmps13
  go_wp2
  all_goals
    go_ret
    refine ⟨congrArg (fun b => Ending.returned (.bool b)) (?_ : _ = addsE k), rfl⟩
    rw [Bool.eq_iff_iff]
    simp only [addsE, decide_eq_true_eq, Bool.or_eq_true, beq_iff_eq, true_iff] <;> omega

set_option maxHeartbeats 400000 in
theorem rcovers_any (b a : Ev) (hl : b.deps.length = 16) (w : World) : Calls Try.prog 15 #[.agg (evc b), .agg (evc a)] w fun e w' => e = .returned (.bool (coversE b a)) ∧ Below w.heap.size w w' := by
  obtain ⟨hb, ha, hB⟩ := boxedEE w b a
  have HB : Hid (Below w.heap.size w ((w.alloc (.cells (evc b) 29)).alloc (.cells (evc a) 29))) := hB
  clear hB
  have hd := hb.deps hl
  have hr := ha.dot
  clear hb ha
  go_enter Try.func15, Try.ntmps15
  go_wp2_with (first | refine load_vec_at rfl rfl rfl hd hl ?_ | refine load_dot_at rfl rfl rfl hr ?_)
  refine (rhas_any b.deps a.r a.n hl _).mono ?_
  rintro e w1 ⟨rfl, hb1⟩
  clear hd hr
  go_wp2
  go_ret
  exact ⟨rfl, HB.out.trans (hb1.mono HB.out.size)⟩

set_option maxHeartbeats 400000 in
theorem rlater_any (b a : Ev) (w : World) : Calls Try.prog 17 #[.agg (evc b), .agg (evc a)] w fun e w' => e = .returned (.bool (laterE b a)) ∧ Below w.heap.size w w' := by
  obtain ⟨hb, ha, hB⟩ := boxedEE w b a
  have b0 := hb.c0
  have b1 := hb.c1
  have b2 := hb.c2
  have a0 := ha.c0
  have a1 := ha.c1
  have a2 := ha.c2
  clear ha hb
  have HB : Hid (Below w.heap.size w ((w.alloc (.cells (evc b) 29)).alloc (.cells (evc a) 29))) := hB
  clear hB
  unfold laterE
  go_enter Try.func17, Try.ntmps17
  go_wp2
  all_goals
    go_ret
    refine ⟨?_, HB.out⟩
    simp_all
end Go.Proofs.Ytgolokcajkccfaa
