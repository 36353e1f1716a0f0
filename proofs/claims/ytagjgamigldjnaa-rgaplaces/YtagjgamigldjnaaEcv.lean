/-
  Whether a kind adds, whether an event covers another one, which one is later: the program's answers and the reference's.
-/
import Derived.Test.YtagjgamigldjnaaEvt
import Derived.Test.YtagjgamigldjnaaGc
namespace Go.Proofs.Ytagjgamigldjnaa
set_option maxRecDepth 100000
open Go.RowKit

def coversE (b a : Ev) : Bool := hasv b.deps a.r a.n
set_option maxHeartbeats 400000 in
theorem adds_any (k : Int) (w : World) : Calls Try.prog 43 #[.int .i64 k] w fun e w' => e = .returned (.bool (addsE k)) ∧ w' = w := by
  go_enter Try.func43, Try.ntmps43
  go_wp2
  all_goals
    go_ret
    refine ⟨congrArg (fun b => Ending.returned (.bool b)) (?_ : _ = addsE k), rfl⟩
    simp only [beq_iff_eq, beq_eq_false_iff_ne, ne_eq] at *
    unfold addsE
    first
    | exact (decide_eq_true (by omega)).symm
    | exact (decide_eq_false (by omega)).symm
set_option maxHeartbeats 400000 in
theorem covers_any (b a : Ev) (hl : b.deps.length = 16) (w : World) : Calls Try.prog 58 #[.agg (evc b), .agg (evc a)] w fun e w' => e = .returned (.bool (coversE b a)) ∧ Below w.heap.size w w' := by
  obtain ⟨hb, ha, hB⟩ := boxedEE w b a
  have HB : Hid (Below w.heap.size w ((w.alloc (.cells (evc b) 41)).alloc (.cells (evc a) 41))) := hB
  clear hB
  have hd := hb.deps hl
  have hr := ha.dot
  clear hb ha
  go_enter Try.func58, Try.ntmps58
  go_wp2_with (first | refine load_vec_at rfl rfl rfl hd hl ?_ | refine load_dot_at rfl rfl rfl hr ?_)
  refine (has_any b.deps a.r a.n hl _).mono ?_
  rintro e w1 ⟨rfl, hb1⟩
  clear hd hr
  go_wp2
  go_ret
  exact ⟨rfl, HB.out.trans (hb1.mono HB.out.size)⟩
set_option maxHeartbeats 400000 in
theorem rcovers_any (b a : Ev) (hl : b.deps.length = 16) (w : World) : Calls Try.prog 35 #[.agg (evc b), .agg (evc a)] w fun e w' => e = .returned (.bool (coversE b a)) ∧ Below w.heap.size w w' := by
  obtain ⟨hb, ha, hB⟩ := boxedEE w b a
  have HB : Hid (Below w.heap.size w ((w.alloc (.cells (evc b) 41)).alloc (.cells (evc a) 41))) := hB
  clear hB
  have hd := hb.deps hl
  have hr := ha.dot
  clear hb ha
  go_enter Try.func35, Try.ntmps35
  go_wp2_with (first | refine load_vec_at rfl rfl rfl hd hl ?_ | refine load_dot_at rfl rfl rfl hr ?_)
  refine (rhas_any b.deps a.r a.n hl _).mono ?_
  rintro e w1 ⟨rfl, hb1⟩
  clear hd hr
  go_wp2
  go_ret
  exact ⟨rfl, HB.out.trans (hb1.mono HB.out.size)⟩
set_option maxHeartbeats 400000 in
theorem rlater_any (b a : Ev) (w : World) : Calls Try.prog 19 #[.agg (evc b), .agg (evc a)] w fun e w' => e = .returned (.bool (laterE b a)) ∧ Below w.heap.size w w' := by
  obtain ⟨hb, ha, hB⟩ := boxedEE w b a
  have b0 := hb.c0
  have b1 := hb.c1
  have b2 := hb.c2
  have a0 := ha.c0
  have a1 := ha.c1
  have a2 := ha.c2
  clear ha hb
  have HB : Hid (Below w.heap.size w ((w.alloc (.cells (evc b) 41)).alloc (.cells (evc a) 41))) := hB
  clear hB
  unfold laterE
  go_enter Try.func19, Try.ntmps19
  go_wp2
  all_goals
    go_ret
    refine ⟨?_, HB.out⟩
    simp_all
theorem later_iff (b a : Ev) : laterE b a = true ↔ a.t < b.t ∨ (a.t = b.t ∧ (a.r < b.r ∨ (a.r = b.r ∧ a.n < b.n))) := by
  unfold laterE
  split
  · rw [decide_eq_true_iff]; omega
  · split <;> rw [decide_eq_true_iff] <;> omega
theorem later_self (a : Ev) : laterE a a = false := by
  rw [Bool.eq_false_iff, ne_eq, later_iff]; omega
theorem later_trans {a b c : Ev} (h1 : laterE b a = true) (h2 : laterE c b = true) : laterE c a = true := by
  rw [later_iff] at *; omega
theorem later_both {a b : Ev} (h1 : laterE b a = true) (h2 : laterE a b = true) : False := by
  rw [later_iff] at *; omega
theorem later_none {a b : Ev} (h1 : laterE b a = false) (h2 : laterE a b = false) : a.r = b.r ∧ a.n = b.n := by
  rw [Bool.eq_false_iff, ne_eq, later_iff] at *; omega
end Go.Proofs.Ytagjgamigldjnaa
