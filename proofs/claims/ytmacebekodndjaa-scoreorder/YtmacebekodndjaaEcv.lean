/-
  Whether a kind adds, whether an event covers another one, which one is later: the program's answers and the reference's.
-/
import Derived.Test.YtmacebekodndjaaEvt
import Derived.Test.YtmacebekodndjaaHas
namespace Go.Proofs.Ytmacebekodndjaa
set_option maxRecDepth 100000
open Go.RowKit

def coversE (b a : Ev) : Bool := hasv b.deps a.r a.n
set_option maxHeartbeats 400000 in
theorem rlater_any (b a : Ev) (w : World) : Calls Try.prog 29 #[.agg (evc b), .agg (evc a)] w fun e w' => e = .returned (.bool (laterE b a)) ∧ Below w.heap.size w w' := by
  obtain ⟨hb, ha, hB⟩ := boxedEE w b a
  have b0 := hb.c0
  have b1 := hb.c1
  have b2 := hb.c2
  have a0 := ha.c0
  have a1 := ha.c1
  have a2 := ha.c2
  clear ha hb
  have HB : Hid (Below w.heap.size w ((w.alloc (.cells (evc b) 43)).alloc (.cells (evc a) 43))) := hB
  clear hB
  unfold laterE
  go_enter Try.func29, Try.ntmps29
  go_wp2
  all_goals
    go_ret
    refine ⟨?_, HB.out⟩
    simp_all
theorem later_iff (b a : Ev) : laterE b a = true ↔ a.t < b.t ∨ (a.t = b.t ∧ (a.r < b.r ∨ (a.r = b.r ∧ a.n < b.n))) := by
  unfold laterE
  split
  · rw [decide_eq_true_iff]; omega
  · split <;> rw [decide_eq_true_iff] <;> omega
theorem later_self (a : Ev) : laterE a a = false := by
  rw [Bool.eq_false_iff, ne_eq, later_iff]; omega
theorem later_trans {a b c : Ev} (h1 : laterE b a = true) (h2 : laterE c b = true) : laterE c a = true := by
  rw [later_iff] at *; omega
theorem later_both {a b : Ev} (h1 : laterE b a = true) (h2 : laterE a b = true) : False := by
  rw [later_iff] at *; omega
theorem later_none {a b : Ev} (h1 : laterE b a = false) (h2 : laterE a b = false) : a.r = b.r ∧ a.n = b.n := by
  rw [Bool.eq_false_iff, ne_eq, later_iff] at *; omega
end Go.Proofs.Ytmacebekodndjaa
