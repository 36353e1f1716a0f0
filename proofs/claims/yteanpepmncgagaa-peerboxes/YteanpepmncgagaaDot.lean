/-
  What vec.isReplica, vec.rightDot and the reference's Dot come to: whether a number is a replica's, whether a dot can be.
-/
import Derived.Test.YteanpepmncgagaaRvl
namespace Go.Proofs.Yteanpepmncgagaa
set_option maxRecDepth 100000
open Go.RowKit

def isrep (r : Int) : Bool := decide (0 ≤ r ∧ r < 16)
/-- Can a dot be? -/
def okdot (r n : Int) : Bool := decide (0 ≤ r ∧ r < 16 ∧ 1 ≤ n ∧ n ≤ 1048576)

set_option maxHeartbeats 400000 in
theorem isreplica_any (r : Int) (w : World) : Calls Try.prog 46 #[.int .i64 r] w fun e w' => e = .returned (.bool (isrep r)) ∧ w' = w := by
  by_cases h0 : 0 ≤ r
  · by_cases h1 : r < 16
    · go_enter Try.func46, Try.ntmps46
      go_wp2
      go_ret
      exact ⟨by rw [isrep, decide_eq_true ⟨h0, h1⟩]; rfl, rfl⟩
    · go_enter Try.func46, Try.ntmps46
      go_wp2
      go_ret
      exact ⟨by rw [isrep, decide_eq_false (by omega)]; rfl, rfl⟩
  · go_enter Try.func46, Try.ntmps46
    go_wp2
    go_ret
    exact ⟨by rw [isrep, decide_eq_false (by omega)]; rfl, rfl⟩

set_option maxHeartbeats 400000 in
theorem rightdot_any (r n : Int) (w : World) : Calls Try.prog 40 #[.agg (dotc r n)] w fun e w' => e = .returned (.bool (okdot r n)) ∧ Below w.heap.size w w' := by
  have hD := liesD_new w r n
  have c0 := hD.cell0
  have c1 := hD.cell1
  have hB : Hid (Below w.heap.size w (w.alloc (.cells (dotc r n) 33))) := (Below.refl _ _).alloc (Nat.le_refl _) _
  clear hD
  by_cases h0 : 0 ≤ r ∧ r < 16
  · have hr : isrep r = true := decide_eq_true h0
    by_cases h1 : 1 ≤ n
    · by_cases h2 : n ≤ 1048576
      · have Hk : Hid (okdot r n = true) := decide_eq_true ⟨h0.1, h0.2, h1, h2⟩
        go_enter Try.func40, Try.ntmps40
        go_wp2_with fail
        refine (isreplica_any r _).mono ?_
        rintro e w1 ⟨rfl, hw⟩
        obtain rfl := hw.symm
        rw [hr]
        go_wp2
        go_ret
        exact ⟨by rw [Hk.out]; first | rfl | (show Ending.returned (.bool (decide _)) = _; rw [decide_eq_false (by omega)]), hB.out⟩
      · have Hk : Hid (okdot r n = false) := decide_eq_false (fun h => h2 h.2.2.2)
        go_enter Try.func40, Try.ntmps40
        go_wp2_with fail
        refine (isreplica_any r _).mono ?_
        rintro e w1 ⟨rfl, hw⟩
        obtain rfl := hw.symm
        rw [hr]
        go_wp2
        go_ret
        exact ⟨by rw [Hk.out]; first | rfl | (show Ending.returned (.bool (decide _)) = _; rw [decide_eq_false (by omega)]), hB.out⟩
    · have Hk : Hid (okdot r n = false) := decide_eq_false (fun h => h1 h.2.2.1)
      go_enter Try.func40, Try.ntmps40
      go_wp2_with fail
      refine (isreplica_any r _).mono ?_
      rintro e w1 ⟨rfl, hw⟩
      obtain rfl := hw.symm
      rw [hr]
      go_wp2
      go_ret
      exact ⟨by rw [Hk.out]; first | rfl | (show Ending.returned (.bool (decide _)) = _; rw [decide_eq_false (by omega)]), hB.out⟩
  · have hr : isrep r = false := decide_eq_false h0
    have Hk : Hid (okdot r n = false) := decide_eq_false (fun h => h0 ⟨h.1, h.2.1⟩)
    go_enter Try.func40, Try.ntmps40
    go_wp2_with fail
    refine (isreplica_any r _).mono ?_
    rintro e w1 ⟨rfl, hw⟩
    obtain rfl := hw.symm
    rw [hr]
    go_wp2
    go_ret
    exact ⟨by rw [Hk.out]; first | rfl | (show Ending.returned (.bool (decide _)) = _; rw [decide_eq_false (by omega)]), hB.out⟩

set_option maxHeartbeats 400000 in
theorem rdot_any (r n : Int) (w : World) : Calls Try.prog 36 #[.agg (dotc r n)] w fun e w' => e = .returned (.bool (okdot r n)) ∧ Below w.heap.size w w' := by
  have hD := liesD_new w r n
  have c0 := hD.cell0
  have c1 := hD.cell1
  have hB : Hid (Below w.heap.size w (w.alloc (.cells (dotc r n) 33))) := (Below.refl _ _).alloc (Nat.le_refl _) _
  clear hD
  by_cases h0 : 0 ≤ r
  · by_cases h3 : r < 16
    · by_cases h1 : 1 ≤ n
      · by_cases h2 : n ≤ 1048576
        · have Hk : Hid (okdot r n = true) := decide_eq_true ⟨h0, h3, h1, h2⟩
          go_enter Try.func36, Try.ntmps36
          go_wp2
          go_ret
          exact ⟨by rw [Hk.out]; first | rfl | (show Ending.returned (.bool (decide _)) = _; rw [decide_eq_false (by omega)]), hB.out⟩
        · have Hk : Hid (okdot r n = false) := decide_eq_false (fun h => h2 h.2.2.2)
          go_enter Try.func36, Try.ntmps36
          go_wp2
          go_ret
          exact ⟨by rw [Hk.out]; first | rfl | (show Ending.returned (.bool (decide _)) = _; rw [decide_eq_false (by omega)]), hB.out⟩
      · have Hk : Hid (okdot r n = false) := decide_eq_false (fun h => h1 h.2.2.1)
        go_enter Try.func36, Try.ntmps36
        go_wp2
        go_ret
        exact ⟨by rw [Hk.out]; first | rfl | (show Ending.returned (.bool (decide _)) = _; rw [decide_eq_false (by omega)]), hB.out⟩
    · have Hk : Hid (okdot r n = false) := decide_eq_false (fun h => h3 h.2.1)
      go_enter Try.func36, Try.ntmps36
      go_wp2
      go_ret
      exact ⟨by rw [Hk.out]; first | rfl | (show Ending.returned (.bool (decide _)) = _; rw [decide_eq_false (by omega)]), hB.out⟩
  · have Hk : Hid (okdot r n = false) := decide_eq_false (fun h => h0 h.1)
    go_enter Try.func36, Try.ntmps36
    go_wp2
    go_ret
    exact ⟨by rw [Hk.out]; first | rfl | (show Ending.returned (.bool (decide _)) = _; rw [decide_eq_false (by omega)]), hB.out⟩
end Go.Proofs.Yteanpepmncgagaa
