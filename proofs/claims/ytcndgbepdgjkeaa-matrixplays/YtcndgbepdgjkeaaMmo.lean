/-
  What the reference's Most comes to.
-/
import Derived.Test.YtcndgbepdgjkeaaCmp
import Derived.BigQuiet
namespace Go.Proofs.Ytcndgbepdgjkeaa
set_option maxRecDepth 100000
open Go.RowKit

set_option maxHeartbeats 1000000 in
theorem most_any (a b : List Int) (la : a.length = 16) (lb : b.length = 16) (w : World) :
    Calls Try.prog 18 #[.agg (vals a), .agg (vals b)] w fun e w' => e = .returned (.bool (most a b)) ∧ Below w.heap.size w w' := by
  obtain ⟨hA, hB, hb0⟩ := boxed2 w a b
  go_enter Try.func18, Try.ntmps18
  go_wp2_with fail
  go_loopw [5] (fun i wr => ∃ k : Nat, k ≤ 16 ∧ i = .int .i64 (k : Int) ∧ (∀ j, j < k → a.getD j 0 ≤ b.getD j 0) ∧ Lies wr w.heap.size a ∧ Lies wr (w.heap.size + 1) b ∧ Below w.heap.size w wr) (fun i _ => 16 - (intOf i).toNat)
  case atStart => exact ⟨0, by omega, rfl, fun j hj => by omega, hA, hB, hb0⟩
  case round =>
    obtain ⟨k, hk, rfl, hall, hA', hB', hb⟩ := hrel
    clear hA hB hb0
    have HB : Hid (Below w.heap.size w wr) := hb
    clear hb
    have HA : Hid _ := hall
    clear hall
    by_cases h : k < 16
    · have hc := hA'.cell (k := k) (by omega)
      have hcb := hB'.cell (k := k) (by omega)
      have hia := fun (W : World) (g : Nat) => run_indexAt_vec W g k h
      have Ha : Hid _ := hA'.drew
      have Hb : Hid _ := hB'.drew
      have Hs : Hid (a.getD k 0 ≤ b.getD k 0 → ∀ j, j < k + 1 → a.getD j 0 ≤ b.getD j 0) := by
        intro hle j hj
        by_cases he : j = k
        · subst he; exact hle
        · exact HA.out j (by omega)
      have Hn : Hid (b.getD k 0 < a.getD k 0 → most a b = false) := by
        intro hlt
        rw [Bool.eq_false_iff]
        intro hm
        have := (most_spec a b).1 hm k h
        omega
      clear hA' hB' HA
      generalize a.getD k 0 = x at *
      generalize b.getD k 0 = y at *
      by_cases hxy : y < x
      · go_wp2_with fail
        go_quiet (fail)
        go_wp2
        go_ret
        exact ⟨by rw [Hn.out (by omega)]; rfl, Below.drewN HB.out _⟩
      · go_wp2_with fail
        go_quiet (fail)
        go_wp2
        go_roundw
        case rel => exact ⟨k + 1, by omega, by go_num, Hs.out (by omega), Ha.out, Hb.out, Below.drewN HB.out _⟩
        case measure => simp [intOf]; omega
    · obtain rfl : k = 16 := by omega
      have Hr : Hid (most a b = true) := (most_spec a b).2 HA.out
      clear HA hA' hB'
      go_wp2
      go_ret
      exact ⟨by rw [Hr.out]; rfl, HB.out⟩

end Go.Proofs.Ytcndgbepdgjkeaa
