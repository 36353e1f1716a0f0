/-
  What the reference's Lacks comes to.
-/
import Derived.Test.YtdphhkchodaeiaaLck
import Derived.BigQuiet
namespace Go.Proofs.Ytdphhkchodaeiaa
open Go.RowKit

set_option maxHeartbeats 2000000 in
theorem rlacks_any (a b : List Int) (la : a.length = 16) (lb : b.length = 16) (sa : Small a) (sb : Small b) (w : World) :
    Calls Try.prog 25 #[.agg (vals a), .agg (vals b)] w fun e w' => e = .returned (.int .i64 (lacks a b)) ∧ Below w.heap.size w w' := by
  obtain ⟨hA, hB, hb0⟩ := boxed2 w a b
  go_enter Try.func25, Try.ntmps25
  go_wp2_with fail
  go_loopw [5, 6] (fun s i wr => ∃ k : Nat, k ≤ 16 ∧ i = .int .i64 (k : Int) ∧ s = .int .i64 (lackTo a b k) ∧ Lies wr w.heap.size a ∧ Lies wr (w.heap.size + 1) b ∧ Below w.heap.size w wr) (fun _ i _ => 16 - (intOf i).toNat)
  case atStart => exact ⟨0, by omega, rfl, rfl, hA, hB, hb0⟩
  case round =>
    obtain ⟨k, hk, rfl, rfl, hA', hB', hb⟩ := hrel
    clear hA hB hb0
    have HB : Hid (Below w.heap.size w wr) := hb
    clear hb
    have l0 := lackTo_low a b k
    have l1 := lackTo_high a b k
    by_cases h : k < 16
    · have hc := hA'.cell (k := k) (by omega)
      have hcb := hB'.cell (k := k) (by omega)
      have hia := fun (W : World) (g : Nat) => run_indexAt_vec W g k h
      have Ha : Hid _ := hA'.drew
      have Hb : Hid _ := hB'.drew
      have Ha2 : Hid _ := hA'.drew.drew
      have Hb2 : Hid _ := hB'.drew.drew
      have Hs : Hid (lackTo a b (k + 1) = min (lackTo a b k + gp (a.getD k 0) (b.getD k 0)) 4611686018427387904) := rfl
      have ra := sa k
      have rb := sb k
      clear hA' hB'
      generalize a.getD k 0 = x at *
      generalize b.getD k 0 = y at *
      generalize lackTo a b k = s at *
      by_cases hxy : y ≤ x
      · have hg : gp x y = 0 := by rw [gp, if_pos hxy]
        have Hs' : Hid (lackTo a b (k + 1) = s) := by show _ = _; rw [Hs.out, hg]; omega
        clear Hs hg
        go_wp2_with fail
        go_quiet (fail)
        go_wp2
        go_roundw
        case rel => exact ⟨k + 1, by omega, by go_num, by rw [Hs'.out], Ha.out, Hb.out, Below.drewN HB.out _⟩
        case measure => simp [intOf]; omega
      · have hg : gp x y = min (y - x) 4611686018427387904 := by rw [gp, if_neg hxy]
        have hd : IntKind.u64.wrap (IntKind.u64.wrap y - IntKind.u64.wrap x) = y - x := by
          simp only [IntKind.wrap_u64]
          omega
        by_cases h1 : 4611686018427387904 < y - x
        · have Hs' : Hid (lackTo a b (k + 1) = 4611686018427387904) := by show _ = _; rw [Hs.out, hg]; omega
          clear Hs hg
          go_wp2_with fail
          go_quiet (fail)
          go_wp2_with fail
          go_quiet (fail)
          go_wp2
          go_roundw
          case rel => exact ⟨k + 1, by omega, by go_num, by rw [Hs'.out], Ha2.out, Hb2.out, Below.drewN HB.out _⟩
          case measure => simp [intOf]; omega
        · by_cases h2 : 4611686018427387904 < s + (y - x)
          · have Hs' : Hid (lackTo a b (k + 1) = 4611686018427387904) := by show _ = _; rw [Hs.out, hg]; omega
            clear Hs hg
            have hdi : IntKind.i64.wrap (y - x) = y - x := by rw [IntKind.wrap_i64]; omega
            by_cases h3 : s + (y - x) = 9223372036854775808
            · have hw : IntKind.i64.wrap (s + (y - x)) = -9223372036854775808 := by rw [h3, IntKind.wrap_i64]; rfl
              clear h3
              go_wp2_with fail
              go_quiet (fail)
              go_wp2_with fail
              go_quiet (fail)
              go_wp2
              go_roundw
              case rel => exact ⟨k + 1, by omega, by go_num, by rw [Hs'.out], Ha2.out, Hb2.out, Below.drewN HB.out _⟩
              case measure => simp [intOf]; omega
            · go_wp2_with fail
              go_quiet (fail)
              go_wp2_with fail
              go_quiet (fail)
              go_wp2
              go_roundw
              case rel => exact ⟨k + 1, by omega, by go_num, by rw [Hs'.out], Ha2.out, Hb2.out, Below.drewN HB.out _⟩
              case measure => simp [intOf]; omega
          · have Hs' : Hid (lackTo a b (k + 1) = s + (y - x)) := by show _ = _; rw [Hs.out, hg]; omega
            clear Hs hg
            go_wp2_with fail
            go_quiet (fail)
            go_wp2_with fail
            go_quiet (fail)
            go_wp2
            go_roundw
            case rel => exact ⟨k + 1, by omega, by go_num, by rw [Hs'.out], Ha2.out, Hb2.out, Below.drewN HB.out _⟩
            case measure => simp [intOf]; omega
    · obtain rfl : k = 16 := by omega
      have Hr : Hid (lacks a b = lackTo a b 16) := rfl
      generalize lackTo a b 16 = s at *
      clear hA' hB'
      go_wp2
      go_ret
      exact ⟨by rw [Hr.out]; rfl, HB.out⟩
end Go.Proofs.Ytdphhkchodaeiaa
