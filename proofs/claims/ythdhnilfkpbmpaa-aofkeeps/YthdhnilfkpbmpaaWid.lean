/-
  What vlq.width comes to: a number's count of groups.
-/
import Derived.Test.YthdhnilfkpbmpaaNum
import Derived.Test.YthdhnilfkpbmpaaProg
import Derived.WalkKit
namespace Go.Proofs.Ythdhnilfkpbmpaa
open Go.RowKit

set_option maxHeartbeats 400000 in
theorem width_any (n : Nat) (w : World) (hn : n < 18446744073709551616) :
    Calls Try.prog 75 #[.int .u64 (n : Int)] w fun e w' => e = .returned (.int .i64 (Vq.wd n : Nat)) ∧ w' = w := by
  go_enter Try.func75, Try.ntmps75
  go_wp2
  go_loop [0, 3] (fun x y => ∃ k : Nat, k ≤ 9 ∧ (k = 0 ∨ 128 ^ k ≤ n) ∧ x = .int .u64 ((n / 128 ^ k : Nat) : Int) ∧ y = .int .i64 ((k + 1 : Nat) : Int)) (fun x _ => (intOf x).toNat)
  case atStart => exact ⟨0, by omega, .inl rfl, by simp, rfl⟩
  case round =>
    obtain ⟨k, hk, hge, rfl, rfl⟩ := hrel
    have hm : n / 128 ^ k ≤ n := Nat.div_le_self _ _
    generalize hmk : n / 128 ^ k = m at *
    have Hmk : Hid (n / 128 ^ k = m) := hmk
    clear hmk
    have Hge : Hid (k = 0 ∨ 128 ^ k ≤ n) := hge
    clear hge
    by_cases h : m ≤ 127
    · have h1 : ¬ (127 : Int) < (m : Int) := by omega
      go_wp2
      go_ret
      exact ⟨by rw [Vq.wid_end hk Hge.out Hmk.out h]; rfl, rfl⟩
    · have h1 : (127 : Int) < (m : Int) := by omega
      go_wp2
      go_round
      case rel =>
        obtain ⟨a, b, c⟩ := Vq.wid_step hn Hmk.out h
        exact ⟨k + 1, a, .inr b, by rw [c]; go_num, by go_num⟩
      case measure => simp [intOf]; omega
end Go.Proofs.Ythdhnilfkpbmpaa
