/-
  What crc.double and crc.mix come to: a number doubled, once and eight times.
-/
import Derived.Test.YthdhnilfkpbmpaaChk
import Derived.Test.YthdhnilfkpbmpaaProg
import Derived.Laws.BitsAllLaws
import Derived.WalkKit
namespace Go.Proofs.Ythdhnilfkpbmpaa
set_option maxRecDepth 100000

open Go.RowKit

theorem and_top (n : Nat) (h : n < 65536) : bits .and .u16 (n : Int) 32768 = if 32768 ≤ n then 32768 else 0 := by
  have h1 := u16_and_nat n 32768 h (by omega)
  rw [show ((32768 : Nat) : Int) = 32768 from rfl] at h1
  rw [h1]
  have h2 : n &&& 32768 = if 32768 ≤ n then 32768 else 0 := by
    apply Nat.eq_of_testBit_eq
    intro i
    rw [Nat.testBit_and, show 32768 = 2 ^ 15 from rfl, Nat.testBit_two_pow]
    by_cases hi : 15 = i
    · subst hi
      rw [Nat.testBit_eq_decide_div_mod_eq]
      by_cases h3 : 2 ^ 15 ≤ n
      · have : n / 2 ^ 15 % 2 = 1 := by omega
        rw [if_pos h3, Nat.testBit_two_pow]; simp [this]
      · have : n / 2 ^ 15 % 2 = 0 := by omega
        rw [if_neg h3]; simp [this]
    · by_cases h3 : 2 ^ 15 ≤ n
      · rw [if_pos h3, Nat.testBit_two_pow]; simp [hi]
      · rw [if_neg h3]; simp [hi]
  rw [h2]
  split <;> rfl

set_option maxHeartbeats 400000 in
theorem double_any (x : BitVec 16) (w : World) :
    Calls Try.prog 83 #[.int .u16 (x.toNat : Int)] w fun e w' => e = .returned (.int .u16 ((Ck.dbl x).toNat : Int)) ∧ w' = w := by
  have hx := x.isLt
  have hd := Ck.dbl_toNat x
  generalize (Ck.dbl x).toNat = d at *
  generalize x.toNat = n at *
  have ha := and_top n hx
  by_cases h : 32768 ≤ n
  · rw [if_pos h] at ha hd
    have hb := u16_xor_nat (2 * n - 65536) 4129 (by omega) (by omega)
    rw [← hd] at hb
    have Hb : Hid (bits .xor .u16 ((2 * n - 65536 : Nat) : Int) ((4129 : Nat) : Int) = (d : Int)) := hb
    clear hb hd
    go_enter Try.func83, Try.ntmps83
    go_wp2
    go_ret
    refine ⟨?_, rfl⟩
    have e : IntKind.u16.wrap ((n : Int) * 2) = ((2 * n - 65536 : Nat) : Int) := by rw [IntKind.wrap_u16]; omega
    show Ending.returned (Value.int IntKind.u16 (bits BinOp.xor IntKind.u16 (IntKind.u16.wrap ((n : Int) * 2)) 4129)) = _
    rw [e]
    exact congrArg (fun z => Ending.returned (Value.int IntKind.u16 z)) Hb.out
  · rw [if_neg h] at ha hd
    go_enter Try.func83, Try.ntmps83
    go_wp2
    go_ret
    refine ⟨?_, rfl⟩
    show Ending.returned (Value.int IntKind.u16 ((n : Int) * 2)) = _
    rw [hd, show ((2 * n : Nat) : Int) = (n : Int) * 2 by omega]

set_option maxHeartbeats 400000 in
theorem mix_any (x : BitVec 16) (w : World) :
    Calls Try.prog 76 #[.int .u16 (x.toNat : Int)] w fun e w' => e = .returned (.int .u16 ((Ck.rep 8 x).toNat : Int)) ∧ w' = w := by
  go_enter Try.func76, Try.ntmps76
  go_wp2
  go_loop [0, 3] (fun a i => ∃ k : Nat, k ≤ 8 ∧ a = .int .u16 ((Ck.rep k x).toNat : Int) ∧ i = .int .i64 (k : Int)) (fun _ i => 8 - (intOf i).toNat)
  case atStart => exact ⟨0, by omega, rfl, rfl⟩
  case round =>
    obtain ⟨k, hk, rfl, rfl⟩ := hrel
    by_cases h : k < 8
    · go_wp2_with fail
      refine (double_any (Ck.rep k x) _).mono ?_
      rintro e w' ⟨rfl, hw⟩
      obtain rfl := hw.symm
      go_wp2
      go_round
      case rel => exact ⟨k + 1, by omega, by rw [Ck.rep_succ], by go_num⟩
      case measure => simp [intOf]; omega
    · obtain rfl : k = 8 := by omega
      go_wp2
      go_ret
      exact ⟨rfl, rfl⟩
end Go.Proofs.Ythdhnilfkpbmpaa
