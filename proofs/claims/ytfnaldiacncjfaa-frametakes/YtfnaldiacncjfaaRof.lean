/-
  What the reference's Of comes to: the check of a text's bytes.
-/
import Derived.Test.YtfnaldiacncjfaaOpn
namespace Go.Proofs.Ytfnaldiacncjfaa
open Go.RowKit

theorem i64_xor_nat (a b : Nat) (ha : a < 65536) (hb : b < 65536) : bits .xor .i64 (a : Int) (b : Int) = ((a ^^^ b : Nat) : Int) := by
  have hx : a ^^^ b < 2 ^ 16 := Nat.xor_lt_two_pow (by omega) (by omega)
  show IntKind.i64.wrap ((BitVec.ofInt 64 (a : Int) ^^^ BitVec.ofInt 64 (b : Int)).toNat : Int) = _
  rw [BitVec.toNat_xor, BitVec.ofInt_natCast, BitVec.ofInt_natCast, BitVec.toNat_ofNat, BitVec.toNat_ofNat, Nat.mod_eq_of_lt (by omega), Nat.mod_eq_of_lt (by omega), IntKind.wrap_i64]
  omega

theorem step_xor_bits (x : BitVec 16) (c : UInt8) : bits .xor .i64 (x.toNat : Int) ((c.toNat : Int) * 256) = (((x ^^^ Ck.up c).toNat : Nat) : Int) := by
  have hc := c.toNat_lt
  rw [show ((c.toNat : Int) * 256) = ((c.toNat * 256 : Nat) : Int) by omega, i64_xor_nat _ _ x.isLt (by omega), BitVec.toNat_xor, Ck.up, BitVec.toNat_ofNat, Nat.mod_eq_of_lt (by omega)]
theorem dbl_big (x : BitVec 16) (h : 32768 ≤ x.toNat) : bits .xor .i64 ((x.toNat : Int) * 2 - 65536) 4129 = (((Ck.dbl x).toNat : Nat) : Int) := by
  have hx := x.isLt
  have h1 := i64_xor_nat (2 * x.toNat - 65536) 4129 (by omega) (by omega)
  rw [Ck.dbl_toNat, if_pos h, ← h1, show ((2 * x.toNat - 65536 : Nat) : Int) = (x.toNat : Int) * 2 - 65536 by omega]
  rfl
theorem dbl_small (x : BitVec 16) (h : ¬ 32768 ≤ x.toNat) : (x.toNat : Int) * 2 = (((Ck.dbl x).toNat : Nat) : Int) := by
  rw [Ck.dbl_toNat, if_neg h]; omega

set_option maxHeartbeats 1000000 in
theorem rof_any (b : ByteArray) (hb : b.size ≤ maxLen) (w : World) :
    Calls Try.prog 26 #[.string b] w fun e w' => e = .returned (.int .i64 ((Ck.crc b.data.toList).toNat : Int)) ∧ w' = w := by
  unfold maxLen at hb
  have hl : b.data.toList.length = b.size := by rw [Array.length_toList]; rfl
  go_enter Try.func26, Try.ntmps26
  go_wp2
  go_loop [3, 4] (fun n i => ∃ k : Nat, k ≤ b.size ∧ n = .int .i64 ((Ck.crc (b.data.toList.take k)).toNat : Int) ∧ i = .int .i64 (k : Int)) (fun _ i => b.size - (intOf i).toNat)
  case atStart => exact ⟨0, Nat.zero_le _, rfl, rfl⟩
  case round =>
    obtain ⟨k, hk, rfl, rfl⟩ := hrel
    by_cases hlt : k < b.size
    · have HS : Hid (Ck.crc (b.data.toList.take (k + 1)) = Ck.step (Ck.crc (b.data.toList.take k)) b[k]) := by
        show _ = _
        have hkl : k < b.data.toList.length := by omega
        rw [List.take_succ_eq_append_getElem hkl, Ck.crc, Ck.fold_append]
        rfl
      have hx := b[k].toNat_lt
      have hxr := step_xor_bits (Ck.crc (b.data.toList.take k)) b[k]
      have hy := (Ck.crc (b.data.toList.take k)).isLt
      have hyl := (Ck.crc (b.data.toList.take k) ^^^ Ck.up b[k]).isLt
      have HS2 : Hid (Ck.crc (b.data.toList.take (k + 1)) = Ck.rep 8 (Ck.crc (b.data.toList.take k) ^^^ Ck.up b[k])) := HS
      generalize Ck.crc (b.data.toList.take k) ^^^ Ck.up b[k] = Y at *
      generalize Ck.crc (b.data.toList.take k) = X at *
      clear HS
      go_wp2
      go_loop [3, 5] (fun n i => ∃ j : Nat, j ≤ 8 ∧ n = .int .i64 ((Ck.rep j Y).toNat : Int) ∧ i = .int .i64 (j : Int)) (fun _ i => 8 - (intOf i).toNat)
      case atStart => exact ⟨0, by omega, rfl, rfl⟩
      case round =>
        obtain ⟨j, hj, rfl, rfl⟩ := hrel
        by_cases hj8 : j < 8
        · have hz := (Ck.rep j Y).isLt
          have HD : Hid (Ck.rep (j + 1) Y = Ck.dbl (Ck.rep j Y)) := Ck.rep_succ j Y
          by_cases hbig : 32768 ≤ (Ck.rep j Y).toNat
          · have hd := dbl_big _ hbig
            generalize Ck.rep j Y = Z at *
            generalize Z.toNat = z at *
            have hgt : (65535 : Int) < (z : Int) * 2 := by omega
            go_wp2
            go_round
            case rel => exact ⟨j + 1, by omega, by rw [HD.out], by go_num⟩
            case measure => simp [intOf]; omega
          · have hd := dbl_small _ hbig
            generalize Ck.rep j Y = Z at *
            have Hd : Hid ((Z.toNat : Int) * 2 = ((Ck.dbl Z).toNat : Int)) := hd
            clear hd
            generalize Z.toNat = z at *
            have hgt : ¬ (65535 : Int) < (z : Int) * 2 := by omega
            go_wp2
            go_round
            case rel => exact ⟨j + 1, by omega, by rw [HD.out, ← Hd.out], by go_num⟩
            case measure => simp [intOf]; omega
        · obtain rfl : j = 8 := by omega
          go_wp2
          go_round
          case rel => exact ⟨k + 1, by omega, by rw [HS2.out], by go_num⟩
          case measure => simp [intOf]; omega
    · go_wp2
      go_ret
      rw [List.take_of_length_le (by omega)]
      exact ⟨rfl, rfl⟩
end Go.Proofs.Ytfnaldiacncjfaa
