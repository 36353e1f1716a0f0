/-
  What remainder, turnBits and Crash come to.
-/
import Derived.Test.YthdhnilfkpbmpaaDsa
import Derived.Test.YthdhnilfkpbmpaaDkb
namespace Go.Proofs.Ythdhnilfkpbmpaa
set_option maxRecDepth 100000

open Go.RowKit

theorem i64_and1 (n : Int) : bits .and .i64 n 1 = n % 2 := by
  have h1 : (BitVec.ofInt 64 1).toNat = 2 ^ 1 - 1 := by decide
  have key : (BitVec.ofInt 64 n &&& BitVec.ofInt 64 1).toNat = (n % ((2 ^ 64 : Nat) : Int)).toNat % 2 ^ 1 := by
    rw [BitVec.toNat_and, BitVec.toNat_ofInt, h1, Nat.and_two_pow_sub_one_eq_mod]
  show IntKind.i64.wrap ((BitVec.ofInt 64 n &&& BitVec.ofInt 64 1).toNat : Nat) = n % 2
  rw [key, IntKind.wrap_i64]
  omega
theorem flip_bs (l : List UInt8) (p : Nat) : bs (Dk.flip l p) = (bs l).set (p / 8) (.int .u8 (bits .xor .u8 ((l.getD (p / 8) 0).toNat : Int) (128 / 2 ^ (p % 8)))) := by
  have h1 : 128 / 2 ^ (p % 8) < 256 := Nat.lt_of_le_of_lt (Nat.div_le_self _ _) (by omega)
  have h2 := u8_xor_nat (l.getD (p / 8) 0).toNat (128 / 2 ^ (p % 8)) (l.getD (p / 8) 0).toNat_lt h1
  have h3 : (((128 / 2 ^ (p % 8) : Nat)) : Int) = 128 / 2 ^ (p % 8) := by simp
  rw [h3] at h2
  rw [h2, Dk.flip, bs, List.map_set, UInt8.toNat_xor, toNat_ofNat_lt _ h1]
  rfl
theorem bit_and (t i c : Nat) (h : t / 2 ^ (15 - i) % 2 = c) : bits .and .i64 ((t : Int) / 2 ^ (15 - i)) 1 = (c : Int) := by
  have h1 : ((t : Int) / 2 ^ (15 - i)) = ((t / 2 ^ (15 - i) : Nat) : Int) := by simp
  rw [i64_and1, h1, ← h]
  omega
theorem rem_twice (x m : Int) (hm : 0 < m) : (x.tmod m + m).tmod m = x % m := by
  have h1 := Int.tmod_lt_of_pos x hm
  have h0 : -m < x.tmod m := by
    have := Int.lt_tmod_of_pos x hm
    omega
  rw [Int.tmod_eq_emod_of_nonneg (by omega), Int.add_emod_right]
  rw [← Int.emod_emod_of_dvd x (Int.dvd_refl m)]
  rw [Int.tmod_eq_emod]
  split
  · simp
  · rw [Int.sub_emod]
    simp [Int.natAbs_of_nonneg (show 0 ≤ m by omega)]

set_option maxHeartbeats 400000 in
theorem remainder_any (x : Int) (m : Nat) (h0 : 0 < m) (h1 : m ≤ 1048576) (w : World) :
    Calls Try.prog 32 #[.int .i64 x, .int .i64 (m : Int)] w fun e w' => e = .returned (.int .i64 (x % (m : Int))) ∧ w' = w := by
  have e := rem_twice x m (by omega)
  have b1 := Int.tmod_lt_of_pos x (show (0 : Int) < m by omega)
  have b0 := Int.lt_tmod_of_pos x (show (0 : Int) < m by omega)
  have hm : (m : Int) ≠ 0 := by omega
  go_enter Try.func32, Try.ntmps32
  go_wp2
  go_ret
  exact ⟨rfl, rfl⟩

theorem grown_drew {a w : World} {row : Option Nat} (h : a.grownBy w row) : a.grownBy w.drew row := ⟨h.os, h.tape, h.output, h.size, h.block⟩
set_option maxHeartbeats 2000000 in
theorem turnbits_any (base G N cap f n c at0 t : Nat) (l : List UInt8) (w : World) (hown : w.ownsRow base 5 1 (.slice (some ⟨G, 0, none⟩) N cap) N (bs l)) (hn : f + n = N) (hN : N ≤ 65536) (hat : at0 + 16 ≤ 8 * n) :
    Calls Try.prog 31 #[.slice (some ⟨G, f, none⟩) n c, .int .i64 (at0 : Int), .int .i64 (t : Int)] w fun e w' => e = .returned (.tuple #[]) ∧ w'.ownsRow base 5 1 (.slice (some ⟨G, 0, none⟩) N cap) N (bs (Dk.turn l (8 * f + at0) t 16)) ∧ w.grownBy w' (some G) := by
  go_enter Try.func31, Try.ntmps31
  go_wp2_with fail
  go_loopw [8] (fun i wr => ∃ k : Nat, k ≤ 16 ∧ i = .int .i64 (k : Int) ∧ wr.ownsRow base 5 1 (.slice (some ⟨G, 0, none⟩) N cap) N (bs (Dk.turn l (8 * f + at0) t k)) ∧ w.grownBy wr (some G)) (fun i _ => 16 - (intOf i).toNat)
  case atStart => exact ⟨0, by omega, rfl, hown, World.grownBy.refl _ _⟩
  case round =>
    obtain ⟨i, hi, rfl, ho, hg⟩ := hrel
    clear hown
    by_cases hlt : i < 16
    · by_cases hbit : t / 2 ^ (15 - i) % 2 = 1
      · have hand := bit_and t i 1 hbit
        have hq : (at0 + i) / 8 < n := by omega
        have e1 : (8 * f + at0 + i) / 8 = f + (at0 + i) / 8 := by omega
        have e2 : (8 * f + at0 + i) % 8 = (at0 + i) % 8 := by omega
        have ho2 : wr.drew.ownsRow base 5 1 (.slice (some ⟨G, 0, none⟩) N cap) N (bs (Dk.turn l (8 * f + at0) t i)) := own_below ho (Below.refl _ _).drew
        have hc1 := row_cell ho (f + (at0 + i) / 8) (by omega)
        have hfz := ho.frozenAt (f + (at0 + i) / 8)
        have Hst : Hid ((wr.drew.setCell ⟨G, f + (at0 + i) / 8, none⟩ (.int .u8 (bits .xor .u8 (((Dk.turn l (8 * f + at0) t i).getD (f + (at0 + i) / 8) 0).toNat : Int) (128 / 2 ^ ((at0 + i) % 8))))).ownsRow base 5 1 (.slice (some ⟨G, 0, none⟩) N cap) N (bs (Dk.turn l (8 * f + at0) t (i + 1)))
            ∧ wr.drew.grownBy (wr.drew.setCell ⟨G, f + (at0 + i) / 8, none⟩ (.int .u8 (bits .xor .u8 (((Dk.turn l (8 * f + at0) t i).getD (f + (at0 + i) / 8) 0).toNat : Int) (128 / 2 ^ ((at0 + i) % 8))))) (some G)) := by
          have h1 := ho2.stored (f + (at0 + i) / 8) (.int .u8 (bits .xor .u8 (((Dk.turn l (8 * f + at0) t i).getD (f + (at0 + i) / 8) 0).toNat : Int) (128 / 2 ^ ((at0 + i) % 8))))
          refine ⟨?_, h1.2⟩
          rw [Dk.turn, if_pos hbit, flip_bs, e1, e2]
          exact h1.1
        clear ho ho2 hbit e1 e2
        generalize ((Dk.turn l (8 * f + at0) t i).getD (f + (at0 + i) / 8) 0).toNat = x at *
        go_wp2_with fail
        go_region
        go_wp2
        go_roundw
        case rel => exact ⟨i + 1, by omega, by go_num, Hst.out.1, grown_trans (grown_drew hg) Hst.out.2⟩
        case measure => simp [intOf]; omega
      · have hand := bit_and t i 0 (by omega)
        have HT : Hid (Dk.turn l (8 * f + at0) t (i + 1) = Dk.turn l (8 * f + at0) t i) := by rw [Hid, Dk.turn, if_neg hbit]
        clear hbit
        go_wp2
        go_roundw
        case rel => exact ⟨i + 1, by omega, by go_num, by rw [HT.out]; exact ho, hg⟩
        case measure => simp [intOf]; omega
    · obtain rfl : i = 16 := by omega
      go_wp2
      go_end0
      exact ⟨rfl, ho, hg⟩
end Go.Proofs.Ythdhnilfkpbmpaa
