/-
  What crc.Of comes to: the check of bytes. It reads alone.
-/
import Derived.Test.YthdhnilfkpbmpaaByt
namespace Go.Proofs.Ythdhnilfkpbmpaa
set_option maxRecDepth 100000

open Go.RowKit

theorem mix_bits (n k : Nat) (w : World) (hn : n < 65536) (hk : k < 256) (x : BitVec 16) (c : UInt8) (hx : x.toNat = n) (hc : c.toNat = k) :
    Calls Try.prog 76 #[.int .u16 (bits .xor .u16 (n : Int) ((k : Int) * 256))] w fun e w' => e = .returned (.int .u16 ((Ck.step x c).toNat : Int)) ∧ w' = w := by
  have h := mix_any (x ^^^ Ck.up c) w
  have e : (((x ^^^ Ck.up c).toNat : Nat) : Int) = bits .xor .u16 (n : Int) ((k : Int) * 256) := by
    rw [show ((k : Int) * 256) = ((k * 256 : Nat) : Int) by omega, u16_xor_nat _ _ hn (by omega), BitVec.toNat_xor, hx, Ck.up, BitVec.toNat_ofNat, hc, Nat.mod_eq_of_lt (by omega)]
  rw [e] at h
  exact h

set_option maxHeartbeats 400000 in
theorem of_any (ao : Option Addr) (m c : Nat) (l : List UInt8) (w : World) (hb : Bytes w ao m c l) (hm : m ≤ maxLen) :
    Calls Try.prog 69 #[.slice ao m c] w fun e w' => e = .returned (.int .u16 ((Ck.crc l).toNat : Int)) ∧ w' = w := by
  unfold maxLen at hm
  rcases hb.norm with ⟨rfl, rfl⟩ | ⟨b, off, rfl, h0, hcell⟩
  · go_enter Try.func69, Try.ntmps69
    go_wp2
    refine wp_loop_rounds 1 ?_
    rw [rounds_succ]
    go_wp2
    go_ret
    exact ⟨rfl, rfl⟩
  · go_enter Try.func69, Try.ntmps69
    go_wp2
    go_loop [3, 8] (fun n i => ∃ k : Nat, k ≤ m ∧ n = .int .u16 ((Ck.crc (l.take k)).toNat : Int) ∧ i = .int .i64 (k : Int)) (fun _ i => m - (intOf i).toNat)
    case atStart => exact ⟨0, Nat.zero_le _, rfl, rfl⟩
    case round =>
      obtain ⟨k, hk, rfl, rfl⟩ := hrel
      by_cases hlt : k < m
      · have hc := hcell k hlt
        have hkl : k < l.length := by rw [hb.len]; exact hlt
        have HS : Hid (Ck.crc (l.take (k + 1)) = Ck.step (Ck.crc (l.take k)) (l.getD k 0)) := by
          show Ck.crc (l.take (k + 1)) = _
          rw [List.take_succ_eq_append_getElem hkl, Ck.crc, Ck.fold_append, List.getD_eq_getElem?_getD, List.getElem?_eq_getElem hkl, Option.getD_some]
          rfl
        have hx := (l.getD k 0).toNat_lt
        have hn := (Ck.crc (l.take k)).isLt
        generalize hxe : l.getD k 0 = x at hc HS hx
        generalize hne : Ck.crc (l.take k) = y at HS hn
        generalize hxn : x.toNat = xn at hc hx
        generalize hyn : y.toNat = yn at hn
        have Hm : Hid _ := mix_bits yn xn w hn hx y x hyn hxn
        clear hcell hxe hne hxn hyn
        go_wp2_with fail
        refine Calls.mono Hm.out ?_
        rintro e w' ⟨rfl, hw⟩
        obtain rfl := hw.symm
        go_wp2
        go_round
        case rel => exact ⟨k + 1, by omega, by rw [HS.out], by go_num⟩
        case measure => simp [intOf]; omega
      · clear hcell
        go_wp2
        go_ret
        rw [List.take_of_length_le (by rw [hb.len]; omega)]
        exact ⟨rfl, rfl⟩
end Go.Proofs.Ythdhnilfkpbmpaa
