/-
  FrameTakes: of any bytes, at any place the frame is taken, and from the beginning on frames are scanned, as the document says. For every input.
-/
import Derived.Test.YtfnaldiacncjfaaRsc
import Derived.Test.YtfnaldiacncjfaaPuw
import Derived.Test.YtfnaldiacncjfaaCuw
namespace Go.Proofs.Ytfnaldiacncjfaa
open Go.RowKit

/-- What Take answers at any place. -/
def fT (l : List UInt8) (a : Int) : ByteArray := if 0 ≤ a ∧ a ≤ l.length then tkT (l.drop a.toNat) else ByteArray.empty
def fN (l : List UInt8) (a : Int) : Int := if 0 ≤ a ∧ a ≤ l.length then (tkN a.toNat (l.drop a.toNat) : Int) else 0
def fE (l : List UInt8) (a : Int) : Int := if 0 ≤ a ∧ a ≤ l.length then Fr.tkE (l.drop a.toNat) else 1

theorem take_text (ao : Option Addr) (m c : Nat) (l : List UInt8) (a : Int) (w : World) (hb : Bytes w ao m c l) (hc : c ≤ maxLen) :
    Calls Try.prog 12 #[.slice ao m c, .int .i64 a] w fun e w' => ∃ ao' m' c', e = .returned (.tuple #[.slice ao' m' c', .int .i64 (fN l a), .int .i64 (fE l a)]) ∧ Bytes w' ao' m' c' (fT l a).data.toList ∧ Below w.heap.size w w' := by
  have hlen := hb.len
  have hroom := hb.room
  by_cases h : 0 ≤ a ∧ a ≤ l.length
  · rw [fN, fE, fT, if_pos h, if_pos h, if_pos h]
    obtain ⟨n, rfl⟩ := Int.eq_ofNat_of_zero_le h.1
    rw [Int.toNat_natCast]
    by_cases hE : Fr.tkE (l.drop n) = 0
    · have e1 : tkT (l.drop n) = tx (Fr.tkB (l.drop n)) := by rw [tkT, if_pos hE]
      have e2 : tkN n (l.drop n) = n + Fr.tkW (l.drop n) := by rw [tkN, if_pos hE]
      rw [e1, e2, hE, tx_list]
      refine (take_ok ao m c l n w hb hc (by omega) hE).mono ?_
      rintro e w' ⟨g, rfl, hown, hbel⟩
      exact ⟨_, _, _, rfl, Bytes.own hown, hbel⟩
    · have e1 : tkT (l.drop n) = ByteArray.empty := by rw [tkT, if_neg hE]
      have e2 : tkN n (l.drop n) = 0 := by rw [tkN, if_neg hE]
      rw [e1, e2]
      refine (take_err ao m c l n w hb hc (by omega) hE).mono ?_
      rintro e w' ⟨rfl, hbel⟩
      exact ⟨_, _, _, rfl, Bytes.nil _, hbel⟩
  · rw [fN, fE, fT, if_neg h, if_neg h, if_neg h]
    refine (take_arg ao m c a w (by omega) (by omega)).mono ?_
    rintro e w' ⟨rfl, rfl⟩
    exact ⟨_, _, _, rfl, Bytes.nil _, Below.refl _ _⟩
theorem rtake_text (b : ByteArray) (a : Int) (hb : b.size ≤ 20000) (w : World) :
    Calls Try.prog 13 #[.string b, .int .i64 a] w fun e w' => e = .returned (.tuple #[.string (fT b.data.toList a), .int .i64 (fN b.data.toList a), .int .i64 (fE b.data.toList a)]) ∧ Below w.heap.size w w' := by
  have hl : b.data.toList.length = b.size := by rw [Array.length_toList]; rfl
  by_cases h : 0 ≤ a ∧ a ≤ b.data.toList.length
  · rw [fN, fE, fT, if_pos h, if_pos h, if_pos h]
    obtain ⟨n, rfl⟩ := Int.eq_ofNat_of_zero_le h.1
    rw [Int.toNat_natCast]
    exact rtake_any b n hb (by omega) w
  · rw [fN, fE, fT, if_neg h, if_neg h, if_neg h]
    refine (rtake_arg b a hb (by omega) w).mono ?_
    rintro e w' ⟨rfl, rfl⟩
    exact ⟨rfl, Below.refl _ _⟩

set_option maxHeartbeats 4000000 in
theorem takes_walk (b : ByteArray) (a : Int) (hb : b.size ≤ maxLen) (w : World) :
    Calls Try.prog 5 #[.string b, .int .i64 a] w fun e w' => e = .returned (.bool true) ∧ Below w.heap.size w w' := by
  have hbm := hb
  unfold maxLen at hbm
  by_cases h : b.size ≤ 20000
  · have hgt : ¬ (20000 : Int) < (b.size : Int) := by omega
    have hl : b.data.toList.length = b.size := by rw [Array.length_toList]; rfl
    go_enter Try.func5, Try.ntmps5
    go_wp2_with fail
    refine (awake_any _).mono ?_
    rintro e w1 ⟨rfl, hb1⟩
    obtain ⟨cap, w2, hcv, hB2, hcap, hb2, hz2⟩ := conv_bytes b w1 hb
    go_wp2_with fail
    refine (take_text _ _ _ _ a _ hB2 hcap).mono ?_
    rintro e w3 ⟨ao, mT, cT, rfl, hI3, hb3⟩
    have s2 := hb1.trans (hb2.mono hb1.size)
    have s3 := s2.trans (hb3.mono s2.size)
    clear hcv hB2 hcap hb2 hz2 hb3 hb1 s2
    go_wp2_with fail
    refine (rtake_text b a h _).mono ?_
    rintro e w4 ⟨rfl, hb4⟩
    have hI4 := hI3.below hb4 (Nat.le_refl _)
    have s4 := s3.trans (hb4.mono s3.size)
    clear hI3 hb4 s3
    generalize fT b.data.toList a = t at *
    generalize fN b.data.toList a = n at *
    generalize fE b.data.toList a = E at *
    obtain ⟨cap, w5, hcv, hB5, hcap, hb5, hz5⟩ := conv_bytes b w4 hb
    go_wp2_with fail
    refine (scan_any _ _ _ _ _ hB5 hcap (by omega)).mono ?_
    rintro e w6 ⟨v6, A, rfl, hA1, hA2, hB6, hb6⟩
    have hI6 := (hI4.below hb5 (Nat.le_refl _)).below hb6 (Nat.le_refl _)
    have s5 := s4.trans (hb5.mono s4.size)
    have s6 := s5.trans (hb6.mono s5.size)
    clear hcv hB5 hcap hb5 hz5 hb6 s5 s4 hI4
    go_wp2_with fail
    refine (rscan_any b h _).mono ?_
    rintro e w7 ⟨v7, A', S, rfl, hA1', hA2', hD, hsm, hO, hb7⟩
    have hI7 := hI6.below hb7 (Nat.le_refl _)
    have hB7 := hB6.below hb7
    have s7 := s6.trans (hb7.mono s6.size)
    obtain rfl : A = A' := Fr.drop_inj (by omega) (by omega) (hA2.symm.trans hA2')
    rw [← hD] at hB7
    obtain ⟨a7, c7, rfl, hT7, hc7⟩ := hO.txts hsm
    have hcv7 := conv_any hI7
    have hSl : S.length ≤ maxLen := by have := hT7.room; omega
    clear hI6 hB6 hb7 s6 hA2 hA2' hD hO hI7
    go_wp2_with fail
    refine (texts_same _ _ _ _ _ _ _ hB7 hT7 hSl).mono ?_
    rintro e w8 ⟨rfl, hb8⟩
    have s8 := s7.trans (hb8.mono s7.size)
    go_wp2
    go_ret
    exact ⟨rfl, s8⟩
  · have hgt : (20000 : Int) < (b.size : Int) := by omega
    go_enter Try.func5, Try.ntmps5
    go_wp2_with fail
    refine (awake_any _).mono ?_
    rintro e w1 ⟨rfl, hb1⟩
    go_wp2_with fail
    refine (awake_any _).mono ?_
    rintro e w2 ⟨rfl, hb2⟩
    go_wp2
    go_ret
    exact ⟨rfl, hb1.trans (hb2.mono hb1.size)⟩
end Go.Proofs.Ytfnaldiacncjfaa
