/-
  CrcBack: what was sealed is opened as it was. For every input.
-/
import Derived.Test.YtcgnfmfnngbpcaaAwk
namespace Go.Proofs.Ytcgnfmfnngbpcaa
open Go.RowKit

theorem Ck.word_hi_lo (x : BitVec 16) : Ck.word (Ck.hi x) (Ck.lo x) = x := by
  have hx := x.isLt
  apply BitVec.eq_of_toNat_eq
  rw [Ck.word, BitVec.toNat_ofNat, Ck.hi, Ck.lo, toNat_ofNat_lt _ (by omega), toNat_ofNat_lt _ (by omega)]
  omega
theorem Ck.sealed_length (l : List UInt8) : (Ck.sealed l).length = l.length + 2 := by simp [Ck.sealed]
theorem Ck.sealed_take (l : List UInt8) : (Ck.sealed l).take l.length = l := by rw [Ck.sealed, List.take_left]
theorem Ck.sealed_opens (l : List UInt8) : Ck.crc ((Ck.sealed l).take l.length) = Ck.word ((Ck.sealed l).getD l.length 0) ((Ck.sealed l).getD (l.length + 1) 0) := by
  rw [Ck.sealed_take]
  have h1 : (Ck.sealed l).getD l.length 0 = Ck.hi (Ck.crc l) := by
    rw [Ck.sealed, List.getD_eq_getElem?_getD, List.getElem?_append_right (Nat.le_refl _), Nat.sub_self]; rfl
  have h2 : (Ck.sealed l).getD (l.length + 1) 0 = Ck.lo (Ck.crc l) := by
    rw [Ck.sealed, List.getD_eq_getElem?_getD, List.getElem?_append_right (by omega), show l.length + 1 - l.length = 1 by omega]; rfl
  rw [h1, h2, Ck.word_hi_lo]

/-- Sealed bytes, wherever they lie, are opened. -/
theorem open_sealed (ao : Option Addr) (m c : Nat) (l : List UInt8) (w : World) (hb : Bytes w ao (m + 2) c (Ck.sealed l)) (hm : m ≤ 70368744177600) :
    Calls Try.prog 9 #[.slice ao (m + 2) c] w fun e w' => ∃ g, e = .returned (.tuple #[.slice (some ⟨g, 0, none⟩) m m, .bool true]) ∧
      w'.ownsRow w.heap.size 5 1 (.slice (some ⟨g, 0, none⟩) m m) m (bs l) ∧ Below w.heap.size w w' := by
  have hl : l.length = m := by have := hb.len; rw [Ck.sealed_length] at this; omega
  have h := open_yes ao (m + 2) c (Ck.sealed l) w hb (by omega) (by omega) (by
    rw [show m + 2 - 2 = l.length by omega, show m + 2 - 1 = l.length + 1 by omega]; exact Ck.sealed_opens l)
  rw [show m + 2 - 2 = m by omega, ← hl, Ck.sealed_take, hl] at h
  exact h

set_option maxHeartbeats 400000 in
theorem back_walk (b : ByteArray) (hb : b.size ≤ maxLen) (w : World) :
    Calls Try.prog 4 #[.string b] w fun e w' => e = .returned (.bool true) ∧ Below w.heap.size w w' := by
  have hbm := hb
  unfold maxLen at hbm
  by_cases h : b.size ≤ 5000
  · go_enter Try.func4, Try.ntmps4
    go_wp2_with fail
    refine (awake_any _).mono ?_
    rintro e w1 ⟨rfl, hb1⟩
    have hs1 := hb1.size
    obtain ⟨cap, w2, hcv, hB2, hcap, hb2, hz2⟩ := conv_bytes b w1 hb
    have hs2 := hb2.size
    go_wp2_with fail
    refine (seal_any _ _ _ _ _ hB2 (by omega)).mono ?_
    rintro e w3 ⟨g3, rfl, hown3, hb3⟩
    have hs3 := hb3.size
    go_wp2_with fail
    refine (open_sealed _ _ _ _ _ (Bytes.own hown3) (by omega)).mono ?_
    rintro e w4 ⟨g4, rfl, hown4, hb4⟩
    have hc4 := conv_own hown4
    have hbel : Below w.heap.size w w4 := ((hb1.trans (hb2.mono hs1)).trans (hb3.mono (by omega))).trans (hb4.mono (by omega))
    go_wp2
    go_ret
    exact ⟨by simp, hbel⟩
  · have hgt : (5000 : Int) < (b.size : Int) := by omega
    go_enter Try.func4, Try.ntmps4
    go_wp2_with fail
    refine (awake_any _).mono ?_
    rintro e w1 ⟨rfl, hb1⟩
    go_wp2_with fail
    refine (awake_any _).mono ?_
    rintro e w2 ⟨rfl, hb2⟩
    go_wp2
    go_ret
    exact ⟨rfl, hb1.trans (hb2.mono hb1.size)⟩
end Go.Proofs.Ytcgnfmfnngbpcaa
