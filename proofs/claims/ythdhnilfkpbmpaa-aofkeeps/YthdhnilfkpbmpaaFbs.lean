/-
  What frame.bodySize comes to: the length that a head tells, or an error.
-/
import Derived.Test.YthdhnilfkpbmpaaTak
import Derived.Test.YthdhnilfkpbmpaaSea
namespace Go.Proofs.Ythdhnilfkpbmpaa
set_option maxRecDepth 100000

open Go.RowKit

theorem i64_or_word (a b : Nat) (ha : a < 256) (hb : b < 256) : bits .or .i64 ((a : Int) * 256) (b : Int) = ((a * 256 + b : Nat) : Int) := by
  have hor : a * 256 ||| b = a * 256 + b := by
    rw [Nat.mul_comm a 256]
    exact (Nat.two_pow_add_eq_or_of_lt (i := 8) hb a).symm
  rw [show ((a : Int) * 256) = ((a * 256 : Nat) : Int) by omega]
  show IntKind.i64.wrap ((BitVec.ofInt 64 ((a * 256 : Nat) : Int) ||| BitVec.ofInt 64 (b : Int)).toNat : Int) = _
  rw [BitVec.toNat_or, BitVec.ofInt_natCast, BitVec.ofInt_natCast, BitVec.toNat_ofNat, BitVec.toNat_ofNat, Nat.mod_eq_of_lt (by omega), Nat.mod_eq_of_lt (by omega), IntKind.wrap_i64, hor]
  omega

/-- What a head tells: the length; the error. -/
def bzN (d : List UInt8) : Nat := if d.length < 4 ∨ Fr.isSealed (d.take 4) = false ∨ 65529 < Fr.hd d then 0 else Fr.hd d
def bzE (d : List UInt8) : Int := if d.length < 4 then 2 else if Fr.isSealed (d.take 4) = false then 5 else if 65529 < Fr.hd d then 4 else 0

set_option maxHeartbeats 1000000 in
theorem bodysize_any (ao : Option Addr) (m c : Nat) (l : List UInt8) (w : World) (hb : Bytes w ao m c l) (hc : c ≤ maxLen) :
    Calls Try.prog 59 #[.slice ao m c] w fun e w' => e = .returned (.tuple #[.int .i64 (bzN l : Int), .int .i64 (bzE l)]) ∧ Below w.heap.size w w' := by
  have hlen := hb.len
  have hroom := hb.room
  have hcm := hc
  unfold maxLen at hc
  by_cases h4 : m < 4
  · rw [bzN, bzE, if_pos (.inl (by omega)), if_pos (by omega)]
    have h4' : (m : Int) < 4 := by omega
    go_enter Try.func59, Try.ntmps59
    go_wp2
    go_ret2
    exact ⟨rfl, Below.refl _ _⟩
  · have h4' : ¬ (m : Int) < 4 := by omega
    have hbt := hb.take 4 (by omega)
    have htl : (l.take 4).length = 4 := by rw [List.length_take]; omega
    by_cases hs : Fr.isSealed (l.take 4) = false
    · rw [bzN, bzE, if_pos (.inr (.inl hs)), if_neg (by omega), if_pos hs]
      have hbt : Bytes w ao (l.take 4).length c (l.take 4) := by rw [htl]; exact hbt
      have Ho : Hid _ := open_not ao c (l.take 4) w hbt (by omega) hcm hs
      rw [htl] at Ho
      go_enter Try.func59, Try.ntmps59
      go_wp2_with fail
      refine Calls.mono Ho.out ?_
      rintro e w1 ⟨rfl, hb1⟩
      go_wp2
      go_ret2
      exact ⟨rfl, hb1⟩
    · rw [Bool.not_eq_false] at hs
      have hbt : Bytes w ao (l.take 4).length c (l.take 4) := by rw [htl]; exact hbt
      have Ho : Hid _ := open_is ao c (l.take 4) w hbt (by omega) hs
      rw [htl] at Ho
      have e2 : (l.take 4).take (4 - 2) = l.take 2 := by rw [List.take_take]; rfl
      rw [e2] at Ho
      have hn : Hid (Fr.hd l = (l.getD 0 0).toNat * 256 + (l.getD 1 0).toNat) := rfl
      have b0 := (l.getD 0 0).toNat_lt
      have b1 := (l.getD 1 0).toNat_lt
      have hor : bits .or .i64 (((l.getD 0 0).toNat : Int) * 256) ((l.getD 1 0).toNat : Int) = ((Fr.hd l : Nat) : Int) := by
        exact i64_or_word _ _ b0 b1
      have g0 : (l.take 2).getD 0 0 = l.getD 0 0 := by simp [List.getD_eq_getElem?_getD]
      have g1 : (l.take 2).getD 1 0 = l.getD 1 0 := by simp [List.getD_eq_getElem?_getD]
      have HE : Hid (bzE l = if 65529 < Fr.hd l then 4 else 0) := by rw [Hid, bzE, if_neg (by omega), if_neg (by rw [hs]; decide)]
      have HN : Hid (bzN l = if 65529 < Fr.hd l then 0 else Fr.hd l) := by
        rw [Hid, bzN]
        by_cases h : 65529 < Fr.hd l
        · rw [if_pos (.inr (.inr h)), if_pos h]
        · rw [if_neg (by rw [hs]; simp; omega), if_neg h]
      generalize Fr.hd l = n at *
      go_enter Try.func59, Try.ntmps59
      go_wp2_with fail
      refine Calls.mono Ho.out ?_
      rintro e w1 ⟨g, rfl, hB1, hg1, hb1⟩
      rcases hB1.norm with ⟨h, _⟩ | ⟨b, off, hao, _, hcell⟩
      · omega
      · simp only [Option.some.injEq, Addr.mk.injEq, and_true] at hao
        obtain ⟨rfl, rfl⟩ := hao
        have c0 := hcell 0 (by omega)
        have c1 := hcell 1 (by omega)
        rw [g0] at c0
        rw [g1] at c1
        generalize (l.getD 0 0).toNat = x at *
        generalize (l.getD 1 0).toNat = y at *
        clear hcell hB1
        by_cases hbig : 65529 < n
        · have hbig' : (65529 : Int) < (n : Int) := by omega
          go_wp2_with fail
          go_quiet (fail)
          go_wp2
          go_ret2
          rw [HE.out, HN.out, if_pos hbig, if_pos hbig]
          exact ⟨rfl, hb1.trans ((drawn w1 nq).mono hb1.size)⟩
        · have hbig' : ¬ (65529 : Int) < (n : Int) := by omega
          go_wp2_with fail
          go_quiet (fail)
          go_wp2
          go_ret2
          rw [HE.out, HN.out, if_neg hbig, if_neg hbig]
          exact ⟨rfl, hb1.trans ((drawn w1 nq).mono hb1.size)⟩
end Go.Proofs.Ythdhnilfkpbmpaa
