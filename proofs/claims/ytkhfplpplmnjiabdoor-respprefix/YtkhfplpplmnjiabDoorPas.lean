/-
  What resp.pass comes to: the place behind a word that stands at a place, or why it doesn't.
-/
import Derived.Test.YtkhfplpplmnjiabDoorSba
import Derived.Test.YtkhfplpplmnjiabDoorRbk
namespace Go.Proofs.YtkhfplpplmnjiabDoor
set_option maxRecDepth 100000
open Go.RowKit

/-- The place behind what takes k bytes, if there is no error. -/
def plc (a k e : Nat) : Nat := if e = 0 then a + k else 0
theorem drop_cons (l : List UInt8) (a : Nat) (h : a < l.length) : l.drop a = l.getD a 0 :: l.drop (a + 1) := by
  rw [List.drop_eq_getElem_cons h]; simp [List.getD, h]
theorem u8_ne {x y : UInt8} (h : x ≠ y) : ((x.toNat : Int) == (y.toNat : Int)) = false := by
  rw [beq_eq_false_iff_ne]; intro e; exact h (UInt8.toNat_inj.1 (by omega))

set_option maxHeartbeats 1000000 in
theorem pass_any (ao : Option Addr) (m c : Nat) (l : List UInt8) (a : Nat) (s : ByteArray) (w : World) (hb : Bytes w ao m c l) (ha : a ≤ m) (hm : m ≤ 1048576) (hs : s.size ≤ 1000) :
    Calls Tryd.prog 21 #[.slice ao m c, .int .i64 (a : Int), .string s] w fun e w' => e = .returned (.tuple #[.int .i64 (plc a s.size (Rs.passE s.data.toList (l.drop a)) : Int), .int .i64 (Rs.passE s.data.toList (l.drop a) : Int)]) ∧ Below w.heap.size w w' := by
  have hlen := hb.len
  have hsl : s.data.toList.length = s.size := by rw [Array.length_toList]; rfl
  go_enter Tryd.func21, Tryd.ntmps21
  go_wp2_with fail
  go_loopw [11] (fun i wr => ∃ k : Nat, k ≤ s.size ∧ a + k ≤ m ∧ i = .int .i64 (k : Int) ∧ Hid (Rs.passE s.data.toList (l.drop a) = Rs.passE (s.data.toList.drop k) (l.drop (a + k))) ∧ Below w.heap.size w wr) (fun i _ => s.size - (intOf i).toNat)
  case atStart => exact ⟨0, Nat.zero_le _, ha, rfl, rfl, Below.refl _ _⟩
  case round =>
    obtain ⟨k, hk, hak, rfl, HR, hbel⟩ := hrel
    have hbr := hb.below hbel (Nat.le_refl _)
    by_cases hlt : k < s.size
    · have hd : s.data.toList.drop k = s[k] :: s.data.toList.drop (k + 1) := List.drop_eq_getElem_cons (by omega)
      by_cases hend : a + k = m
      · have HE : Hid (Rs.passE s.data.toList (l.drop a) = 2) := by
          rw [Hid, HR.out, hd, List.drop_eq_nil_of_le (show l.length ≤ a + k by omega)]; rfl
        have hend' : ((a : Int) + (k : Int) == (m : Int)) = true := by rw [beq_iff_eq]; omega
        clear hd HR hbr hb
        go_wp2
        go_ret2
        rw [HE.out]
        exact ⟨rfl, hbel⟩
      · have hend' : ((a : Int) + (k : Int) == (m : Int)) = false := by rw [beq_eq_false_iff_ne]; omega
        have hld := drop_cons l (a + k) (by omega)
        rcases hbr.norm with ⟨h0, -⟩ | ⟨b, off, hao, -, hcell⟩
        · omega
        subst hao
        have hc := hcell (a + k) (by omega)
        by_cases hx : l.getD (a + k) 0 = s[k]
        · have HN : Hid (Rs.passE s.data.toList (l.drop a) = Rs.passE (s.data.toList.drop (k + 1)) (l.drop (a + (k + 1)))) := by
            rw [Hid, HR.out, hd, hld, Rs.passE, if_pos hx]; rfl
          have hx' : (((l.getD (a + k) 0).toNat : Int) == (s[k].toNat : Int)) = true := by rw [hx, beq_self_eq_true]
          clear hd HR hbr hb hcell hx hld
          generalize l.getD (a + k) 0 = x at *
          go_wp2_with fail
          go_quiet (fail)
          go_wp2
          go_roundw
          case rel => exact ⟨k + 1, by omega, by omega, by go_num, HN, hbel.trans ((drawn wr nq).mono hbel.size)⟩
          case measure => simp [intOf]; omega
        · have HE : Hid (Rs.passE s.data.toList (l.drop a) = 3) := by
            rw [Hid, HR.out, hd, hld, Rs.passE, if_neg hx]
          have hx' := u8_ne hx
          clear hd HR hbr hb hcell hx hld
          generalize l.getD (a + k) 0 = x at *
          go_wp2_with fail
          go_quiet (fail)
          go_wp2
          go_ret2
          rw [HE.out]
          exact ⟨rfl, hbel.trans ((drawn wr nq).mono hbel.size)⟩
    · have HE : Hid (Rs.passE s.data.toList (l.drop a) = 0) := by
        rw [Hid, HR.out, List.drop_eq_nil_of_le (by omega)]; rfl
      clear HR hbr hb
      go_wp2
      go_ret2
      rw [HE.out]
      exact ⟨rfl, hbel⟩
end Go.Proofs.YtkhfplpplmnjiabDoor
