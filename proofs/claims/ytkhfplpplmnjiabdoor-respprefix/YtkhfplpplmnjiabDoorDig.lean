/-
  What resp.takeDigits comes to: a count at a place, up to a byte that is no digit.
-/
import Derived.Test.YtkhfplpplmnjiabDoorPas
import Derived.WalkMore
namespace Go.Proofs.YtkhfplpplmnjiabDoor
set_option maxRecDepth 100000
open Go.RowKit

def rE {α : Type} (r : Except Nat α) : Nat := match r with | .ok _ => 0 | .error e => e
def rP {α : Type} (a : Nat) (r : Except Nat (α × Nat)) : Nat := match r with | .ok x => a + x.2 | .error _ => 0
def rN (r : Except Nat (Nat × Nat)) : Nat := match r with | .ok x => x.1 | .error _ => 0

theorem pow_small {n k : Nat} (hk : k ≤ 6) (h : n < 10 ^ k) : n < 1000000 :=
  Nat.lt_of_lt_of_le h (Nat.le_trans (Nat.pow_le_pow_right (by decide) hk) (by decide))
set_option maxHeartbeats 1000000 in
theorem digits_any (ao : Option Addr) (m c : Nat) (l : List UInt8) (a : Nat) (w : World) (hb : Bytes w ao m c l) (ha : a ≤ m) (hm : m ≤ 1048576) :
    Calls Tryd.prog 22 #[.slice ao m c, .int .i64 (a : Int)] w fun e w' => e = .returned (.tuple #[.int .i64 (rN (Rs.dgR 0 0 (l.drop a)) : Int), .int .i64 (rP a (Rs.dgR 0 0 (l.drop a)) : Int), .int .i64 (rE (Rs.dgR 0 0 (l.drop a)) : Int)]) ∧ Below w.heap.size w w' := by
  have hlen := hb.len
  go_enter Tryd.func22, Tryd.ntmps22
  go_wp2_with fail
  go_step3
  go_wp2_with fail
  go_step3
  go_wp2_with fail
  go_loopw [1, 7] (fun i v wr => ∃ p n : Nat, a ≤ p ∧ p ≤ m ∧ p - a ≤ 6 ∧ n < 10 ^ (p - a) ∧ i = .int .i64 (p : Int) ∧ v = .int .i64 (n : Int) ∧ Hid (Rs.dgR 0 0 (l.drop a) = Rs.dgR (p - a) n (l.drop p)) ∧ Below w.heap.size w wr) (fun i _ _ => m - (intOf i).toNat)
  case atStart => exact ⟨a, 0, Nat.le_refl _, ha, by omega, by simp, rfl, rfl, by rw [Hid, Nat.sub_self], Below.refl _ _⟩
  case round =>
    obtain ⟨p, n, hap, hpm, hp6, hn, rfl, rfl, HR, hbel⟩ := hrel
    have hbr := hb.below hbel (Nat.le_refl _)
    have hn6 := pow_small hp6 hn
    by_cases hlt : p < m
    · have hld := drop_cons l p (by omega)
      rcases hbr.norm with ⟨h0, -⟩ | ⟨b, off, hao, -, hcell⟩
      · omega
      subst hao
      have hc := hcell p hlt
      have hpe : ((p : Int) == (m : Int)) = false := by rw [beq_eq_false_iff_ne]; omega
      by_cases hdig : Rs.isDig (l.getD p 0) = true
      · have hx : 48 ≤ (l.getD p 0).toNat ∧ (l.getD p 0).toNat ≤ 57 := by simpa [Rs.isDig] using hdig
        by_cases hbad : p - a = 6 ∨ (0 < p - a ∧ n = 0)
        · have HE : Hid (Rs.dgR 0 0 (l.drop a) = .error 3) := by rw [Hid, HR.out, hld, Rs.dgR, if_pos hdig, if_pos hbad]
          clear HR hbr hb hcell hld hdig hn
          generalize (l.getD p 0).toNat = x at *
          have hx1 : ¬ (x : Int) < 48 := by omega
          have hx2 : ¬ (57 : Int) < (x : Int) := by omega
          by_cases h6 : p - a = 6
          · have h6' : ((p : Int) - (a : Int) == 6) = true := by rw [beq_iff_eq]; omega
            go_wp2
            go_ret3
            rw [HE.out]
            exact ⟨rfl, hbel⟩
          · have h6' : ((p : Int) - (a : Int) == 6) = false := by rw [beq_eq_false_iff_ne]; omega
            obtain ⟨h7, rfl⟩ := hbad.resolve_left h6
            have h7' : (a : Int) < (p : Int) := by omega
            go_wp2
            go_ret3
            rw [HE.out]
            exact ⟨rfl, hbel⟩
        · have HN : Hid (Rs.dgR 0 0 (l.drop a) = Rs.dgR (p + 1 - a) (10 * n + ((l.getD p 0).toNat - 48)) (l.drop (p + 1))) := by
            rw [Hid, HR.out, hld, Rs.dgR, if_pos hdig, if_neg hbad, show p + 1 - a = p - a + 1 by omega]
          have hn' : 10 * n + ((l.getD p 0).toNat - 48) < 10 ^ (p + 1 - a) := by
            rw [show p + 1 - a = p - a + 1 by omega, Nat.pow_succ]; omega
          clear HR hbr hb hcell hld hdig
          generalize (l.getD p 0).toNat = x at *
          have hx1 : ¬ (x : Int) < 48 := by omega
          have hx2 : ¬ (57 : Int) < (x : Int) := by omega
          have h6' : ((p : Int) - (a : Int) == 6) = false := by rw [beq_eq_false_iff_ne]; omega
          have H6 : Hid (p + 1 - a ≤ 6) := by rw [Hid]; omega
          have HP : Hid (10 * n + (x - 48) < 10 ^ (p + 1 - a)) := hn'
          clear hn hn' 
          by_cases h7 : a < p
          · have h7' : (a : Int) < (p : Int) := by omega
            have h8 : ((n : Int) == 0) = false := by rw [beq_eq_false_iff_ne]; omega
            clear hbad
            go_wp2
            go_roundw
            case rel => exact ⟨p + 1, 10 * n + (x - 48), by omega, by omega, H6.out, HP.out, by go_num, by go_num, HN, hbel⟩
            case measure => simp [intOf]; omega
          · have h7' : ¬ (a : Int) < (p : Int) := by omega
            clear hbad
            go_wp2
            go_roundw
            case rel => exact ⟨p + 1, 10 * n + (x - 48), by omega, by omega, H6.out, HP.out, by go_num, by go_num, HN, hbel⟩
            case measure => simp [intOf]; omega
      · have hx : ¬ (48 ≤ (l.getD p 0).toNat ∧ (l.getD p 0).toNat ≤ 57) := by simpa [Rs.isDig] using hdig
        have HE : Hid (Rs.dgR 0 0 (l.drop a) = if p - a = 0 then .error 3 else .ok (n, p - a)) := by rw [Hid, HR.out, hld, Rs.dgR, if_neg hdig]
        clear HR hbr hb hcell hld hdig hn
        generalize (l.getD p 0).toNat = x at *
        by_cases h0 : p - a = 0
        · have hpa : ((p : Int) == (a : Int)) = true := by rw [beq_iff_eq]; omega
          have HE : Hid (Rs.dgR 0 0 (l.drop a) = .error 3) := by rw [Hid, HE.out, if_pos h0]
          by_cases hx1 : (x : Int) < 48
          · go_wp2
            try rw [Exit.noGoto_ret]
            go_ret3
            rw [HE.out]
            exact ⟨rfl, hbel⟩
          · have hx2 : (57 : Int) < (x : Int) := by omega
            go_wp2
            try rw [Exit.noGoto_ret]
            go_ret3
            rw [HE.out]
            exact ⟨rfl, hbel⟩
        · have hpa : ((p : Int) == (a : Int)) = false := by rw [beq_eq_false_iff_ne]; omega
          have HE : Hid (Rs.dgR 0 0 (l.drop a) = .ok (n, p - a)) := by rw [Hid, HE.out, if_neg h0]
          have HP : Hid (a + (p - a) = p) := by rw [Hid]; omega
          by_cases hx1 : (x : Int) < 48
          · go_wp2
            try rw [Exit.noGoto_ret]
            go_ret3
            rw [HE.out, rP]
            dsimp only
            rw [HP.out]
            exact ⟨rfl, hbel⟩
          · have hx2 : (57 : Int) < (x : Int) := by omega
            go_wp2
            try rw [Exit.noGoto_ret]
            go_ret3
            rw [HE.out, rP]
            dsimp only
            rw [HP.out]
            exact ⟨rfl, hbel⟩
    · obtain rfl : p = m := by omega
      have HE : Hid (Rs.dgR 0 0 (l.drop a) = .error 2) := by rw [Hid, HR.out, List.drop_eq_nil_of_le (by omega)]; rfl
      clear HR hbr hb hn
      go_wp2
      try rw [Exit.noGoto_ret]
      go_ret3
      rw [HE.out]
      exact ⟨rfl, hbel⟩
end Go.Proofs.YtkhfplpplmnjiabDoor
