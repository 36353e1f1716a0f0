/-
  What the reference's count comes to.
-/
import Derived.Test.YtkhfplpplmnjiaaDoorArg
namespace Go.Proofs.YtkhfplpplmnjiaaDoor
set_option maxRecDepth 100000
open Go.RowKit

/-- The reference's number of an error. -/
def rx (e : Nat) : Nat := if e = 2 then 1 else e
theorem sget (s : ByteArray) (k : Nat) (h : k < s.size) : s[k] = s.data.toList.getD k 0 := by
  have h' : k < s.data.toList.length := by rw [Array.length_toList]; exact h
  rw [List.getD, List.getElem?_eq_getElem h', Option.getD_some, Array.getElem_toList]; rfl
theorem nat_ne {x : UInt8} {k : Nat} (y : UInt8) (hy : y.toNat = k) (h : x ≠ y) : ((x.toNat : Int) == (k : Int)) = false := by
  rw [← hy]; exact u8_ne h

set_option maxHeartbeats 4000000 in
theorem rcount_any (s : ByteArray) (l : List UInt8) (hl : s.data.toList = l) (n : Nat) (hn : s.size = n) (a : Nat) (sg : UInt8) (lo hi : Nat) (w : World) (ha : a ≤ n) (hm : n ≤ 1048576) :
    Calls Tryd.prog 31 #[.string s, .int .i64 (a : Int), .int .u8 (sg.toNat : Int), .int .i64 (lo : Int), .int .i64 (hi : Int)] w fun e w' => e = .returned (.tuple #[.int .i64 (rN (Rs.cntR sg lo hi (l.drop a)) : Int), .int .i64 (rP a (Rs.cntR sg lo hi (l.drop a)) : Int), .int .i64 (rx (rE (Rs.cntR sg lo hi (l.drop a))) : Int)]) ∧ Below w.heap.size w w' := by
  have hlen : l.length = n := by rw [← hl, Array.length_toList]; exact hn
  have hget : ∀ k (h : k < s.size), s[k] = l.getD k 0 := fun k h => by rw [← hl]; exact sget s k h
  by_cases hend : a = n
  · have hE : Rs.cntR sg lo hi (l.drop a) = .error 2 := by rw [List.drop_eq_nil_of_le (by omega)]; rfl
    rw [hE]
    have hend' : (n : Int) ≤ (a : Int) := by omega
    clear hget
    go_enter Tryd.func31, Tryd.ntmps31
    go_wp2
    go_ret3
    exact ⟨rfl, Below.refl _ _⟩
  have hend' : ¬ (n : Int) ≤ (a : Int) := by omega
  have hda := drop_cons l a (by omega)
  have hga := hget a (by omega)
  by_cases hsg : l.getD a 0 = sg
  · have hE : Hid (Rs.cntR sg lo hi (l.drop a) = Rs.dcR 0 0 lo hi (l.drop (a + 1))) := by rw [Hid, hda, hsg, Rs.cnt_dc]
    have has : a < s.size := by omega
    have hx : (((s[a]'has).toNat : Int) == (sg.toNat : Int)) = true := by rw [hga, hsg, beq_self_eq_true]
    have Hget : Hid _ := hget
    have Hlen : Hid _ := hlen
    have hlt : (a : Int) < (n : Int) := by omega
    have Hl : Hid _ := hl
    clear hget hda hga hsg hlen hl
    go_enter Tryd.func31, Tryd.ntmps31
    go_wp2_with fail
    go_loopw [13, 14] (fun v i wr => ∃ p q : Nat, a + 1 ≤ p ∧ p ≤ n ∧ p - (a + 1) ≤ 6 ∧ q < 10 ^ (p - (a + 1)) ∧ i = .int .i64 (p : Int) ∧ v = .int .i64 (q : Int) ∧ Hid (Rs.cntR sg lo hi (l.drop a) = Rs.dcR (p - (a + 1)) q lo hi (l.drop p)) ∧ Below w.heap.size w wr) (fun _ i _ => n - (intOf i).toNat)
    case atStart => exact ⟨a + 1, 0, Nat.le_refl _, by omega, by omega, by simp, by go_num, rfl, by rw [Nat.sub_self]; exact hE, Below.refl _ _⟩
    case round =>
      obtain ⟨p, q, hap, hpm, hp6, hq, rfl, rfl, HR, hbel⟩ := hrel
      have hq6 := pow_small hp6 hq
      clear hE
      by_cases hpn : p < n
      · have hps : p < s.size := by omega
        have hpi : (p : Int) < (n : Int) := by omega
        have hld := drop_cons l p (by rw [Hlen.out]; exact hpn)
        have hgp := Hget.out p hps
        by_cases h13 : l.getD p 0 = 13
        · have hc13 : (((s[p]'hps).toNat : Int) == 13) = true := by rw [hgp, h13]; rfl
          rw [h13] at hld
          by_cases h0 : p = a + 1
          · have HE : Hid (Rs.cntR sg lo hi (l.drop a) = .error 3) := by rw [Hid, HR.out, hld, show p - (a + 1) = 0 by omega, Rs.dc_none _ _ _ _ _ (by decide)]
            have h0' : ((p : Int) == (a : Int) + 1) = true := by rw [beq_iff_eq]; omega
            clear hld hgp HR h13 hq h0
            go_wp2
            go_ret3
            rw [HE.out]
            exact ⟨rfl, hbel⟩
          have h0' : ((p : Int) == (a : Int) + 1) = false := by rw [beq_eq_false_iff_ne]; omega
          by_cases h1 : p + 1 < n
          · have h1' : ¬ (n : Int) ≤ (p : Int) + 1 := by omega
            have h1s : p + 1 < s.size := by omega
            have hld1 := drop_cons l (p + 1) (by rw [Hlen.out]; exact h1)
            have hg1 := Hget.out (p + 1) h1s
            by_cases h10 : l.getD (p + 1) 0 = 10
            · have hc10 : (((s[p + 1]'h1s).toNat : Int) == 10) = true := by rw [hg1, h10]; rfl
              have HX : Hid (Rs.cntR sg lo hi (l.drop a) = if q < lo ∨ hi < q then .error 4 else .ok (q, p - (a + 1) + 3)) := by
                rw [Hid, HR.out, hld, hld1, h10, Rs.dc_lf _ _ _ _ (by omega)]
              clear hld hgp HR h13 hq hld1 hg1 h10
              by_cases hlo : q < lo
              · have HE : Hid (Rs.cntR sg lo hi (l.drop a) = .error 4) := by rw [Hid, HX.out, if_pos (.inl hlo)]
                have hlo' : (q : Int) < (lo : Int) := by omega
                go_wp2
                go_ret3
                rw [HE.out]
                exact ⟨rfl, hbel⟩
              have hlo' : ¬ (q : Int) < (lo : Int) := by omega
              by_cases hhi : hi < q
              · have HE : Hid (Rs.cntR sg lo hi (l.drop a) = .error 4) := by rw [Hid, HX.out, if_pos (.inr hhi)]
                have hhi' : (hi : Int) < (q : Int) := by omega
                go_wp2
                go_ret3
                rw [HE.out]
                exact ⟨rfl, hbel⟩
              have hhi' : ¬ (hi : Int) < (q : Int) := by omega
              have HE : Hid (Rs.cntR sg lo hi (l.drop a) = .ok (q, p - (a + 1) + 3)) := by rw [Hid, HX.out, if_neg (by omega)]
              have HP : Hid (a + (p - (a + 1) + 3) = p + 2) := by rw [Hid]; omega
              go_wp2
              go_ret3
              rw [HE.out, rP]
              dsimp only
              rw [HP.out]
              exact ⟨by rfl, hbel⟩
            · have hc10 : (((s[p + 1]'h1s).toNat : Int) == 10) = false := by rw [hg1]; exact nat_ne 10 (by decide) h10
              have HE : Hid (Rs.cntR sg lo hi (l.drop a) = .error 3) := by
                rw [Hid, HR.out, hld, hld1, Rs.dc_no _ _ _ _ (by omega) _ _ h10]
              clear hld hgp HR h13 hq hld1 hg1 h10
              go_wp2
              go_ret3
              rw [HE.out]
              exact ⟨rfl, hbel⟩
          · have h1' : (n : Int) ≤ (p : Int) + 1 := by omega
            have HE : Hid (Rs.cntR sg lo hi (l.drop a) = .error 2) := by
              rw [Hid, HR.out, hld, List.drop_eq_nil_of_le (show l.length ≤ p + 1 by rw [Hlen.out]; omega), Rs.dc_cr _ _ _ _ (by omega)]
            clear hld hgp HR h13 hq
            go_wp2
            go_ret3
            rw [HE.out]
            exact ⟨rfl, hbel⟩
        · have hc13 : (((s[p]'hps).toNat : Int) == 13) = false := by rw [hgp]; exact nat_ne 13 (by decide) h13
          by_cases hdig : Rs.isDig (l.getD p 0) = true
          · have hxd : 48 ≤ (s[p]'hps).toNat ∧ (s[p]'hps).toNat ≤ 57 := by rw [hgp]; simpa [Rs.isDig] using hdig
            have hx1 : ¬ ((s[p]'hps).toNat : Int) < 48 := by omega
            have hx2 : ¬ (57 : Int) < ((s[p]'hps).toNat : Int) := by omega
            by_cases hbad : p - (a + 1) = 6 ∨ (0 < p - (a + 1) ∧ q = 0)
            · have HE : Hid (Rs.cntR sg lo hi (l.drop a) = .error 3) := by rw [Hid, HR.out, hld, Rs.dc_many _ _ _ _ _ _ hdig hbad]
              clear hld hgp HR h13 hq hdig
              by_cases h7 : 0 < p - (a + 1) ∧ q = 0
              · obtain ⟨h7, rfl⟩ := h7
                have h7' : (a : Int) + 1 < (p : Int) := by omega
                go_wp2
                go_ret3
                rw [HE.out]
                exact ⟨rfl, hbel⟩
              · have h6 : p - (a + 1) = 6 := hbad.resolve_right h7
                have h6' : (6 : Int) < (p : Int) - (a : Int) := by omega
                have h7' : (a : Int) + 1 < (p : Int) := by omega
                have h8 : ((q : Int) == 0) = false := by rw [beq_eq_false_iff_ne]; omega
                go_wp2
                go_ret3
                rw [HE.out]
                exact ⟨rfl, hbel⟩
            · have HN : Hid (Rs.cntR sg lo hi (l.drop a) = Rs.dcR (p + 1 - (a + 1)) (10 * q + ((s[p]'hps).toNat - 48)) lo hi (l.drop (p + 1))) := by
                rw [Hid, HR.out, hld, Rs.dc_dig _ _ _ _ _ _ hdig hbad, show p + 1 - (a + 1) = p - (a + 1) + 1 by omega, hgp]
              have HP : Hid (10 * q + ((s[p]'hps).toNat - 48) < 10 ^ (p + 1 - (a + 1))) := by
                rw [Hid, show p + 1 - (a + 1) = p - (a + 1) + 1 by omega, Nat.pow_succ]; omega
              have h6' : ¬ (6 : Int) < (p : Int) - (a : Int) := by omega
              have H6 : Hid (p + 1 - (a + 1) ≤ 6) := by rw [Hid]; omega
              clear hld hgp HR h13 hq hdig
              by_cases h7 : a + 1 < p
              · have h7' : (a : Int) + 1 < (p : Int) := by omega
                have h8 : ((q : Int) == 0) = false := by rw [beq_eq_false_iff_ne]; omega
                clear hbad
                go_wp2
                go_roundw
                case rel => exact ⟨p + 1, 10 * q + ((s[p]'hps).toNat - 48), by omega, by omega, H6.out, HP.out, by go_num, by go_num, HN, hbel⟩
                case measure => simp [intOf]; omega
              · have h7' : ¬ (a : Int) + 1 < (p : Int) := by omega
                clear hbad
                go_wp2
                go_roundw
                case rel => exact ⟨p + 1, 10 * q + ((s[p]'hps).toNat - 48), by omega, by omega, H6.out, HP.out, by go_num, by go_num, HN, hbel⟩
                case measure => simp [intOf]; omega
          · have hxd : ¬ (48 ≤ (s[p]'hps).toNat ∧ (s[p]'hps).toNat ≤ 57) := by rw [hgp]; simpa [Rs.isDig] using hdig
            have HE : Hid (Rs.cntR sg lo hi (l.drop a) = .error 3) := by rw [Hid, HR.out, hld, Rs.dc_bad _ _ _ _ _ _ (by simpa using hdig) h13]
            clear hld hgp HR h13 hq hdig
            by_cases hx1 : ((s[p]'hps).toNat : Int) < 48
            · go_wp2
              go_ret3
              rw [HE.out]
              exact ⟨rfl, hbel⟩
            · have hx2 : (57 : Int) < ((s[p]'hps).toNat : Int) := by omega
              go_wp2
              go_ret3
              rw [HE.out]
              exact ⟨rfl, hbel⟩
      · have hpi : ¬ (p : Int) < (n : Int) := by omega
        have hpi2 : (n : Int) ≤ (p : Int) := by omega
        have HE : Hid (Rs.cntR sg lo hi (l.drop a) = .error 2) := by rw [Hid, HR.out, List.drop_eq_nil_of_le (by rw [Hlen.out]; omega), Rs.dc_nil]
        clear HR hq
        go_wp2
        go_ret3
        rw [HE.out]
        exact ⟨rfl, hbel⟩
  · have hE : Rs.cntR sg lo hi (l.drop a) = .error 3 := by rw [hda, Rs.cnt_bad _ _ _ _ _ hsg]
    rw [hE]
    have hx := u8_ne hsg
    rw [hga.symm] at hx
    clear hget hda hga
    have hlt : (a : Int) < (n : Int) := by omega
    have has : a < s.size := by omega
    go_enter Tryd.func31, Tryd.ntmps31
    go_wp2
    go_ret3
    exact ⟨rfl, Below.refl _ _⟩
end Go.Proofs.YtkhfplpplmnjiaaDoor
