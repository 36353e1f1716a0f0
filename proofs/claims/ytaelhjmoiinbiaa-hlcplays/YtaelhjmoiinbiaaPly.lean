/-
  HlcPlays, the walk.
-/
import Derived.Test.YtaelhjmoiinbiaaOps
namespace Go.Proofs.Ytaelhjmoiinbiaa
open Go.RowKit

set_option maxHeartbeats 1000000 in
/-- Too many calls: nothing is asked. -/
theorem plays_many (at0 : Int) (a : Option Addr) (m c : Nat) (hm : 1000 < m) (w : World) :
    Calls Try.prog 3 #[.int .i64 at0, .slice a m c] w fun e w' => e = .returned (.bool true) ∧ Below w.heap.size w w' := by
  have hm' : (1000 : Int) < (m : Int) := by omega
  go_enter Try.func3, Try.ntmps3
  go_wp2_with fail
  refine (awake_any _).mono ?_
  rintro e w1 ⟨rfl, b1⟩
  go_wp2_with fail
  refine (awake_any _).mono ?_
  rintro e w2 ⟨rfl, b2⟩
  go_wp2
  go_ret
  exact ⟨rfl, b1.trans (b2.mono b1.size)⟩

set_option maxHeartbeats 1000000 in
theorem plays_few (at0 : Int) (a : Option Addr) (m c : Nat) (N : Nat → Int) (S : Nat → Bool) (w : World) (hm : m ≤ 1000) (hS : IsOps w a m N S) :
    Calls Try.prog 3 #[.int .i64 at0, .slice a m c] w fun e w' => e = .returned (.bool true) ∧ Below w.heap.size w w' := by
  have hm' : ¬ (1000 : Int) < (m : Int) := by omega
  go_enter Try.func3, Try.ntmps3
  go_wp2_with fail
  refine (awake_any _).mono ?_
  rintro e w1 ⟨rfl, b1⟩
  go_wp2_with fail
  refine (new_any at0 _).mono ?_
  rintro e w2 ⟨rfl, h2, -, b2⟩
  have B2 : Hid (Below w.heap.size w w2) := b1.trans (b2.mono b1.size)
  have g1 : Hid (w.heap.size ≤ w1.heap.size) := b1.size
  clear b1 b2
  generalize w1.heap.size = g at *
  go_wp2_with fail
  refine (rstart_any at0 _).mono ?_
  rintro e w3 ⟨rfl, hw⟩
  obtain rfl := hw.symm
  clear hw
  obtain ⟨s0, s1⟩ := seen_range (t := 0) (x := at0) (by decide) (by decide)
  generalize seen 0 at0 = t0 at *
  go_wp2_with fail
  go_loopw [6, 29] (fun l i wr => ∃ (k : Nat) (t : Int), k ≤ m ∧ i = .int .i64 (k : Int) ∧ l = .int .i64 t ∧ 0 ≤ t ∧ t ≤ 1152921504606846975 ∧ Clk wr g t ∧ Below w.heap.size w wr) (fun _ i _ => m - (intOf i).toNat)
  case atStart => exact ⟨0, t0, Nat.zero_le _, rfl, rfl, s0, s1, h2, B2.out⟩
  case round =>
    clear h2 B2 s0 s1
    obtain ⟨k, t, hk, rfl, rfl, t0', t1, hc, hB⟩ := hrel
    by_cases hkm : k < m
    · rcases hS with h0 | ⟨b, off, rfl, hlen, hb, hS⟩
      · omega
      obtain ⟨c0, c1, -⟩ := hS k hkm
      have d0 := (hB.cell (p := ⟨b, off + k * 2, none⟩) hb).trans c0
      have d1 := (hB.cell (p := ⟨b, off + k * 2 + 1, none⟩) hb).trans c1
      clear c0 c1 hS
      generalize N k = x at *
      generalize S k = s at *
      have hO := laidO wr x s
      have hc2 := hc.past (.cells (opc 0 false) 28) (opc x s)
      have B : Hid _ := Below.past hB hB.size (.cells (opc 0 false) 28) (opc x s)
      have hne : wr.heap.size ≠ g := (Nat.ne_of_lt hc.lt).symm
      clear hc hB
      have o0 := hO.cell0
      have o1 := hO.cell1
      rw [opc_zero] at o0 o1
      cases s with
      | true =>
        go_wp2_with (first | refine load_op rfl rfl rfl d0 d1 ?_ | refine store_op rfl rfl rfl rfl (liesO_new _) ?_)
        refine (see_any _ _ x _ hc2).mono ?_
        rintro e w4 ⟨rfl, h4, t4⟩
        have hO4 := hO.turned t4 hne
        have B4 : Hid (Below w.heap.size w w4) := B.out.trans (t4.below g1.out)
        have o4 := hO4.cell0
        obtain ⟨r0, r1⟩ := seen_range (t := t) (x := x) t0' t1
        clear o0 o1 hO hc2 B t4 hO4 d0 d1
        go_wp2_with fail
        refine (rsee_any t x _).mono ?_
        rintro e w5 ⟨rfl, hw⟩
        obtain rfl := hw.symm
        clear hw
        generalize seen t x = u at *
        go_wp2_with fail
        refine (last_any _ _ _ h4).mono ?_
        rintro e w6 ⟨rfl, hw⟩
        obtain rfl := hw.symm
        clear hw
        go_wp2
        go_roundw
        case rel => exact ⟨k + 1, u, by omega, by go_num, rfl, r0, r1, h4, B4.out⟩
        case measure => simp [intOf]; omega
      | false =>
        obtain ⟨r0, r1⟩ := tkL_range (x := x) t0' t1
        go_wp2_with (first | refine load_op rfl rfl rfl d0 d1 ?_ | refine store_op rfl rfl rfl rfl (liesO_new _) ?_)
        refine (tick_any _ _ x _ hc2 t0' t1).mono ?_
        rintro e w4 ⟨rfl, h4, t4⟩
        have hO4 := hO.turned t4 hne
        have B4 : Hid (Below w.heap.size w w4) := B.out.trans (t4.below g1.out)
        have o4 := hO4.cell0
        clear o0 o1 hO hc2 B t4 hO4 d0 d1
        go_wp2_with fail
        refine (rtick_any t x _ t0' t1).mono ?_
        rintro e w5 ⟨rfl, hw⟩
        obtain rfl := hw.symm
        clear hw
        have hT : Hid (tkE t x = 0 → tkT t x = tkL t x) := fun h => by rw [tkT, tkL, if_pos h, if_pos h]
        have hN : Hid (tkE t x ≠ 0 → t = tkL t x) := fun h => by rw [tkL, if_neg h]
        generalize tkE t x = z at *
        generalize tkT t x = u at *
        generalize tkL t x = v at *
        by_cases hz : z = 0
        · subst hz
          obtain rfl := hT.out rfl
          go_wp2_with fail
          refine (last_any _ _ _ h4).mono ?_
          rintro e w6 ⟨rfl, hw⟩
          obtain rfl := hw.symm
          clear hw
          go_wp2
          go_roundw
          case rel => exact ⟨k + 1, u, by omega, by go_num, rfl, r0, r1, h4, B4.out⟩
          case measure => simp [intOf]; omega
        · obtain rfl := hN.out hz
          go_wp2_with fail
          refine (last_any _ _ _ h4).mono ?_
          rintro e w6 ⟨rfl, hw⟩
          obtain rfl := hw.symm
          clear hw
          go_wp2
          go_roundw
          case rel => exact ⟨k + 1, t, by omega, by go_num, rfl, r0, r1, h4, B4.out⟩
          case measure => simp [intOf]; omega
    · obtain rfl : k = m := by omega
      go_wp2_with fail
      refine (last_any _ _ _ hc).mono ?_
      rintro e w4 ⟨rfl, hw⟩
      obtain rfl := hw.symm
      clear hw
      go_wp2
      go_ret
      exact ⟨rfl, hB⟩

theorem plays_walk (at0 : Int) (a : Option Addr) (m c : Nat) (N : Nat → Int) (S : Nat → Bool) (w : World) (hS : IsOps w a m N S) :
    Calls Try.prog 3 #[.int .i64 at0, .slice a m c] w fun e w' => e = .returned (.bool true) ∧ Below w.heap.size w w' := by
  by_cases hm : 1000 < m
  · exact plays_many at0 a m c hm w
  · exact plays_few at0 a m c N S w (by omega) hS
end Go.Proofs.Ytaelhjmoiinbiaa
