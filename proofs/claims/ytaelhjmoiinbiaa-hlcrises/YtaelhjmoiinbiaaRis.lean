/-
  HlcRises, the walk.
-/
import Derived.Test.YtaelhjmoiinbiaaOps
namespace Go.Proofs.Ytaelhjmoiinbiaa
open Go.RowKit

set_option maxHeartbeats 1000000 in
/-- Too many calls: nothing is asked. -/
theorem rises_many (at0 : Int) (a : Option Addr) (m c : Nat) (hm : 1000 < m) (w : World) :
    Calls Try.prog 4 #[.int .i64 at0, .slice a m c] w fun e w' => e = .returned (.bool true) ∧ Below w.heap.size w w' := by
  have hm' : (1000 : Int) < (m : Int) := by omega
  go_enter Try.func4, Try.ntmps4
  go_wp2_with fail
  refine (awake_any _).mono ?_
  rintro e w1 ⟨rfl, b1⟩
  go_wp2_with fail
  refine (awake_any _).mono ?_
  rintro e w2 ⟨rfl, b2⟩
  go_wp2
  go_ret
  exact ⟨rfl, b1.trans (b2.mono b1.size)⟩

/-- What a time that is given has to do with the last one and the wall. -/
theorem tick_rises {t x : Int} (t0 : 0 ≤ t) (t1 : t ≤ 1152921504606846975) (h : tkE t x = 0) :
    tkT t x = tkL t x ∧ t < tkL t x ∧ x ≤ wlW (tkL t x) ∧ (wlW t < x → wlW (tkL t x) = x ∧ wlC (tkL t x) = 0) := by
  obtain ⟨r0, r1⟩ := tkL_range (x := x) t0 t1
  obtain ⟨a1, a2⟩ := wl_in r0 r1
  obtain ⟨b1, b2⟩ := wl_in t0 t1
  rw [a1, a2, b1]
  by_cases ha : x < 0 ∨ 17592186044415 < x
  · rw [(tk_arg ha).1] at h; omega
  · by_cases ho : 1152921504606846975 < nxt t x
    · rw [(tk_over (by omega) (by omega) ho).1] at h; omega
    · obtain ⟨-, e2, e3⟩ := tk_ok (t := t) (x := x) (by omega) (by omega) (by omega)
      rw [e2, e3]
      unfold nxt
      refine ⟨rfl, ?_, ?_, fun h => ⟨?_, ?_⟩⟩ <;> omega

set_option maxRecDepth 100000 in
set_option maxHeartbeats 4000000 in
theorem rises_few (at0 : Int) (a : Option Addr) (m c : Nat) (N : Nat → Int) (S : Nat → Bool) (w : World) (hm : m ≤ 1000) (hS : IsOps w a m N S) :
    Calls Try.prog 4 #[.int .i64 at0, .slice a m c] w fun e w' => e = .returned (.bool true) ∧ Below w.heap.size w w' := by
  have hm' : ¬ (1000 : Int) < (m : Int) := by omega
  go_enter Try.func4, Try.ntmps4
  go_wp2_with fail
  refine (awake_any _).mono ?_
  rintro e w1 ⟨rfl, b1⟩
  go_wp2_with fail
  refine (new_any at0 _).mono ?_
  rintro e w2 ⟨rfl, h2, -, b2⟩
  have B2 : Hid (Below w.heap.size w w2) := b1.trans (b2.mono b1.size)
  have g1 : Hid (w.heap.size ≤ w1.heap.size) := b1.size
  clear b1 b2
  generalize w1.heap.size = g at *
  obtain ⟨s0, s1⟩ := seen_range (t := 0) (x := at0) (by decide) (by decide)
  generalize seen 0 at0 = t0 at *
  go_wp2_with fail
  refine (last_any _ _ _ h2).mono ?_
  rintro e w3 ⟨rfl, hw⟩
  obtain rfl := hw.symm
  clear hw
  go_wp2_with fail
  go_loopw [6, 31] (fun l i wr => ∃ (k : Nat) (t : Int), k ≤ m ∧ i = .int .i64 (k : Int) ∧ l = .int .i64 t ∧ 0 ≤ t ∧ t ≤ 1152921504606846975 ∧ Clk wr g t ∧ Below w.heap.size w wr) (fun _ i _ => m - (intOf i).toNat)
  case atStart => exact ⟨0, t0, Nat.zero_le _, rfl, rfl, s0, s1, h2, B2.out⟩
  case round =>
    clear h2 B2 s0 s1
    obtain ⟨k, t, hk, rfl, rfl, t0', t1, hc, hB⟩ := hrel
    by_cases hkm : k < m
    · rcases hS with h0 | ⟨b, off, rfl, hlen, hb, hS⟩
      · omega
      obtain ⟨c0, c1, -⟩ := hS k hkm
      have d0 := (hB.cell (p := ⟨b, off + k * 2, none⟩) hb).trans c0
      have d1 := (hB.cell (p := ⟨b, off + k * 2 + 1, none⟩) hb).trans c1
      clear c0 c1 hS
      generalize N k = x at *
      generalize S k = s at *
      have hO := laidO wr x s
      have hc2 := hc.past (.cells (opc 0 false) 28) (opc x s)
      have B : Hid _ := Below.past hB hB.size (.cells (opc 0 false) 28) (opc x s)
      have hne : wr.heap.size ≠ g := (Nat.ne_of_lt hc.lt).symm
      clear hc hB
      have o0 := hO.cell0
      have o1 := hO.cell1
      rw [opc_zero] at o0 o1
      cases s with
      | true =>
        go_wp2_with (first | refine load_op rfl rfl rfl d0 d1 ?_ | refine store_op rfl rfl rfl rfl (liesO_new _) ?_)
        refine (see_any _ _ x _ hc2).mono ?_
        rintro e w4 ⟨rfl, h4, t4⟩
        have hO4 := hO.turned t4 hne
        have B4 : Hid (Below w.heap.size w w4) := B.out.trans (t4.below g1.out)
        have o4 := hO4.cell0
        have Hr : Hid (∀ y, seen t x = y → Clk w4 g y ∧ 0 ≤ y ∧ y ≤ 1152921504606846975) := fun y hy => by
          obtain ⟨r0, r1⟩ := seen_range (t := t) (x := x) t0' t1
          rw [← hy]
          exact ⟨h4, r0, r1⟩
        clear o0 o1 hO hc2 B t4 hO4 d0 d1 h4 t0' t1 hne
        go_wp2
        all_goals
          go_roundw
          case rel =>
            refine ⟨k + 1, _, by omega, by go_num, rfl, ?_, ?_, ?_, B4.out⟩
            · exact (Hr.out _ (by unfold seen; omega)).2.1
            · exact (Hr.out _ (by unfold seen; omega)).2.2
            · exact (Hr.out _ (by unfold seen; omega)).1
          case measure => simp [intOf]; omega
      | false =>
        obtain ⟨r0, r1⟩ := tkL_range (x := x) t0' t1
        have Hz : Hid (tkE t x = 0 → _) := tick_rises (x := x) t0' t1
        have HN : Hid (tkE t x ≠ 0 → tkT t x = 0 ∧ tkL t x = t) := fun h => by rw [tkT, tkL, if_neg h, if_neg h]; exact ⟨rfl, rfl⟩
        go_wp2_with (first | refine load_op rfl rfl rfl d0 d1 ?_ | refine store_op rfl rfl rfl rfl (liesO_new _) ?_)
        refine (wall_any t _).mono ?_
        rintro e w3 ⟨rfl, hw⟩
        obtain rfl := hw.symm
        clear hw
        generalize wlW t = A at *
        generalize wlC t = A2 at *
        go_wp2_with fail
        refine (tick_any _ _ x _ hc2 t0' t1).mono ?_
        rintro e w4 ⟨rfl, h4, t4⟩
        have hO4 := hO.turned t4 hne
        have B4 : Hid (Below w.heap.size w w4) := B.out.trans (t4.below g1.out)
        have o4 := hO4.cell0
        clear o0 o1 hO hc2 B t4 hO4 d0 d1
        generalize tkE t x = z at *
        generalize tkT t x = u at *
        generalize tkL t x = v at *
        by_cases hz : z = 0
        · subst hz
          obtain ⟨e1, e2, e3, e4⟩ := Hz.out rfl
          clear Hz HN
          obtain rfl := e1
          have H4 : Hid _ := e4
          clear e4
          go_wp2_with fail
          refine (wall_any u _).mono ?_
          rintro e w5 ⟨rfl, hw⟩
          obtain rfl := hw.symm
          clear hw
          generalize wlW u = W at *
          generalize wlC u = C at *
          by_cases hA : A < x
          · obtain ⟨rfl, rfl⟩ := H4.out hA
            go_wp2
            go_roundw
            case rel => exact ⟨k + 1, u, by omega, by go_num, rfl, r0, r1, h4, B4.out⟩
            case measure => simp [intOf]; omega
          · go_wp2
            go_roundw
            case rel => exact ⟨k + 1, u, by omega, by go_num, rfl, r0, r1, h4, B4.out⟩
            case measure => simp [intOf]; omega
        · obtain ⟨rfl, rfl⟩ := HN.out hz
          clear Hz HN
          go_wp2_with fail
          refine (last_any _ _ _ h4).mono ?_
          rintro e w6 ⟨rfl, hw⟩
          obtain rfl := hw.symm
          clear hw
          go_wp2
          go_roundw
          case rel => exact ⟨k + 1, _, by omega, by go_num, rfl, r0, r1, h4, B4.out⟩
          case measure => simp [intOf]; omega
    · obtain rfl : k = m := by omega
      go_wp2_with fail
      refine (last_any _ _ _ hc).mono ?_
      rintro e w4 ⟨rfl, hw⟩
      obtain rfl := hw.symm
      clear hw
      go_wp2
      go_ret
      exact ⟨rfl, hB⟩

theorem rises_walk (at0 : Int) (a : Option Addr) (m c : Nat) (N : Nat → Int) (S : Nat → Bool) (w : World) (hS : IsOps w a m N S) :
    Calls Try.prog 4 #[.int .i64 at0, .slice a m c] w fun e w' => e = .returned (.bool true) ∧ Below w.heap.size w w' := by
  by_cases hm : 1000 < m
  · exact rises_many at0 a m c hm w
  · exact rises_few at0 a m c N S w (by omega) hS
end Go.Proofs.Ytaelhjmoiinbiaa
