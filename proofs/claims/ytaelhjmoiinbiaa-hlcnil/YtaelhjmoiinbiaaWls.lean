/-
  HlcWalls and HlcNil, the walks.
-/
import Derived.Test.YtaelhjmoiinbiaaTik
namespace Go.Proofs.Ytaelhjmoiinbiaa
open Go.RowKit

set_option maxHeartbeats 1000000 in
theorem walls_walk (x : Int) (w : World) :
    Calls Try.prog 6 #[.int .i64 x] w fun e w' => e = .returned (.bool true) ∧ Below w.heap.size w w' := by
  by_cases hin : 0 ≤ x ∧ x ≤ 1152921504606846975
  · obtain ⟨h0, h1⟩ := hin
    obtain ⟨q, hq⟩ : ∃ q, x / 65536 = q := ⟨_, rfl⟩
    obtain ⟨r, hr⟩ : ∃ r, x % 65536 = r := ⟨_, rfl⟩
    have hqr : 65536 * q + r = x := by omega
    have hq0 : 0 ≤ q := by omega
    have hr0 : 0 ≤ r := by omega
    have Hq : Hid (wlW x = q ∧ wlC x = r) := by obtain ⟨a, b⟩ := wl_in h0 h1; exact ⟨a.trans hq, b.trans hr⟩
    clear hq hr
    go_enter Try.func6, Try.ntmps6
    go_wp2_with fail
    refine (awake_any _).mono ?_
    rintro e w1 ⟨rfl, b1⟩
    go_wp2_with fail
    refine (wall_any x _).mono ?_
    rintro e w2 ⟨rfl, hw⟩
    obtain rfl := hw.symm
    clear hw
    rw [Hq.out.1, Hq.out.2]
    go_wp2_with fail
    refine (rwall_any x _).mono ?_
    rintro e w3 ⟨rfl, hw⟩
    obtain rfl := hw.symm
    clear hw
    rw [Hq.out.1, Hq.out.2]
    go_wp2
    go_ret
    exact ⟨rfl, b1⟩
  · have ho : x < 0 ∨ 1152921504606846975 < x := by omega
    obtain ⟨e1, e2⟩ := wl_out ho
    have H1 : Hid (wlW x = 0) := e1
    have H2 : Hid (wlC x = 0) := e2
    clear e1 e2 hin
    rcases ho with ho | ho
    · go_enter Try.func6, Try.ntmps6
      go_wp2_with fail
      refine (awake_any _).mono ?_
      rintro e w1 ⟨rfl, b1⟩
      go_wp2_with fail
      refine (wall_any x _).mono ?_
      rintro e w2 ⟨rfl, hw⟩
      obtain rfl := hw.symm
      clear hw
      rw [H1.out, H2.out]
      go_wp2_with fail
      refine (rwall_any x _).mono ?_
      rintro e w3 ⟨rfl, hw⟩
      obtain rfl := hw.symm
      clear hw
      rw [H1.out, H2.out]
      go_wp2
      go_ret
      exact ⟨rfl, b1⟩
    · go_enter Try.func6, Try.ntmps6
      go_wp2_with fail
      refine (awake_any _).mono ?_
      rintro e w1 ⟨rfl, b1⟩
      go_wp2_with fail
      refine (wall_any x _).mono ?_
      rintro e w2 ⟨rfl, hw⟩
      obtain rfl := hw.symm
      clear hw
      rw [H1.out, H2.out]
      go_wp2_with fail
      refine (rwall_any x _).mono ?_
      rintro e w3 ⟨rfl, hw⟩
      obtain rfl := hw.symm
      clear hw
      rw [H1.out, H2.out]
      go_wp2
      go_ret
      exact ⟨rfl, b1⟩

set_option maxHeartbeats 1000000 in
theorem nil_walk (x : Int) (w : World) :
    Calls Try.prog 7 #[.int .i64 x] w fun e w' => e = .returned (.bool true) ∧ Below w.heap.size w w' := by
  go_enter Try.func7, Try.ntmps7
  go_wp2_with fail
  refine (awake_any _).mono ?_
  rintro e w1 ⟨rfl, b1⟩
  go_wp2_with fail
  refine (see_nil x _).mono ?_
  rintro e w2 ⟨rfl, hw⟩
  obtain rfl := hw.symm
  clear hw
  go_wp2_with fail
  refine (tick_nil x _).mono ?_
  rintro e w3 ⟨rfl, hw⟩
  obtain rfl := hw.symm
  clear hw
  go_wp2_with fail
  refine (last_nil _).mono ?_
  rintro e w4 ⟨rfl, hw⟩
  obtain rfl := hw.symm
  clear hw
  have hk := clk_new w1 0
  have B2 : Hid (Below w.heap.size w (w1.alloc (.cells #[.int .i64 0] 44))) := b1.alloc b1.size _
  have g1 : Hid (w.heap.size ≤ w1.heap.size) := b1.size
  clear b1
  go_wp2_with fail
  refine (new_any 0 _).mono ?_
  rintro e w5 ⟨rfl, h5, -, b5⟩
  have hk5 := hk.below b5 hk.lt
  rw [show seen 0 0 = 0 by decide] at h5
  have hne : w1.heap.size ≠ (w1.alloc (.cells #[.int .i64 0] 44)).heap.size := Nat.ne_of_lt hk.lt
  have B5 : Hid (Below w.heap.size w w5) := B2.out.trans (b5.mono B2.out.size)
  have g5 : Hid (w.heap.size ≤ (w1.alloc (.cells #[.int .i64 0] 44)).heap.size) := B2.out.size
  clear hk b5 B2
  generalize (w1.alloc (.cells #[.int .i64 0] 44)).heap.size = g at *
  go_wp2_with fail
  refine (tick_any _ _ x _ hk5 (by decide) (by decide)).mono ?_
  rintro e w6 ⟨rfl, h6, t6⟩
  have h7 := h5.turned t6 hne.symm
  have B6 : Hid (Below w.heap.size w w6) := B5.out.trans (t6.below g1.out)
  clear hk5 h5 t6 B5
  go_wp2_with fail
  refine (tick_any _ _ x _ h7 (by decide) (by decide)).mono ?_
  rintro e w7 ⟨rfl, h8, t8⟩
  have h9 := h6.turned t8 hne
  have B7 : Hid (Below w.heap.size w w7) := B6.out.trans (t8.below g5.out)
  clear h6 h7 t8 B6
  generalize tkT 0 x = a at *
  generalize tkE 0 x = b at *
  generalize tkL 0 x = c at *
  go_wp2_with fail
  refine (last_any _ _ _ h9).mono ?_
  rintro e w8 ⟨rfl, hw⟩
  obtain rfl := hw.symm
  clear hw
  go_wp2_with fail
  refine (last_any _ _ _ h8).mono ?_
  rintro e w9 ⟨rfl, hw⟩
  obtain rfl := hw.symm
  clear hw
  go_wp2
  go_ret
  exact ⟨rfl, B7.out⟩
end Go.Proofs.Ytaelhjmoiinbiaa
