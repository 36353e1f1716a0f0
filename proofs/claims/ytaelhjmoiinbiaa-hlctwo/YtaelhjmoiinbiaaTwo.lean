/-
  HlcTwo, the walk.
-/
import Derived.Test.YtaelhjmoiinbiaaOps
import Derived.BigQuiet
import Derived.Deep.RegionWith
namespace Go.Proofs.Ytaelhjmoiinbiaa
open Go.RowKit

/-- The list of the two clocks. -/
def Duo (w : World) (s p q : Nat) : Prop := w.heap[s]? = some (.cells #[.pointer (some ⟨p, 0, none⟩), .pointer (some ⟨q, 0, none⟩)] 24 (0, 0))
theorem Duo.cell0 {w : World} {s p q : Nat} (h : Duo w s p q) : w.cell? ⟨s, 0, none⟩ = some (.pointer (some ⟨p, 0, none⟩)) := cell_of_row w s 0 _ _ _ h
theorem Duo.cell1 {w : World} {s p q : Nat} (h : Duo w s p q) : w.cell? ⟨s, 1, none⟩ = some (.pointer (some ⟨q, 0, none⟩)) := cell_of_row w s 1 _ _ _ h
theorem Duo.turned {g s p q : Nat} {w w' : World} (h : Duo w s p q) (ht : Turns g w w') (hk : s ≠ g) : Duo w' s p q := by
  rw [Duo, ht.block s hk]; exact h
theorem duo_new (w : World) (p q : Nat) : Duo (w.alloc (.cells #[.pointer (some ⟨p, 0, none⟩), .pointer (some ⟨q, 0, none⟩)] 24)) w.heap.size p q := heap_alloc_new w _

theorem tick_above (t x : Int) : (tkE t x = 0 ∧ tkT t x = tkL t x ∧ t < tkL t x) ∨ (tkE t x ≠ 0 ∧ tkL t x = t) := by
  by_cases ha : x < 0 ∨ 17592186044415 < x
  · obtain ⟨e1, -, e3⟩ := tk_arg (t := t) ha
    rw [e1, e3]; exact .inr ⟨by decide, rfl⟩
  · by_cases ho : 1152921504606846975 < nxt t x
    · obtain ⟨e1, -, e3⟩ := tk_over (by omega) (by omega) ho
      rw [e1, e3]; exact .inr ⟨by decide, rfl⟩
    · obtain ⟨e1, e2, e3⟩ := tk_ok (t := t) (x := x) (by omega) (by omega) (by omega)
      rw [e1, e2, e3]
      exact .inl ⟨rfl, rfl, by unfold nxt; omega⟩
theorem seen_above (t x : Int) (h : x ≤ 1152921504606846975) : x ≤ seen t x := by unfold seen; omega

set_option maxRecDepth 100000 in
set_option maxHeartbeats 4000000 in
theorem two_few (x0 x1 : Int) (a : Option Addr) (m c : Nat) (N : Nat → Int) (w : World) (hm : m ≤ 1000) (hS : IsInts w a m N) :
    Calls Try.prog 5 #[.int .i64 x0, .int .i64 x1, .slice a m c] w fun e w' => e = .returned (.bool true) ∧ Below w.heap.size w w' := by
  have hm' : ¬ (1000 : Int) < (m : Int) := by omega
  go_enter Try.func5, Try.ntmps5
  go_wp2_with fail
  refine (awake_any _).mono ?_
  rintro e w1 ⟨rfl, b1⟩
  go_wp2_with fail
  refine (new_any x0 _).mono ?_
  rintro e w2 ⟨rfl, h2, l2, b2⟩
  obtain ⟨r0, r1⟩ := seen_range (t := 0) (x := x0) (by decide) (by decide)
  generalize seen 0 x0 = t0 at *
  go_wp2_with fail
  refine (new_any x1 _).mono ?_
  rintro e w3 ⟨rfl, h3, l3, b3⟩
  obtain ⟨s0, s1⟩ := seen_range (t := 0) (x := x1) (by decide) (by decide)
  generalize seen 0 x1 = t1 at *
  have hA := h2.below b3 l2
  have B3 : Hid (Below w.heap.size w w3) := (b1.trans (b2.mono b1.size)).trans (b3.mono (b1.trans (b2.mono b1.size)).size)
  have g0 : Hid (w.heap.size ≤ w1.heap.size) := b1.size
  have g1 : Hid (w1.heap.size < w2.heap.size) := l2
  have g2 : Hid (w2.heap.size < w3.heap.size) := l3
  clear b1 b2 b3 h2 l2 l3
  generalize w1.heap.size = p at *
  generalize w2.heap.size = q at *
  have hD := duo_new w3 p q
  have hA4 := hA.alloc (.cells #[.pointer (some ⟨p, 0, none⟩), .pointer (some ⟨q, 0, none⟩)] 24)
  have hB4 := h3.alloc (.cells #[.pointer (some ⟨p, 0, none⟩), .pointer (some ⟨q, 0, none⟩)] 24)
  have B4 : Hid _ := B3.out.alloc B3.out.size (.cells #[.pointer (some ⟨p, 0, none⟩), .pointer (some ⟨q, 0, none⟩)] 24)
  have g3 : Hid (w.heap.size ≤ q) := Nat.le_trans g0.out (Nat.le_of_lt g1.out)
  clear hA h3 B3
  go_wp2_with fail
  have hp : Hid (w3.heap.size ≠ p) := Nat.ne_of_gt (Nat.lt_trans g1.out g2.out)
  have hq : Hid (w3.heap.size ≠ q) := Nat.ne_of_gt g2.out
  have hpq : Hid (p ≠ q) := Nat.ne_of_lt g1.out
  clear g1 g2
  go_loopw [8, 37] (fun l i wr => ∃ (k : Nat) (z u v : Int), k ≤ m ∧ i = .int .i64 (k : Int) ∧ l = .int .i64 z ∧ z ≤ u ∧ z ≤ v ∧ 0 ≤ u ∧ u ≤ 1152921504606846975 ∧ 0 ≤ v ∧ v ≤ 1152921504606846975 ∧ Clk wr p u ∧ Clk wr q v ∧ Duo wr w3.heap.size p q ∧ Below w.heap.size w wr) (fun _ i _ => m - (intOf i).toNat)
  case atStart => exact ⟨0, -1, t0, t1, Nat.zero_le _, rfl, rfl, by omega, by omega, r0, r1, s0, s1, hA4, hB4, hD, B4.out⟩
  case round =>
    obtain ⟨k, z, u, v, hk, rfl, rfl, zu, zv, u0, u1, v0, v1, hP, hQ, hD', hB⟩ := hrel
    clear hD hA4 hB4 B4 r0 r1 s0 s1
    generalize w3.heap.size = s at *
    by_cases hkm : k < m
    · rcases hS with h0 | ⟨b, off, rfl, hlen, hb, hS⟩
      · omega
      obtain ⟨c0, -⟩ := hS k hkm
      have d0 := (hB.cell (p := ⟨b, off + k, none⟩) hb).trans c0
      clear c0 hS
      generalize N k = x at *
      have e0 := hD'.cell0
      have e1 := hD'.cell1
      rcases (by omega : (k : Int) % 2 = 0 ∨ (k : Int) % 2 = 1) with hr | hr
      · have hr' : (k : Int).tmod 2 = 0 := by rw [Int.tmod_eq_emod_of_nonneg (by omega)]; exact hr
        have ht : Hid (∀ W, Clk W p u → _) := fun W h => tick_any p u x W h u0 u1
        have hab := tick_above u x
        obtain ⟨l0, l1⟩ := tkL_range (x := x) u0 u1
        have hM' : Clk wr.drew p u := hP
        have hO' : Clk wr.drew q v := hQ
        have hDr : Duo wr.drew s p q := hD'
        have Br : Hid (Below w.heap.size w wr.drew) := hB.drew
        clear hP hQ hD' hB
        generalize tkE u x = E at *
        generalize tkT u x = T at *
        generalize tkL u x = L at *
        rcases hab with ⟨rfl, rfl, hL⟩ | ⟨hz, rfl⟩
        · go_wp2_with fail
          go_region_with (go_at_call 13; refine Calls.mono (ht.out wr.drew hM') ?_; rintro e w4 ⟨rfl, h4, t4⟩)
          all_goals
            have hD4 := hDr.turned t4 hp.out
            have h5 := hO'.turned t4 hpq.out.symm
            have B5 : Hid (Below w.heap.size w w4) := Br.out.trans (t4.below g0.out)
            have e4 := hD4.cell1
            clear e0 e1 hM' hO' hDr Br t4 d0 ht
            go_wp2_with fail
            refine (see_any q v T _ h5).mono ?_
            rintro e w6 ⟨rfl, h6, t6⟩
            have h7 := h4.turned t6 hpq.out
            have hD7 := hD4.turned t6 hq.out
            have B7 : Hid (Below w.heap.size w w6) := B5.out.trans (t6.below g3.out)
            obtain ⟨q0, q1⟩ := seen_range (t := v) (x := T) v0 v1
            have q2 := seen_above v T l1
            generalize seen v T = y at *
            clear h4 h5 hD4 B5 e4 t6
            go_wp2
            go_roundw
            case rel => exact ⟨k + 1, T, T, y, by omega, by go_num, rfl, by omega, by omega, l0, l1, q0, q1, h7, h6, hD7, B7.out⟩
            case measure => simp [intOf]; omega
        · go_wp2_with fail
          go_region_with (go_at_call 13; refine Calls.mono (ht.out wr.drew hM') ?_; rintro e w4 ⟨rfl, h4, t4⟩)
          all_goals
            have hD4 := hDr.turned t4 hp.out
            have h5 := hO'.turned t4 hpq.out.symm
            have B5 : Hid (Below w.heap.size w w4) := Br.out.trans (t4.below g0.out)
            clear e0 e1 hM' hO' hDr Br t4 d0 ht
            go_wp2
            go_roundw
            case rel => exact ⟨k + 1, z, _, _, by omega, by go_num, rfl, zu, zv, u0, u1, v0, v1, h4, h5, hD4, B5.out⟩
            case measure => simp [intOf]; omega
      · have hr' : (k : Int).tmod 2 = 1 := by rw [Int.tmod_eq_emod_of_nonneg (by omega)]; exact hr
        have ht : Hid (∀ W, Clk W q v → _) := fun W h => tick_any q v x W h v0 v1
        have hab := tick_above v x
        obtain ⟨l0, l1⟩ := tkL_range (x := x) v0 v1
        have hM' : Clk wr.drew q v := hQ
        have hO' : Clk wr.drew p u := hP
        have hDr : Duo wr.drew s p q := hD'
        have Br : Hid (Below w.heap.size w wr.drew) := hB.drew
        clear hP hQ hD' hB
        generalize tkE v x = E at *
        generalize tkT v x = T at *
        generalize tkL v x = L at *
        rcases hab with ⟨rfl, rfl, hL⟩ | ⟨hz, rfl⟩
        · go_wp2_with fail
          go_region_with (go_at_call 13; refine Calls.mono (ht.out wr.drew hM') ?_; rintro e w4 ⟨rfl, h4, t4⟩)
          all_goals
            have hD4 := hDr.turned t4 hq.out
            have h5 := hO'.turned t4 hpq.out.symm.symm
            have B5 : Hid (Below w.heap.size w w4) := Br.out.trans (t4.below g3.out)
            have e4 := hD4.cell0
            clear e0 e1 hM' hO' hDr Br t4 d0 ht
            go_wp2_with fail
            refine (see_any p u T _ h5).mono ?_
            rintro e w6 ⟨rfl, h6, t6⟩
            have h7 := h4.turned t6 hpq.out.symm
            have hD7 := hD4.turned t6 hp.out
            have B7 : Hid (Below w.heap.size w w6) := B5.out.trans (t6.below g0.out)
            obtain ⟨q0, q1⟩ := seen_range (t := u) (x := T) u0 u1
            have q2 := seen_above u T l1
            generalize seen u T = y at *
            clear h4 h5 hD4 B5 e4 t6
            go_wp2
            go_roundw
            case rel => exact ⟨k + 1, T, y, T, by omega, by go_num, rfl, by omega, by omega, q0, q1, l0, l1, h6, h7, hD7, B7.out⟩
            case measure => simp [intOf]; omega
        · go_wp2_with fail
          go_region_with (go_at_call 13; refine Calls.mono (ht.out wr.drew hM') ?_; rintro e w4 ⟨rfl, h4, t4⟩)
          all_goals
            have hD4 := hDr.turned t4 hq.out
            have h5 := hO'.turned t4 hpq.out.symm.symm
            have B5 : Hid (Below w.heap.size w w4) := Br.out.trans (t4.below g3.out)
            clear e0 e1 hM' hO' hDr Br t4 d0 ht
            go_wp2
            go_roundw
            case rel => exact ⟨k + 1, z, _, _, by omega, by go_num, rfl, zu, zv, u0, u1, v0, v1, h5, h4, hD4, B5.out⟩
            case measure => simp [intOf]; omega
    · obtain rfl : k = m := by omega
      go_wp2
      go_ret
      exact ⟨rfl, hB⟩

set_option maxHeartbeats 1000000 in
/-- Too many walls: nothing is asked. -/
theorem two_many (x0 x1 : Int) (a : Option Addr) (m c : Nat) (hm : 1000 < m) (w : World) :
    Calls Try.prog 5 #[.int .i64 x0, .int .i64 x1, .slice a m c] w fun e w' => e = .returned (.bool true) ∧ Below w.heap.size w w' := by
  have hm' : (1000 : Int) < (m : Int) := by omega
  go_enter Try.func5, Try.ntmps5
  go_wp2_with fail
  refine (awake_any _).mono ?_
  rintro e w1 ⟨rfl, b1⟩
  go_wp2_with fail
  refine (awake_any _).mono ?_
  rintro e w2 ⟨rfl, b2⟩
  go_wp2
  go_ret
  exact ⟨rfl, b1.trans (b2.mono b1.size)⟩

theorem two_walk (x0 x1 : Int) (a : Option Addr) (m c : Nat) (N : Nat → Int) (w : World) (hS : IsInts w a m N) :
    Calls Try.prog 5 #[.int .i64 x0, .int .i64 x1, .slice a m c] w fun e w' => e = .returned (.bool true) ∧ Below w.heap.size w w' := by
  by_cases hm : 1000 < m
  · exact two_many x0 x1 a m c hm w
  · exact two_few x0 x1 a m c N w (by omega) hS
end Go.Proofs.Ytaelhjmoiinbiaa
