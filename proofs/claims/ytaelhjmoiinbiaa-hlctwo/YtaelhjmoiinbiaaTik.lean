/-
  What Tick and Wall come to, and the reference's; and the statements' first call, awake.
-/
import Derived.Test.YtaelhjmoiinbiaaClk
namespace Go.Proofs.Ytaelhjmoiinbiaa
open Go.RowKit

/-- The time that comes next. -/
def nxt (t x : Int) : Int := max t (65536 * x - 1) + 1
/-- Tick's error, its answer, and where the clock stands behind it. -/
def tkE (t x : Int) : Int := if x < 0 ∨ 17592186044415 < x then 1 else if 1152921504606846975 < nxt t x then 6 else 0
def tkT (t x : Int) : Int := if tkE t x = 0 then nxt t x else 0
def tkL (t x : Int) : Int := if tkE t x = 0 then nxt t x else t

theorem tk_arg {t x : Int} (h : x < 0 ∨ 17592186044415 < x) : tkE t x = 1 ∧ tkT t x = 0 ∧ tkL t x = t := by
  have e : tkE t x = 1 := by rw [tkE, if_pos h]
  rw [tkT, tkL, e]; simp
theorem tk_over {t x : Int} (h0 : 0 ≤ x) (h1 : x ≤ 17592186044415) (h : 1152921504606846975 < nxt t x) : tkE t x = 6 ∧ tkT t x = 0 ∧ tkL t x = t := by
  have e : tkE t x = 6 := by rw [tkE, if_neg (by omega), if_pos h]
  rw [tkT, tkL, e]; simp
theorem tk_ok {t x : Int} (h0 : 0 ≤ x) (h1 : x ≤ 17592186044415) (h : nxt t x ≤ 1152921504606846975) : tkE t x = 0 ∧ tkT t x = nxt t x ∧ tkL t x = nxt t x := by
  have e : tkE t x = 0 := by rw [tkE, if_neg (by omega), if_neg (by omega)]
  rw [tkT, tkL, e]; simp
theorem tkL_range {t x : Int} (t0 : 0 ≤ t) (t1 : t ≤ 1152921504606846975) : 0 ≤ tkL t x ∧ tkL t x ≤ 1152921504606846975 := by
  by_cases ha : x < 0 ∨ 17592186044415 < x
  · rw [(tk_arg ha).2.2]; exact ⟨t0, t1⟩
  · by_cases ho : 1152921504606846975 < nxt t x
    · rw [(tk_over (by omega) (by omega) ho).2.2]; exact ⟨t0, t1⟩
    · rw [(tk_ok (by omega) (by omega) (by omega)).2.2]
      unfold nxt at *
      omega
theorem seen_range {t x : Int} (t0 : 0 ≤ t) (t1 : t ≤ 1152921504606846975) : 0 ≤ seen t x ∧ seen t x ≤ 1152921504606846975 := by
  unfold seen; omega

set_option maxHeartbeats 1000000 in
theorem tick_any (g : Nat) (t x : Int) (w : World) (h : Clk w g t) (t0 : 0 ≤ t) (t1 : t ≤ 1152921504606846975) :
    Calls Try.prog 13 #[.pointer (some ⟨g, 0, none⟩), .int .i64 x] w fun e w' => e = .returned (.tuple #[.int .i64 (tkT t x), .int .i64 (tkE t x)]) ∧ Clk w' g (tkL t x) ∧ Turns g w w' := by
  have hc := h.cell
  have hf := h.frozen
  by_cases hneg : x < 0
  · obtain ⟨e1, e2, e3⟩ := tk_arg (t := t) (.inl hneg)
    rw [e1, e2, e3]
    clear e1 e2 e3
    go_enter Try.func13, Try.ntmps13
    go_wp2
    go_ret2
    exact ⟨rfl, h, Turns.refl _ _⟩
  · by_cases hbig : 17592186044415 < x
    · obtain ⟨e1, e2, e3⟩ := tk_arg (t := t) (.inr hbig)
      rw [e1, e2, e3]
      clear e1 e2 e3
      go_enter Try.func13, Try.ntmps13
      go_wp2
      go_ret2
      exact ⟨rfl, h, Turns.refl _ _⟩
    · by_cases hl : t < 65536 * x - 1
      · obtain ⟨e1, e2, e3⟩ := tk_ok (t := t) (x := x) (by omega) (by omega) (by unfold nxt; omega)
        rw [e1, e2, e3]
        clear e1 e2 e3
        have e : nxt t x = 65536 * x - 1 + 1 := by unfold nxt; omega
        rw [e]
        clear e
        have H : Hid (∀ y : Int, Clk (w.setCell ⟨g, 0, none⟩ (.int .i64 y)) g y) := fun y => h.set y
        clear h
        go_enter Try.func13, Try.ntmps13
        go_wp2
        go_ret2
        exact ⟨rfl, H.out _, Turns.set w g _⟩
      · have e : nxt t x = t + 1 := by unfold nxt; omega
        by_cases ht : t = 1152921504606846975
        · subst ht
          obtain ⟨e1, e2, e3⟩ := tk_over (t := 1152921504606846975) (x := x) (by omega) (by omega) (by omega)
          rw [e1, e2, e3]
          clear e1 e2 e3 e
          go_enter Try.func13, Try.ntmps13
          go_wp2
          go_ret2
          exact ⟨rfl, h, Turns.refl _ _⟩
        · obtain ⟨e1, e2, e3⟩ := tk_ok (t := t) (x := x) (by omega) (by omega) (by omega)
          rw [e1, e2, e3, e]
          clear e1 e2 e3 e
          have H : Hid (∀ y : Int, Clk (w.setCell ⟨g, 0, none⟩ (.int .i64 y)) g y) := fun y => h.set y
          clear h
          go_enter Try.func13, Try.ntmps13
          go_wp2
          go_ret2
          exact ⟨rfl, H.out _, Turns.set w g _⟩

set_option maxHeartbeats 400000 in
theorem tick_nil (x : Int) (w : World) :
    Calls Try.prog 13 #[.pointer none, .int .i64 x] w fun e w' => e = .returned (.tuple #[.int .i64 0, .int .i64 1]) ∧ w' = w := by
  go_enter Try.func13, Try.ntmps13
  go_wp2
  go_ret2
  exact ⟨rfl, rfl⟩

set_option maxHeartbeats 1000000 in
theorem rtick_any (t x : Int) (w : World) (t0 : 0 ≤ t) (t1 : t ≤ 1152921504606846975) :
    Calls Try.prog 14 #[.int .i64 t, .int .i64 x] w fun e w' => e = .returned (.tuple #[.int .i64 (tkT t x), .int .i64 (tkE t x)]) ∧ w' = w := by
  by_cases hneg : x < 0
  · obtain ⟨e1, e2, -⟩ := tk_arg (t := t) (.inl hneg)
    rw [e1, e2]
    clear e1 e2
    go_enter Try.func14, Try.ntmps14
    go_wp2
    go_ret2
    exact ⟨rfl, rfl⟩
  · by_cases hbig : 17592186044415 < x
    · obtain ⟨e1, e2, -⟩ := tk_arg (t := t) (.inr hbig)
      rw [e1, e2]
      clear e1 e2
      go_enter Try.func14, Try.ntmps14
      go_wp2
      go_ret2
      exact ⟨rfl, rfl⟩
    · by_cases hl : t + 1 < 65536 * x
      · obtain ⟨e1, e2, -⟩ := tk_ok (t := t) (x := x) (by omega) (by omega) (by unfold nxt; omega)
        rw [e1, e2]
        clear e1 e2
        have e : nxt t x = 65536 * x := by unfold nxt; omega
        rw [e]
        clear e
        go_enter Try.func14, Try.ntmps14
        go_wp2
        go_ret2
        exact ⟨rfl, rfl⟩
      · have e : nxt t x = t + 1 := by unfold nxt; omega
        by_cases ht : t = 1152921504606846975
        · subst ht
          obtain ⟨e1, e2, -⟩ := tk_over (t := 1152921504606846975) (x := x) (by omega) (by omega) (by omega)
          rw [e1, e2]
          clear e1 e2 e
          go_enter Try.func14, Try.ntmps14
          go_wp2
          go_ret2
          exact ⟨rfl, rfl⟩
        · obtain ⟨e1, e2, -⟩ := tk_ok (t := t) (x := x) (by omega) (by omega) (by omega)
          rw [e1, e2, e]
          clear e1 e2 e
          go_enter Try.func14, Try.ntmps14
          go_wp2
          go_ret2
          exact ⟨rfl, rfl⟩

/-- A number's wall and count. -/
def isT (x : Int) : Bool := decide (0 ≤ x ∧ x ≤ 1152921504606846975)
def wlW (x : Int) : Int := if isT x then x / 65536 else 0
def wlC (x : Int) : Int := if isT x then x % 65536 else 0
theorem wl_in {x : Int} (h0 : 0 ≤ x) (h1 : x ≤ 1152921504606846975) : wlW x = x / 65536 ∧ wlC x = x % 65536 := by
  have e : isT x = true := decide_eq_true ⟨h0, h1⟩
  rw [wlW, wlC, e]; exact ⟨rfl, rfl⟩
theorem wl_out {x : Int} (h : x < 0 ∨ 1152921504606846975 < x) : wlW x = 0 ∧ wlC x = 0 := by
  have e : isT x = false := decide_eq_false (by omega)
  rw [wlW, wlC, e]; exact ⟨rfl, rfl⟩

set_option maxHeartbeats 400000 in
theorem wall_any (x : Int) (w : World) :
    Calls Try.prog 16 #[.int .i64 x] w fun e w' => e = .returned (.tuple #[.int .i64 (wlW x), .int .i64 (wlC x)]) ∧ w' = w := by
  by_cases hneg : x < 0
  · obtain ⟨e1, e2⟩ := wl_out (.inl hneg)
    rw [e1, e2]
    clear e1 e2
    go_enter Try.func16, Try.ntmps16
    go_wp2
    go_ret2
    exact ⟨rfl, rfl⟩
  · by_cases hbig : 1152921504606846975 < x
    · obtain ⟨e1, e2⟩ := wl_out (.inr hbig)
      rw [e1, e2]
      clear e1 e2
      go_enter Try.func16, Try.ntmps16
      go_wp2
      go_ret2
      exact ⟨rfl, rfl⟩
    · obtain ⟨e1, e2⟩ := wl_in (x := x) (by omega) (by omega)
      rw [e1, e2]
      clear e1 e2
      go_enter Try.func16, Try.ntmps16
      go_wp2
      go_ret2
      exact ⟨rfl, rfl⟩

set_option maxHeartbeats 400000 in
theorem rwall_any (x : Int) (w : World) :
    Calls Try.prog 17 #[.int .i64 x] w fun e w' => e = .returned (.tuple #[.int .i64 (wlW x), .int .i64 (wlC x)]) ∧ w' = w := by
  by_cases hneg : x < 0
  · obtain ⟨e1, e2⟩ := wl_out (.inl hneg)
    rw [e1, e2]
    clear e1 e2
    go_enter Try.func17, Try.ntmps17
    go_wp2
    go_ret2
    exact ⟨rfl, rfl⟩
  · by_cases hbig : 1152921504606846975 < x
    · obtain ⟨e1, e2⟩ := wl_out (.inr hbig)
      rw [e1, e2]
      clear e1 e2
      go_enter Try.func17, Try.ntmps17
      go_wp2
      go_ret2
      exact ⟨rfl, rfl⟩
    · obtain ⟨e1, e2⟩ := wl_in (x := x) (by omega) (by omega)
      rw [e1, e2]
      clear e1 e2
      go_enter Try.func17, Try.ntmps17
      go_wp2
      go_ret2
      exact ⟨rfl, rfl⟩

set_option maxHeartbeats 400000 in
theorem awake_any (w : World) : Calls Try.prog 8 #[] w fun e w' => e = .returned (.bool true) ∧ Below w.heap.size w w' := by
  go_enter Try.func8, Try.ntmps8
  go_wp2_with fail
  refine (new_any 0 _).mono ?_
  rintro e w1 ⟨rfl, h1, -, b1⟩
  go_wp2_with fail
  refine (tick_any _ _ 5 _ h1 (by decide) (by decide)).mono ?_
  rintro e w2 ⟨rfl, h2, t2⟩
  rw [show tkT (seen 0 0) 5 = 327680 by decide, show tkE (seen 0 0) 5 = 0 by decide]
  clear h1 h2
  go_wp2
  go_ret
  exact ⟨rfl, b1.trans (t2.below (Nat.le_refl _))⟩
end Go.Proofs.Ytaelhjmoiinbiaa
