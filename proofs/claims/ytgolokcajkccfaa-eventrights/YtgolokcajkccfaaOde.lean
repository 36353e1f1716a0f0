/-
  EventOrders: of two events with unlike dots just one is later; and what is later than a later one is later.
-/
import Derived.Test.YtgolokcajkccfaaAwe
namespace Go.Proofs.Ytgolokcajkccfaa
open Go.RowKit

theorem enters_later (xs : Array Value) (w : World) : (callFunc 16 xs).run Try.prog w = .ok (.enter 16 xs) w := enters Try.func16 (by kernel_rfl) (by kernel_rfl) xs w
theorem later_iff (b a : Ev) : laterE b a = true ↔ a.t < b.t ∨ (a.t = b.t ∧ (a.r < b.r ∨ (a.r = b.r ∧ a.n < b.n))) := by
  unfold laterE
  split
  · rw [decide_eq_true_iff]; omega
  · split <;> rw [decide_eq_true_iff] <;> omega
theorem later_self (a : Ev) : laterE a a = false := by
  rw [Bool.eq_false_iff, ne_eq, later_iff]; omega
theorem later_trans {a b c : Ev} (h1 : laterE b a = true) (h2 : laterE c b = true) : laterE c a = true := by
  rw [later_iff] at *; omega
theorem later_both {a b : Ev} (h1 : laterE b a = true) (h2 : laterE a b = true) : False := by
  rw [later_iff] at *; omega
theorem later_none {a b : Ev} (h1 : laterE b a = false) (h2 : laterE a b = false) : a.r = b.r ∧ a.n = b.n := by
  rw [Bool.eq_false_iff, ne_eq, later_iff] at *; omega

theorem boxedEEE (w : World) (a b c : Ev) :
    LiesE (((w.alloc (.cells (evc a) 29)).alloc (.cells (evc b) 29)).alloc (.cells (evc c) 29)) w.heap.size a ∧
    LiesE (((w.alloc (.cells (evc a) 29)).alloc (.cells (evc b) 29)).alloc (.cells (evc c) 29)) (w.heap.size + 1) b ∧
    LiesE (((w.alloc (.cells (evc a) 29)).alloc (.cells (evc b) 29)).alloc (.cells (evc c) 29)) (w.heap.size + 1 + 1) c ∧
    Below w.heap.size w (((w.alloc (.cells (evc a) 29)).alloc (.cells (evc b) 29)).alloc (.cells (evc c) 29)) := by
  refine ⟨((liesE_new w a).alloc _).alloc _, ?_, ?_, (((Below.refl _ _).alloc (Nat.le_refl _) _).alloc (by simp) _).alloc (by simp; omega) _⟩
  · have := (liesE_new (w.alloc (.cells (evc a) 29)) b).alloc (.cells (evc c) 29)
    simpa using this
  · have := liesE_new ((w.alloc (.cells (evc a) 29)).alloc (.cells (evc b) 29)) c
    simpa using this

set_option maxHeartbeats 1000000 in
theorem orders_TFtrue (a b c : Ev) (la : a.deps.length = 16) (lb : b.deps.length = 16) (lc : c.deps.length = 16) (hx : Hid (laterE b a = true)) (hy : Hid (laterE a b = false)) (hd : decide (a.r = b.r ∧ a.n = b.n) = true) (w : World) :
    Calls Try.prog 8 #[.agg (evc a), .agg (evc b), .agg (evc c)] w fun e w' => e = .returned (.bool true) ∧ Below w.heap.size w w' := by
  obtain ⟨hA, hB, hC, hb0⟩ := boxedEEE w a b c
  have H0 : Hid (Below w.heap.size w (((w.alloc (.cells (evc a) 29)).alloc (.cells (evc b) 29)).alloc (.cells (evc c) 29))) := hb0
  have he := fun W : World => run_equalIn_dot W 9998 a.r a.n b.r b.n
  rw [hd] at he
  have hp := plain_dot
  clear hb0 hd
  go_enter Try.func8, Try.ntmps8
  go_wp2_with fail
  refine (awake_any _).mono ?_
  rintro e w1 ⟨rfl, hb1⟩
  have hA1 := hA.below hb1 hA.lt
  have hB1 := hB.below hb1 hB.lt
  have hC1 := hC.below hb1 hC.lt
  have H1 : Hid (Below w.heap.size w w1) := H0.out.trans (hb1.mono H0.out.size)
  clear hA hB hC hb1 H0
  go_wp2_with fail
  refine region_vals [11, 12, 13, 14, 15, 16, 7, 8] [.agg (evc (b)), .agg (evc (a)), .bool true, .agg (evc (a)), .agg (evc (b)), .bool false, .bool true, .bool false] _ (by kernel_rfl) (by kernel_rfl) (by rfl) (by decide) (by kernel_rfl) (by simp only [lay, Act.put, List.setIfInBounds_toArray, List.set_cons_zero, List.set_cons_succ, List.getD_cons_zero, List.getD_cons_succ, Nat.reduceAdd]; rfl) ⟨?_, ?_, ?_, ?_, ?_, ?_, ?_, ?_, trivial⟩ ?_
  · exact .inl ⟨rfl, fun W hb => yields_load rfl rfl (load_ev_run ((hB1).below hb (hB1).lt) lb)⟩
  · exact .inl ⟨rfl, fun W hb => yields_load rfl rfl (load_ev_run ((hA1).below hb (hA1).lt) la)⟩
  · exact .inl ⟨rfl, fun W hb => yields_call (vs := [.agg (evc (b)), .agg (evc (a))]) (v := .bool true) rfl rfl (enters_later _ _) (okcall (later_any _ _ W) hx.out)⟩
  · exact .inl ⟨rfl, fun W hb => yields_load rfl rfl (load_ev_run ((hA1).below hb (hA1).lt) la)⟩
  · exact .inl ⟨rfl, fun W hb => yields_load rfl rfl (load_ev_run ((hB1).below hb (hB1).lt) lb)⟩
  · exact .inl ⟨rfl, fun W hb => yields_call (vs := [.agg (evc (a)), .agg (evc (b))]) (v := .bool false) rfl rfl (enters_later _ _) (okcall (later_any _ _ W) hy.out)⟩
  · exact .inl ⟨rfl, fun W hb => yields_assign rfl rfl⟩
  · exact .inl ⟨rfl, fun W hb => yields_assign rfl rfl⟩
  intro w2 hb2
  have hA2 := hA1.below hb2 hA1.lt
  have hB2 := hB1.below hb2 hB1.lt
  have hC2 := hC1.below hb2 hC1.lt
  have H2 : Hid (Below w.heap.size w w2) := H1.out.trans (hb2.mono H1.out.size)
  clear hA1 hB1 hC1 hb2 H1
  have da := hA2.dot
  have db := hB2.dot
  go_wp2_with (first | refine load_dot_at rfl rfl rfl da ?_ | refine load_dot_at rfl rfl rfl db ?_ | refine load_ev rfl rfl rfl hA2 la ?_)
  refine (later_any a a _).mono ?_
  rintro e w3 ⟨rfl, hb3⟩
  have hA3 := hA2.below hb3 hA2.lt
  have hB3 := hB2.below hb3 hB2.lt
  have hC3 := hC2.below hb3 hC2.lt
  have H3 : Hid (Below w.heap.size w w3) := H2.out.trans (hb3.mono H2.out.size)
  clear hA2 hB2 hC2 hb3 H2 da db
  rw [later_self]
  go_wp2_with (first | refine load_ev rfl rfl rfl hC3 lc ?_ | refine load_ev rfl rfl rfl hB3 lb ?_)
  refine (later_any c b _).mono ?_
  rintro e w4 ⟨rfl, hb4⟩
  have hA4 := hA3.below hb4 hA3.lt
  have hC4 := hC3.below hb4 hC3.lt
  have H4 : Hid (Below w.heap.size w w4) := H3.out.trans (hb4.mono H3.out.size)
  clear hA3 hB3 hC3 hb4 H3
  rcases Bool.eq_false_or_eq_true (laterE c b) with hz | hz
  · have hw := later_trans hx.out hz
    rw [hz]
    clear hz
    go_wp2_with (first | refine load_ev rfl rfl rfl hC4 lc ?_ | refine load_ev rfl rfl rfl hA4 la ?_)
    refine (later_any c a _).mono ?_
    rintro e w5 ⟨rfl, hb5⟩
    have H5 : Hid (Below w.heap.size w w5) := H4.out.trans (hb5.mono H4.out.size)
    rw [hw]
    clear hA4 hC4 hb5 H4 hw
    go_wp2
    go_ret
    exact ⟨rfl, H5.out⟩
  · rw [hz]
    clear hz
    go_wp2
    go_ret
    exact ⟨rfl, H4.out⟩

set_option maxHeartbeats 1000000 in
theorem orders_TFfalse (a b c : Ev) (la : a.deps.length = 16) (lb : b.deps.length = 16) (lc : c.deps.length = 16) (hx : Hid (laterE b a = true)) (hy : Hid (laterE a b = false)) (hd : decide (a.r = b.r ∧ a.n = b.n) = false) (w : World) :
    Calls Try.prog 8 #[.agg (evc a), .agg (evc b), .agg (evc c)] w fun e w' => e = .returned (.bool true) ∧ Below w.heap.size w w' := by
  obtain ⟨hA, hB, hC, hb0⟩ := boxedEEE w a b c
  have H0 : Hid (Below w.heap.size w (((w.alloc (.cells (evc a) 29)).alloc (.cells (evc b) 29)).alloc (.cells (evc c) 29))) := hb0
  have he := fun W : World => run_equalIn_dot W 9998 a.r a.n b.r b.n
  rw [hd] at he
  have hp := plain_dot
  clear hb0 hd
  go_enter Try.func8, Try.ntmps8
  go_wp2_with fail
  refine (awake_any _).mono ?_
  rintro e w1 ⟨rfl, hb1⟩
  have hA1 := hA.below hb1 hA.lt
  have hB1 := hB.below hb1 hB.lt
  have hC1 := hC.below hb1 hC.lt
  have H1 : Hid (Below w.heap.size w w1) := H0.out.trans (hb1.mono H0.out.size)
  clear hA hB hC hb1 H0
  go_wp2_with fail
  refine region_vals [11, 12, 13, 14, 15, 16, 7, 8] [.agg (evc (b)), .agg (evc (a)), .bool true, .agg (evc (a)), .agg (evc (b)), .bool false, .bool true, .bool false] _ (by kernel_rfl) (by kernel_rfl) (by rfl) (by decide) (by kernel_rfl) (by simp only [lay, Act.put, List.setIfInBounds_toArray, List.set_cons_zero, List.set_cons_succ, List.getD_cons_zero, List.getD_cons_succ, Nat.reduceAdd]; rfl) ⟨?_, ?_, ?_, ?_, ?_, ?_, ?_, ?_, trivial⟩ ?_
  · exact .inl ⟨rfl, fun W hb => yields_load rfl rfl (load_ev_run ((hB1).below hb (hB1).lt) lb)⟩
  · exact .inl ⟨rfl, fun W hb => yields_load rfl rfl (load_ev_run ((hA1).below hb (hA1).lt) la)⟩
  · exact .inl ⟨rfl, fun W hb => yields_call (vs := [.agg (evc (b)), .agg (evc (a))]) (v := .bool true) rfl rfl (enters_later _ _) (okcall (later_any _ _ W) hx.out)⟩
  · exact .inl ⟨rfl, fun W hb => yields_load rfl rfl (load_ev_run ((hA1).below hb (hA1).lt) la)⟩
  · exact .inl ⟨rfl, fun W hb => yields_load rfl rfl (load_ev_run ((hB1).below hb (hB1).lt) lb)⟩
  · exact .inl ⟨rfl, fun W hb => yields_call (vs := [.agg (evc (a)), .agg (evc (b))]) (v := .bool false) rfl rfl (enters_later _ _) (okcall (later_any _ _ W) hy.out)⟩
  · exact .inl ⟨rfl, fun W hb => yields_assign rfl rfl⟩
  · exact .inl ⟨rfl, fun W hb => yields_assign rfl rfl⟩
  intro w2 hb2
  have hA2 := hA1.below hb2 hA1.lt
  have hB2 := hB1.below hb2 hB1.lt
  have hC2 := hC1.below hb2 hC1.lt
  have H2 : Hid (Below w.heap.size w w2) := H1.out.trans (hb2.mono H1.out.size)
  clear hA1 hB1 hC1 hb2 H1
  have da := hA2.dot
  have db := hB2.dot
  go_wp2_with (first | refine load_dot_at rfl rfl rfl da ?_ | refine load_dot_at rfl rfl rfl db ?_ | refine load_ev rfl rfl rfl hA2 la ?_)
  refine (later_any a a _).mono ?_
  rintro e w3 ⟨rfl, hb3⟩
  have hA3 := hA2.below hb3 hA2.lt
  have hB3 := hB2.below hb3 hB2.lt
  have hC3 := hC2.below hb3 hC2.lt
  have H3 : Hid (Below w.heap.size w w3) := H2.out.trans (hb3.mono H2.out.size)
  clear hA2 hB2 hC2 hb3 H2 da db
  rw [later_self]
  go_wp2_with (first | refine load_ev rfl rfl rfl hC3 lc ?_ | refine load_ev rfl rfl rfl hB3 lb ?_)
  refine (later_any c b _).mono ?_
  rintro e w4 ⟨rfl, hb4⟩
  have hA4 := hA3.below hb4 hA3.lt
  have hC4 := hC3.below hb4 hC3.lt
  have H4 : Hid (Below w.heap.size w w4) := H3.out.trans (hb4.mono H3.out.size)
  clear hA3 hB3 hC3 hb4 H3
  rcases Bool.eq_false_or_eq_true (laterE c b) with hz | hz
  · have hw := later_trans hx.out hz
    rw [hz]
    clear hz
    go_wp2_with (first | refine load_ev rfl rfl rfl hC4 lc ?_ | refine load_ev rfl rfl rfl hA4 la ?_)
    refine (later_any c a _).mono ?_
    rintro e w5 ⟨rfl, hb5⟩
    have H5 : Hid (Below w.heap.size w w5) := H4.out.trans (hb5.mono H4.out.size)
    rw [hw]
    clear hA4 hC4 hb5 H4 hw
    go_wp2
    go_ret
    exact ⟨rfl, H5.out⟩
  · rw [hz]
    clear hz
    go_wp2
    go_ret
    exact ⟨rfl, H4.out⟩

set_option maxHeartbeats 1000000 in
theorem orders_FTtrue (a b c : Ev) (la : a.deps.length = 16) (lb : b.deps.length = 16) (_lc : c.deps.length = 16) (hx : Hid (laterE b a = false)) (hy : Hid (laterE a b = true)) (hd : decide (a.r = b.r ∧ a.n = b.n) = true) (w : World) :
    Calls Try.prog 8 #[.agg (evc a), .agg (evc b), .agg (evc c)] w fun e w' => e = .returned (.bool true) ∧ Below w.heap.size w w' := by
  obtain ⟨hA, hB, hC, hb0⟩ := boxedEEE w a b c
  have H0 : Hid (Below w.heap.size w (((w.alloc (.cells (evc a) 29)).alloc (.cells (evc b) 29)).alloc (.cells (evc c) 29))) := hb0
  have he := fun W : World => run_equalIn_dot W 9998 a.r a.n b.r b.n
  rw [hd] at he
  have hp := plain_dot
  clear hb0 hd
  go_enter Try.func8, Try.ntmps8
  go_wp2_with fail
  refine (awake_any _).mono ?_
  rintro e w1 ⟨rfl, hb1⟩
  have hA1 := hA.below hb1 hA.lt
  have hB1 := hB.below hb1 hB.lt
  have hC1 := hC.below hb1 hC.lt
  have H1 : Hid (Below w.heap.size w w1) := H0.out.trans (hb1.mono H0.out.size)
  clear hA hB hC hb1 H0
  go_wp2_with fail
  refine region_vals [11, 12, 13, 14, 15, 16, 7, 8] [.agg (evc (b)), .agg (evc (a)), .bool false, .agg (evc (a)), .agg (evc (b)), .bool true, .bool false, .bool true] _ (by kernel_rfl) (by kernel_rfl) (by rfl) (by decide) (by kernel_rfl) (by simp only [lay, Act.put, List.setIfInBounds_toArray, List.set_cons_zero, List.set_cons_succ, List.getD_cons_zero, List.getD_cons_succ, Nat.reduceAdd]; rfl) ⟨?_, ?_, ?_, ?_, ?_, ?_, ?_, ?_, trivial⟩ ?_
  · exact .inl ⟨rfl, fun W hb => yields_load rfl rfl (load_ev_run ((hB1).below hb (hB1).lt) lb)⟩
  · exact .inl ⟨rfl, fun W hb => yields_load rfl rfl (load_ev_run ((hA1).below hb (hA1).lt) la)⟩
  · exact .inl ⟨rfl, fun W hb => yields_call (vs := [.agg (evc (b)), .agg (evc (a))]) (v := .bool false) rfl rfl (enters_later _ _) (okcall (later_any _ _ W) hx.out)⟩
  · exact .inl ⟨rfl, fun W hb => yields_load rfl rfl (load_ev_run ((hA1).below hb (hA1).lt) la)⟩
  · exact .inl ⟨rfl, fun W hb => yields_load rfl rfl (load_ev_run ((hB1).below hb (hB1).lt) lb)⟩
  · exact .inl ⟨rfl, fun W hb => yields_call (vs := [.agg (evc (a)), .agg (evc (b))]) (v := .bool true) rfl rfl (enters_later _ _) (okcall (later_any _ _ W) hy.out)⟩
  · exact .inl ⟨rfl, fun W hb => yields_assign rfl rfl⟩
  · exact .inl ⟨rfl, fun W hb => yields_assign rfl rfl⟩
  intro w2 hb2
  have hA2 := hA1.below hb2 hA1.lt
  have hB2 := hB1.below hb2 hB1.lt
  have hC2 := hC1.below hb2 hC1.lt
  have H2 : Hid (Below w.heap.size w w2) := H1.out.trans (hb2.mono H1.out.size)
  clear hA1 hB1 hC1 hb2 H1
  have da := hA2.dot
  have db := hB2.dot
  go_wp2_with (first | refine load_dot_at rfl rfl rfl da ?_ | refine load_dot_at rfl rfl rfl db ?_ | refine load_ev rfl rfl rfl hA2 la ?_)
  refine (later_any a a _).mono ?_
  rintro e w3 ⟨rfl, hb3⟩
  have hA3 := hA2.below hb3 hA2.lt
  have hB3 := hB2.below hb3 hB2.lt
  have hC3 := hC2.below hb3 hC2.lt
  have H3 : Hid (Below w.heap.size w w3) := H2.out.trans (hb3.mono H2.out.size)
  clear hA2 hB2 hC2 hb3 H2 da db
  rw [later_self]
  go_wp2
  go_ret
  exact ⟨rfl, H3.out⟩

set_option maxHeartbeats 1000000 in
theorem orders_FTfalse (a b c : Ev) (la : a.deps.length = 16) (lb : b.deps.length = 16) (_lc : c.deps.length = 16) (hx : Hid (laterE b a = false)) (hy : Hid (laterE a b = true)) (hd : decide (a.r = b.r ∧ a.n = b.n) = false) (w : World) :
    Calls Try.prog 8 #[.agg (evc a), .agg (evc b), .agg (evc c)] w fun e w' => e = .returned (.bool true) ∧ Below w.heap.size w w' := by
  obtain ⟨hA, hB, hC, hb0⟩ := boxedEEE w a b c
  have H0 : Hid (Below w.heap.size w (((w.alloc (.cells (evc a) 29)).alloc (.cells (evc b) 29)).alloc (.cells (evc c) 29))) := hb0
  have he := fun W : World => run_equalIn_dot W 9998 a.r a.n b.r b.n
  rw [hd] at he
  have hp := plain_dot
  clear hb0 hd
  go_enter Try.func8, Try.ntmps8
  go_wp2_with fail
  refine (awake_any _).mono ?_
  rintro e w1 ⟨rfl, hb1⟩
  have hA1 := hA.below hb1 hA.lt
  have hB1 := hB.below hb1 hB.lt
  have hC1 := hC.below hb1 hC.lt
  have H1 : Hid (Below w.heap.size w w1) := H0.out.trans (hb1.mono H0.out.size)
  clear hA hB hC hb1 H0
  go_wp2_with fail
  refine region_vals [11, 12, 13, 14, 15, 16, 7, 8] [.agg (evc (b)), .agg (evc (a)), .bool false, .agg (evc (a)), .agg (evc (b)), .bool true, .bool false, .bool true] _ (by kernel_rfl) (by kernel_rfl) (by rfl) (by decide) (by kernel_rfl) (by simp only [lay, Act.put, List.setIfInBounds_toArray, List.set_cons_zero, List.set_cons_succ, List.getD_cons_zero, List.getD_cons_succ, Nat.reduceAdd]; rfl) ⟨?_, ?_, ?_, ?_, ?_, ?_, ?_, ?_, trivial⟩ ?_
  · exact .inl ⟨rfl, fun W hb => yields_load rfl rfl (load_ev_run ((hB1).below hb (hB1).lt) lb)⟩
  · exact .inl ⟨rfl, fun W hb => yields_load rfl rfl (load_ev_run ((hA1).below hb (hA1).lt) la)⟩
  · exact .inl ⟨rfl, fun W hb => yields_call (vs := [.agg (evc (b)), .agg (evc (a))]) (v := .bool false) rfl rfl (enters_later _ _) (okcall (later_any _ _ W) hx.out)⟩
  · exact .inl ⟨rfl, fun W hb => yields_load rfl rfl (load_ev_run ((hA1).below hb (hA1).lt) la)⟩
  · exact .inl ⟨rfl, fun W hb => yields_load rfl rfl (load_ev_run ((hB1).below hb (hB1).lt) lb)⟩
  · exact .inl ⟨rfl, fun W hb => yields_call (vs := [.agg (evc (a)), .agg (evc (b))]) (v := .bool true) rfl rfl (enters_later _ _) (okcall (later_any _ _ W) hy.out)⟩
  · exact .inl ⟨rfl, fun W hb => yields_assign rfl rfl⟩
  · exact .inl ⟨rfl, fun W hb => yields_assign rfl rfl⟩
  intro w2 hb2
  have hA2 := hA1.below hb2 hA1.lt
  have hB2 := hB1.below hb2 hB1.lt
  have hC2 := hC1.below hb2 hC1.lt
  have H2 : Hid (Below w.heap.size w w2) := H1.out.trans (hb2.mono H1.out.size)
  clear hA1 hB1 hC1 hb2 H1
  have da := hA2.dot
  have db := hB2.dot
  go_wp2_with (first | refine load_dot_at rfl rfl rfl da ?_ | refine load_dot_at rfl rfl rfl db ?_ | refine load_ev rfl rfl rfl hA2 la ?_)
  refine (later_any a a _).mono ?_
  rintro e w3 ⟨rfl, hb3⟩
  have hA3 := hA2.below hb3 hA2.lt
  have hB3 := hB2.below hb3 hB2.lt
  have hC3 := hC2.below hb3 hC2.lt
  have H3 : Hid (Below w.heap.size w w3) := H2.out.trans (hb3.mono H2.out.size)
  clear hA2 hB2 hC2 hb3 H2 da db
  rw [later_self]
  go_wp2
  go_ret
  exact ⟨rfl, H3.out⟩

set_option maxHeartbeats 1000000 in
theorem orders_FFtrue (a b c : Ev) (la : a.deps.length = 16) (lb : b.deps.length = 16) (_lc : c.deps.length = 16) (hx : Hid (laterE b a = false)) (hy : Hid (laterE a b = false)) (hd : decide (a.r = b.r ∧ a.n = b.n) = true) (w : World) :
    Calls Try.prog 8 #[.agg (evc a), .agg (evc b), .agg (evc c)] w fun e w' => e = .returned (.bool true) ∧ Below w.heap.size w w' := by
  obtain ⟨hA, hB, hC, hb0⟩ := boxedEEE w a b c
  have H0 : Hid (Below w.heap.size w (((w.alloc (.cells (evc a) 29)).alloc (.cells (evc b) 29)).alloc (.cells (evc c) 29))) := hb0
  have he := fun W : World => run_equalIn_dot W 9998 a.r a.n b.r b.n
  rw [hd] at he
  have hp := plain_dot
  clear hb0 hd
  go_enter Try.func8, Try.ntmps8
  go_wp2_with fail
  refine (awake_any _).mono ?_
  rintro e w1 ⟨rfl, hb1⟩
  have hA1 := hA.below hb1 hA.lt
  have hB1 := hB.below hb1 hB.lt
  have hC1 := hC.below hb1 hC.lt
  have H1 : Hid (Below w.heap.size w w1) := H0.out.trans (hb1.mono H0.out.size)
  clear hA hB hC hb1 H0
  go_wp2_with fail
  refine region_vals [11, 12, 13, 14, 15, 16, 7, 8] [.agg (evc (b)), .agg (evc (a)), .bool false, .agg (evc (a)), .agg (evc (b)), .bool false, .bool false, .bool false] _ (by kernel_rfl) (by kernel_rfl) (by rfl) (by decide) (by kernel_rfl) (by simp only [lay, Act.put, List.setIfInBounds_toArray, List.set_cons_zero, List.set_cons_succ, List.getD_cons_zero, List.getD_cons_succ, Nat.reduceAdd]; rfl) ⟨?_, ?_, ?_, ?_, ?_, ?_, ?_, ?_, trivial⟩ ?_
  · exact .inl ⟨rfl, fun W hb => yields_load rfl rfl (load_ev_run ((hB1).below hb (hB1).lt) lb)⟩
  · exact .inl ⟨rfl, fun W hb => yields_load rfl rfl (load_ev_run ((hA1).below hb (hA1).lt) la)⟩
  · exact .inl ⟨rfl, fun W hb => yields_call (vs := [.agg (evc (b)), .agg (evc (a))]) (v := .bool false) rfl rfl (enters_later _ _) (okcall (later_any _ _ W) hx.out)⟩
  · exact .inl ⟨rfl, fun W hb => yields_load rfl rfl (load_ev_run ((hA1).below hb (hA1).lt) la)⟩
  · exact .inl ⟨rfl, fun W hb => yields_load rfl rfl (load_ev_run ((hB1).below hb (hB1).lt) lb)⟩
  · exact .inl ⟨rfl, fun W hb => yields_call (vs := [.agg (evc (a)), .agg (evc (b))]) (v := .bool false) rfl rfl (enters_later _ _) (okcall (later_any _ _ W) hy.out)⟩
  · exact .inl ⟨rfl, fun W hb => yields_assign rfl rfl⟩
  · exact .inl ⟨rfl, fun W hb => yields_assign rfl rfl⟩
  intro w2 hb2
  have hA2 := hA1.below hb2 hA1.lt
  have hB2 := hB1.below hb2 hB1.lt
  have hC2 := hC1.below hb2 hC1.lt
  have H2 : Hid (Below w.heap.size w w2) := H1.out.trans (hb2.mono H1.out.size)
  clear hA1 hB1 hC1 hb2 H1
  have da := hA2.dot
  have db := hB2.dot
  go_wp2_with (first | refine load_dot_at rfl rfl rfl da ?_ | refine load_dot_at rfl rfl rfl db ?_ | refine load_ev rfl rfl rfl hA2 la ?_)
  refine (later_any a a _).mono ?_
  rintro e w3 ⟨rfl, hb3⟩
  have hA3 := hA2.below hb3 hA2.lt
  have hB3 := hB2.below hb3 hB2.lt
  have hC3 := hC2.below hb3 hC2.lt
  have H3 : Hid (Below w.heap.size w w3) := H2.out.trans (hb3.mono H2.out.size)
  clear hA2 hB2 hC2 hb3 H2 da db
  rw [later_self]
  go_wp2
  go_ret
  exact ⟨rfl, H3.out⟩

theorem orders_walk (a b c : Ev) (la : a.deps.length = 16) (lb : b.deps.length = 16) (lc : c.deps.length = 16) (w : World) :
    Calls Try.prog 8 #[.agg (evc a), .agg (evc b), .agg (evc c)] w fun e w' => e = .returned (.bool true) ∧ Below w.heap.size w w' := by
  rcases Bool.eq_false_or_eq_true (laterE b a) with hx | hx
  · rcases Bool.eq_false_or_eq_true (laterE a b) with hy | hy
    · exact (later_both hx hy).elim
    · rcases Bool.eq_false_or_eq_true (decide (a.r = b.r ∧ a.n = b.n)) with hd | hd
      · exact orders_TFtrue a b c la lb lc hx hy hd w
      · exact orders_TFfalse a b c la lb lc hx hy hd w
  · rcases Bool.eq_false_or_eq_true (laterE a b) with hy | hy
    · rcases Bool.eq_false_or_eq_true (decide (a.r = b.r ∧ a.n = b.n)) with hd | hd
      · exact orders_FTtrue a b c la lb lc hx hy hd w
      · exact orders_FTfalse a b c la lb lc hx hy hd w
    · exact orders_FFtrue a b c la lb lc hx hy (decide_eq_true (later_none hx hy)) w
end Go.Proofs.Ytgolokcajkccfaa
