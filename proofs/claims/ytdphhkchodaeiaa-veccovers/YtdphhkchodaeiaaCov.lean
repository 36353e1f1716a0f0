/-
  VecCovers: a dot is had by the Join of two vectors just if one of them has it, by the Meet just if both have; and what is below has no dot that what is above lacks. For every input.
-/
import Derived.Test.YtdphhkchodaeiaaHas
import Derived.Test.YtdphhkchodaeiaaCmp
import Derived.Test.YtdphhkchodaeiaaAwk
namespace Go.Proofs.Ytdphhkchodaeiaa
open Go.RowKit

theorem has_join (a b : List Int) (r n : Int) (la : a.length = 16) (lb : b.length = 16) : hasv (each max a b) r n = (hasv a r n || hasv b r n) := by
  rcases Bool.eq_false_or_eq_true (okdot r n) with hk | hk
  · obtain ⟨h0, h1, -, -⟩ := of_decide_eq_true hk
    rw [hasv, hasv, hasv, hk, each_get _ _ _ _ la lb (by omega), Bool.true_and, Bool.true_and, Bool.true_and, ← Bool.decide_or]
    exact decide_eq_decide.2 (by omega)
  · rw [hasv, hasv, hasv, hk]; rfl
theorem has_meet (a b : List Int) (r n : Int) (la : a.length = 16) (lb : b.length = 16) : hasv (each min a b) r n = (hasv a r n && hasv b r n) := by
  rcases Bool.eq_false_or_eq_true (okdot r n) with hk | hk
  · obtain ⟨h0, h1, -, -⟩ := of_decide_eq_true hk
    rw [hasv, hasv, hasv, hk, each_get _ _ _ _ la lb (by omega), Bool.true_and, Bool.true_and, Bool.true_and, ← Bool.decide_and]
    exact decide_eq_decide.2 (by omega)
  · rw [hasv, hasv, hasv, hk]; rfl
theorem has_most (a b : List Int) (r n : Int) (h : most a b = true) (ha : hasv a r n = true) : hasv b r n = true := by
  rw [hasv, Bool.and_eq_true] at ha ⊢
  obtain ⟨hk, hn⟩ := ha
  obtain ⟨h0, h1, -, -⟩ := of_decide_eq_true hk
  have := (most_spec a b).1 h r.toNat (by omega)
  have := of_decide_eq_true hn
  exact ⟨hk, decide_eq_true (by omega)⟩
theorem way_four (a b : List Int) : way a b = 0 ∨ way a b = 1 ∨ way a b = 2 ∨ way a b = 3 := by
  unfold way
  split
  · exact .inl rfl
  · split
    · exact .inr (.inl rfl)
    · split
      · exact .inr (.inr (.inl rfl))
      · exact .inr (.inr (.inr rfl))
theorem way_low (a b : List Int) (h : way a b = 0 ∨ way a b = 1) : most a b = true := by
  unfold way at h
  split at h
  · rename_i e; subst e; exact most_self a
  · split at h
    · assumption
    · split at h <;> omega

theorem boxed3D (w : World) (a b : List Int) (r n : Int) :
    Lies (((w.alloc (.cells (vals a) 23)).alloc (.cells (vals b) 23)).alloc (.cells (dotc r n) 25)) w.heap.size a ∧
    Lies (((w.alloc (.cells (vals a) 23)).alloc (.cells (vals b) 23)).alloc (.cells (dotc r n) 25)) (w.heap.size + 1) b ∧
    LiesD (((w.alloc (.cells (vals a) 23)).alloc (.cells (vals b) 23)).alloc (.cells (dotc r n) 25)) (w.heap.size + 1 + 1) r n ∧
    Below w.heap.size w (((w.alloc (.cells (vals a) 23)).alloc (.cells (vals b) 23)).alloc (.cells (dotc r n) 25)) := by
  refine ⟨((lies_new w a).alloc _).alloc _, ?_, ?_, (((Below.refl _ _).alloc (Nat.le_refl _) _).alloc (by simp) _).alloc (by simp; omega) _⟩
  · have := (lies_new (w.alloc (.cells (vals a) 23)) b).alloc (.cells (dotc r n) 25)
    simpa using this
  · have := liesD_new ((w.alloc (.cells (vals a) 23)).alloc (.cells (vals b) 23)) r n
    simpa using this

set_option maxHeartbeats 1000000 in
theorem covers_truetrue (a b : List Int) (r n : Int) (la : a.length = 16) (lb : b.length = 16) (hx : hasv a r n = true) (hy : hasv b r n = true) (w : World) :
    Calls Try.prog 7 #[.agg (vals a), .agg (vals b), .agg (dotc r n)] w fun e w' => e = .returned (.bool true) ∧ Below w.heap.size w w' := by
  obtain ⟨hA, hB, hD, hb0⟩ := boxed3D w a b r n
  have hj : Hid (hasv (each max a b) r n = true) := by show _ = _; rw [has_join a b r n la lb, hx, hy]; rfl
  have hm : Hid (hasv (each min a b) r n = true) := by show _ = _; rw [has_meet a b r n la lb, hx, hy]; rfl
  have Hx : Hid (hasv a r n = true) := hx
  have Hy : Hid (hasv b r n = true) := hy
  clear hx hy
  go_enter Try.func7, Try.ntmps7
  go_wp2_with fail
  refine (awake_any _).mono ?_
  rintro e w1 ⟨rfl, hb1⟩
  have hA1 := hA.below hb1 hA.lt
  have hB1 := hB.below hb1 hB.lt
  have hD1 := hD.below hb1 hD.lt
  have hW1 : Hid (Below w.heap.size w w1) := hb0.trans (hb1.mono hb0.size)
  clear hA hB hD hb0 hb1
  go_wp2_with fail
  refine region_vals [12, 13, 14, 15, 16, 17, 7, 8] [.agg (vals (a)), .agg (dotc (r) (n)), .bool true, .agg (vals (b)), .agg (dotc (r) (n)), .bool true, .bool true, .bool true] _ (by kernel_rfl) (by kernel_rfl) (by rfl) (by decide) (by kernel_rfl) (by simp only [lay, Act.put, List.setIfInBounds_toArray, List.set_cons_zero, List.set_cons_succ, List.getD_cons_zero, List.getD_cons_succ, Nat.reduceAdd]; rfl) ⟨?_, ?_, ?_, ?_, ?_, ?_, ?_, ?_, trivial⟩ ?_
  · exact .inl ⟨rfl, fun W hb => yields_load rfl rfl (load_run ((hA1).below hb (hA1).lt) la)⟩
  · exact .inl ⟨rfl, fun W hb => yields_load rfl rfl (load_dot_run ((hD1).below hb (hD1).lt))⟩
  · exact .inl ⟨rfl, fun W hb => yields_call (vs := [.agg (vals (a)), .agg (dotc (r) (n))]) (v := .bool true) rfl rfl (enters_has _ _) (okcall (has_any _ _ _ la W) Hx.out)⟩
  · exact .inl ⟨rfl, fun W hb => yields_load rfl rfl (load_run ((hB1).below hb (hB1).lt) lb)⟩
  · exact .inl ⟨rfl, fun W hb => yields_load rfl rfl (load_dot_run ((hD1).below hb (hD1).lt))⟩
  · exact .inl ⟨rfl, fun W hb => yields_call (vs := [.agg (vals (b)), .agg (dotc (r) (n))]) (v := .bool true) rfl rfl (enters_has _ _) (okcall (has_any _ _ _ lb W) Hy.out)⟩
  · exact .inl ⟨rfl, fun W hb => yields_assign rfl rfl⟩
  · exact .inl ⟨rfl, fun W hb => yields_assign rfl rfl⟩
  intro w2 hb2
  have hA2 := hA1.below hb2 hA1.lt
  have hB2 := hB1.below hb2 hB1.lt
  have hD2 := hD1.below hb2 hD1.lt
  have hW2 : Hid (Below w.heap.size w w2) := hW1.out.trans (hb2.mono hW1.out.size)
  clear hA1 hB1 hD1 hb2 hW1
  go_wp2_with fail
  refine region_vals [18, 19, 20, 21, 22, 23, 24, 25, 26, 27, 28, 29, 30, 31, 32, 33, 34, 35, 36, 37, 38, 39] [.agg (vals (a)), .agg (vals (b)), .agg (vals (each max (a) (b))), .agg (dotc (r) (n)), .bool true, .bool true, .bool true, undef, .bool true, .bool false, .bool false, .agg (vals (a)), .agg (vals (b)), .agg (vals (each min (a) (b))), .agg (dotc (r) (n)), .bool true, .bool true, .bool true, .bool true, .bool true, .bool false, .bool false] _ (by kernel_rfl) (by kernel_rfl) (by rfl) (by decide) (by kernel_rfl) (by simp only [lay, Act.put, List.setIfInBounds_toArray, List.set_cons_zero, List.set_cons_succ, List.getD_cons_zero, List.getD_cons_succ, Nat.reduceAdd]; rfl) ⟨?_, ?_, ?_, ?_, ?_, ?_, ?_, ?_, ?_, ?_, ?_, ?_, ?_, ?_, ?_, ?_, ?_, ?_, ?_, ?_, ?_, ?_, trivial⟩ ?_
  · exact .inl ⟨rfl, fun W hb => yields_load rfl rfl (load_run ((hA2).below hb (hA2).lt) la)⟩
  · exact .inl ⟨rfl, fun W hb => yields_load rfl rfl (load_run ((hB2).below hb (hB2).lt) lb)⟩
  · exact .inl ⟨rfl, fun W hb => yields_call (vs := [.agg (vals (a)), .agg (vals (b))]) (v := .agg (vals (each max (a) (b)))) rfl rfl (enters_join _ _) (join_any _ _ la lb W)⟩
  · exact .inl ⟨rfl, fun W hb => yields_load rfl rfl (load_dot_run ((hD2).below hb (hD2).lt))⟩
  · exact .inl ⟨rfl, fun W hb => yields_call (vs := [.agg (vals (each max (a) (b))), .agg (dotc (r) (n))]) (v := .bool true) rfl rfl (enters_has _ _) (okcall (has_any _ _ _ (each_length max _ _ la lb) W) hj.out)⟩
  · exact .inl ⟨rfl, fun W hb => yields_move rfl rfl⟩
  · exact .inl ⟨rfl, fun W hb => yields_move rfl rfl⟩
  · exact .inr ⟨rfl, rfl⟩
  · exact .inl ⟨rfl, fun W hb => yields_pick (b := true) rfl rfl rfl⟩
  · exact .inl ⟨rfl, fun W hb => yields_bin rfl rfl rfl (eqGuard_bool W) (neq_bool W)⟩
  · exact .inl ⟨rfl, fun W hb => yields_move rfl rfl⟩
  · exact .inl ⟨rfl, fun W hb => yields_load rfl rfl (load_run ((hA2).below hb (hA2).lt) la)⟩
  · exact .inl ⟨rfl, fun W hb => yields_load rfl rfl (load_run ((hB2).below hb (hB2).lt) lb)⟩
  · exact .inl ⟨rfl, fun W hb => yields_call (vs := [.agg (vals (a)), .agg (vals (b))]) (v := .agg (vals (each min (a) (b)))) rfl rfl (enters_meet _ _) (meet_any _ _ la lb W)⟩
  · exact .inl ⟨rfl, fun W hb => yields_load rfl rfl (load_dot_run ((hD2).below hb (hD2).lt))⟩
  · exact .inl ⟨rfl, fun W hb => yields_call (vs := [.agg (vals (each min (a) (b))), .agg (dotc (r) (n))]) (v := .bool true) rfl rfl (enters_has _ _) (okcall (has_any _ _ _ (each_length min _ _ la lb) W) hm.out)⟩
  · exact .inl ⟨rfl, fun W hb => yields_move rfl rfl⟩
  · exact .inl ⟨rfl, fun W hb => yields_move rfl rfl⟩
  · exact .inl ⟨rfl, fun W hb => yields_move rfl rfl⟩
  · exact .inl ⟨rfl, fun W hb => yields_pick (b := true) rfl rfl rfl⟩
  · exact .inl ⟨rfl, fun W hb => yields_bin rfl rfl rfl (eqGuard_bool W) (neq_bool W)⟩
  · exact .inl ⟨rfl, fun W hb => yields_pick (b := false) rfl rfl rfl⟩
  intro w3 hb3
  have hA3 := hA2.below hb3 hA2.lt
  have hB3 := hB2.below hb3 hB2.lt
  have hW3 : Hid (Below w.heap.size w w3) := hW2.out.trans (hb3.mono hW2.out.size)
  clear hA2 hB2 hD2 hb3 hW2
  go_wp2_with (first | refine load_vec rfl rfl rfl hA3 la ?_ | refine load_vec rfl rfl rfl hB3 lb ?_)
  refine (compare_any a b la lb _).mono ?_
  rintro e w4 ⟨rfl, hb4⟩
  have hW4 : Hid (Below w.heap.size w w4) := hW3.out.trans (hb4.mono hW3.out.size)
  clear hA3 hB3 hb4 hW3
  rcases way_four a b with h | h | h | h
  · rw [h]
    clear h
    go_wp2
    go_ret
    exact ⟨rfl, hW4.out⟩
  · rw [h]
    clear h
    go_wp2
    go_ret
    exact ⟨rfl, hW4.out⟩
  · rw [h]
    clear h
    go_wp2
    go_ret
    exact ⟨rfl, hW4.out⟩
  · rw [h]
    clear h
    go_wp2
    go_ret
    exact ⟨rfl, hW4.out⟩
set_option maxHeartbeats 1000000 in
theorem covers_truefalse (a b : List Int) (r n : Int) (la : a.length = 16) (lb : b.length = 16) (hx : hasv a r n = true) (hy : hasv b r n = false) (w : World) :
    Calls Try.prog 7 #[.agg (vals a), .agg (vals b), .agg (dotc r n)] w fun e w' => e = .returned (.bool true) ∧ Below w.heap.size w w' := by
  obtain ⟨hA, hB, hD, hb0⟩ := boxed3D w a b r n
  have hj : Hid (hasv (each max a b) r n = true) := by show _ = _; rw [has_join a b r n la lb, hx, hy]; rfl
  have hm : Hid (hasv (each min a b) r n = false) := by show _ = _; rw [has_meet a b r n la lb, hx, hy]; rfl
  have Hx : Hid (hasv a r n = true) := hx
  have Hy : Hid (hasv b r n = false) := hy
  clear hx hy
  go_enter Try.func7, Try.ntmps7
  go_wp2_with fail
  refine (awake_any _).mono ?_
  rintro e w1 ⟨rfl, hb1⟩
  have hA1 := hA.below hb1 hA.lt
  have hB1 := hB.below hb1 hB.lt
  have hD1 := hD.below hb1 hD.lt
  have hW1 : Hid (Below w.heap.size w w1) := hb0.trans (hb1.mono hb0.size)
  clear hA hB hD hb0 hb1
  go_wp2_with fail
  refine region_vals [12, 13, 14, 15, 16, 17, 7, 8] [.agg (vals (a)), .agg (dotc (r) (n)), .bool true, .agg (vals (b)), .agg (dotc (r) (n)), .bool false, .bool true, .bool false] _ (by kernel_rfl) (by kernel_rfl) (by rfl) (by decide) (by kernel_rfl) (by simp only [lay, Act.put, List.setIfInBounds_toArray, List.set_cons_zero, List.set_cons_succ, List.getD_cons_zero, List.getD_cons_succ, Nat.reduceAdd]; rfl) ⟨?_, ?_, ?_, ?_, ?_, ?_, ?_, ?_, trivial⟩ ?_
  · exact .inl ⟨rfl, fun W hb => yields_load rfl rfl (load_run ((hA1).below hb (hA1).lt) la)⟩
  · exact .inl ⟨rfl, fun W hb => yields_load rfl rfl (load_dot_run ((hD1).below hb (hD1).lt))⟩
  · exact .inl ⟨rfl, fun W hb => yields_call (vs := [.agg (vals (a)), .agg (dotc (r) (n))]) (v := .bool true) rfl rfl (enters_has _ _) (okcall (has_any _ _ _ la W) Hx.out)⟩
  · exact .inl ⟨rfl, fun W hb => yields_load rfl rfl (load_run ((hB1).below hb (hB1).lt) lb)⟩
  · exact .inl ⟨rfl, fun W hb => yields_load rfl rfl (load_dot_run ((hD1).below hb (hD1).lt))⟩
  · exact .inl ⟨rfl, fun W hb => yields_call (vs := [.agg (vals (b)), .agg (dotc (r) (n))]) (v := .bool false) rfl rfl (enters_has _ _) (okcall (has_any _ _ _ lb W) Hy.out)⟩
  · exact .inl ⟨rfl, fun W hb => yields_assign rfl rfl⟩
  · exact .inl ⟨rfl, fun W hb => yields_assign rfl rfl⟩
  intro w2 hb2
  have hA2 := hA1.below hb2 hA1.lt
  have hB2 := hB1.below hb2 hB1.lt
  have hD2 := hD1.below hb2 hD1.lt
  have hW2 : Hid (Below w.heap.size w w2) := hW1.out.trans (hb2.mono hW1.out.size)
  clear hA1 hB1 hD1 hb2 hW1
  go_wp2_with fail
  refine region_vals [18, 19, 20, 21, 22, 23, 24, 25, 26, 27, 28, 29, 30, 31, 32, 33, 34, 35, 36, 37, 38, 39] [.agg (vals (a)), .agg (vals (b)), .agg (vals (each max (a) (b))), .agg (dotc (r) (n)), .bool true, .bool true, .bool true, undef, .bool true, .bool false, .bool false, .agg (vals (a)), .agg (vals (b)), .agg (vals (each min (a) (b))), .agg (dotc (r) (n)), .bool false, .bool true, .bool true, .bool false, .bool false, .bool false, .bool false] _ (by kernel_rfl) (by kernel_rfl) (by rfl) (by decide) (by kernel_rfl) (by simp only [lay, Act.put, List.setIfInBounds_toArray, List.set_cons_zero, List.set_cons_succ, List.getD_cons_zero, List.getD_cons_succ, Nat.reduceAdd]; rfl) ⟨?_, ?_, ?_, ?_, ?_, ?_, ?_, ?_, ?_, ?_, ?_, ?_, ?_, ?_, ?_, ?_, ?_, ?_, ?_, ?_, ?_, ?_, trivial⟩ ?_
  · exact .inl ⟨rfl, fun W hb => yields_load rfl rfl (load_run ((hA2).below hb (hA2).lt) la)⟩
  · exact .inl ⟨rfl, fun W hb => yields_load rfl rfl (load_run ((hB2).below hb (hB2).lt) lb)⟩
  · exact .inl ⟨rfl, fun W hb => yields_call (vs := [.agg (vals (a)), .agg (vals (b))]) (v := .agg (vals (each max (a) (b)))) rfl rfl (enters_join _ _) (join_any _ _ la lb W)⟩
  · exact .inl ⟨rfl, fun W hb => yields_load rfl rfl (load_dot_run ((hD2).below hb (hD2).lt))⟩
  · exact .inl ⟨rfl, fun W hb => yields_call (vs := [.agg (vals (each max (a) (b))), .agg (dotc (r) (n))]) (v := .bool true) rfl rfl (enters_has _ _) (okcall (has_any _ _ _ (each_length max _ _ la lb) W) hj.out)⟩
  · exact .inl ⟨rfl, fun W hb => yields_move rfl rfl⟩
  · exact .inl ⟨rfl, fun W hb => yields_move rfl rfl⟩
  · exact .inr ⟨rfl, rfl⟩
  · exact .inl ⟨rfl, fun W hb => yields_pick (b := true) rfl rfl rfl⟩
  · exact .inl ⟨rfl, fun W hb => yields_bin rfl rfl rfl (eqGuard_bool W) (neq_bool W)⟩
  · exact .inl ⟨rfl, fun W hb => yields_move rfl rfl⟩
  · exact .inl ⟨rfl, fun W hb => yields_load rfl rfl (load_run ((hA2).below hb (hA2).lt) la)⟩
  · exact .inl ⟨rfl, fun W hb => yields_load rfl rfl (load_run ((hB2).below hb (hB2).lt) lb)⟩
  · exact .inl ⟨rfl, fun W hb => yields_call (vs := [.agg (vals (a)), .agg (vals (b))]) (v := .agg (vals (each min (a) (b)))) rfl rfl (enters_meet _ _) (meet_any _ _ la lb W)⟩
  · exact .inl ⟨rfl, fun W hb => yields_load rfl rfl (load_dot_run ((hD2).below hb (hD2).lt))⟩
  · exact .inl ⟨rfl, fun W hb => yields_call (vs := [.agg (vals (each min (a) (b))), .agg (dotc (r) (n))]) (v := .bool false) rfl rfl (enters_has _ _) (okcall (has_any _ _ _ (each_length min _ _ la lb) W) hm.out)⟩
  · exact .inl ⟨rfl, fun W hb => yields_move rfl rfl⟩
  · exact .inl ⟨rfl, fun W hb => yields_move rfl rfl⟩
  · exact .inl ⟨rfl, fun W hb => yields_move rfl rfl⟩
  · exact .inl ⟨rfl, fun W hb => yields_pick (b := true) rfl rfl rfl⟩
  · exact .inl ⟨rfl, fun W hb => yields_bin rfl rfl rfl (eqGuard_bool W) (neq_bool W)⟩
  · exact .inl ⟨rfl, fun W hb => yields_pick (b := false) rfl rfl rfl⟩
  intro w3 hb3
  have hA3 := hA2.below hb3 hA2.lt
  have hB3 := hB2.below hb3 hB2.lt
  have hW3 : Hid (Below w.heap.size w w3) := hW2.out.trans (hb3.mono hW2.out.size)
  clear hA2 hB2 hD2 hb3 hW2
  go_wp2_with (first | refine load_vec rfl rfl rfl hA3 la ?_ | refine load_vec rfl rfl rfl hB3 lb ?_)
  refine (compare_any a b la lb _).mono ?_
  rintro e w4 ⟨rfl, hb4⟩
  have hW4 : Hid (Below w.heap.size w w4) := hW3.out.trans (hb4.mono hW3.out.size)
  clear hA3 hB3 hb4 hW3
  rcases way_four a b with h | h | h | h
  · have := has_most a b r n (way_low a b (by omega)) Hx.out
    rw [Hy.out] at this
    cases this
  · have := has_most a b r n (way_low a b (by omega)) Hx.out
    rw [Hy.out] at this
    cases this
  · rw [h]
    clear h
    go_wp2
    go_ret
    exact ⟨rfl, hW4.out⟩
  · rw [h]
    clear h
    go_wp2
    go_ret
    exact ⟨rfl, hW4.out⟩
set_option maxHeartbeats 1000000 in
theorem covers_falsetrue (a b : List Int) (r n : Int) (la : a.length = 16) (lb : b.length = 16) (hx : hasv a r n = false) (hy : hasv b r n = true) (w : World) :
    Calls Try.prog 7 #[.agg (vals a), .agg (vals b), .agg (dotc r n)] w fun e w' => e = .returned (.bool true) ∧ Below w.heap.size w w' := by
  obtain ⟨hA, hB, hD, hb0⟩ := boxed3D w a b r n
  have hj : Hid (hasv (each max a b) r n = true) := by show _ = _; rw [has_join a b r n la lb, hx, hy]; rfl
  have hm : Hid (hasv (each min a b) r n = false) := by show _ = _; rw [has_meet a b r n la lb, hx, hy]; rfl
  have Hx : Hid (hasv a r n = false) := hx
  have Hy : Hid (hasv b r n = true) := hy
  clear hx hy
  go_enter Try.func7, Try.ntmps7
  go_wp2_with fail
  refine (awake_any _).mono ?_
  rintro e w1 ⟨rfl, hb1⟩
  have hA1 := hA.below hb1 hA.lt
  have hB1 := hB.below hb1 hB.lt
  have hD1 := hD.below hb1 hD.lt
  have hW1 : Hid (Below w.heap.size w w1) := hb0.trans (hb1.mono hb0.size)
  clear hA hB hD hb0 hb1
  go_wp2_with fail
  refine region_vals [12, 13, 14, 15, 16, 17, 7, 8] [.agg (vals (a)), .agg (dotc (r) (n)), .bool false, .agg (vals (b)), .agg (dotc (r) (n)), .bool true, .bool false, .bool true] _ (by kernel_rfl) (by kernel_rfl) (by rfl) (by decide) (by kernel_rfl) (by simp only [lay, Act.put, List.setIfInBounds_toArray, List.set_cons_zero, List.set_cons_succ, List.getD_cons_zero, List.getD_cons_succ, Nat.reduceAdd]; rfl) ⟨?_, ?_, ?_, ?_, ?_, ?_, ?_, ?_, trivial⟩ ?_
  · exact .inl ⟨rfl, fun W hb => yields_load rfl rfl (load_run ((hA1).below hb (hA1).lt) la)⟩
  · exact .inl ⟨rfl, fun W hb => yields_load rfl rfl (load_dot_run ((hD1).below hb (hD1).lt))⟩
  · exact .inl ⟨rfl, fun W hb => yields_call (vs := [.agg (vals (a)), .agg (dotc (r) (n))]) (v := .bool false) rfl rfl (enters_has _ _) (okcall (has_any _ _ _ la W) Hx.out)⟩
  · exact .inl ⟨rfl, fun W hb => yields_load rfl rfl (load_run ((hB1).below hb (hB1).lt) lb)⟩
  · exact .inl ⟨rfl, fun W hb => yields_load rfl rfl (load_dot_run ((hD1).below hb (hD1).lt))⟩
  · exact .inl ⟨rfl, fun W hb => yields_call (vs := [.agg (vals (b)), .agg (dotc (r) (n))]) (v := .bool true) rfl rfl (enters_has _ _) (okcall (has_any _ _ _ lb W) Hy.out)⟩
  · exact .inl ⟨rfl, fun W hb => yields_assign rfl rfl⟩
  · exact .inl ⟨rfl, fun W hb => yields_assign rfl rfl⟩
  intro w2 hb2
  have hA2 := hA1.below hb2 hA1.lt
  have hB2 := hB1.below hb2 hB1.lt
  have hD2 := hD1.below hb2 hD1.lt
  have hW2 : Hid (Below w.heap.size w w2) := hW1.out.trans (hb2.mono hW1.out.size)
  clear hA1 hB1 hD1 hb2 hW1
  go_wp2_with fail
  refine region_vals [18, 19, 20, 21, 22, 23, 24, 25, 26, 27, 28, 29, 30, 31, 32, 33, 34, 35, 36, 37, 38, 39] [.agg (vals (a)), .agg (vals (b)), .agg (vals (each max (a) (b))), .agg (dotc (r) (n)), .bool true, .bool false, .bool false, .bool true, .bool true, .bool false, .bool false, .agg (vals (a)), .agg (vals (b)), .agg (vals (each min (a) (b))), .agg (dotc (r) (n)), .bool false, .bool false, .bool false, undef, .bool false, .bool false, .bool false] _ (by kernel_rfl) (by kernel_rfl) (by rfl) (by decide) (by kernel_rfl) (by simp only [lay, Act.put, List.setIfInBounds_toArray, List.set_cons_zero, List.set_cons_succ, List.getD_cons_zero, List.getD_cons_succ, Nat.reduceAdd]; rfl) ⟨?_, ?_, ?_, ?_, ?_, ?_, ?_, ?_, ?_, ?_, ?_, ?_, ?_, ?_, ?_, ?_, ?_, ?_, ?_, ?_, ?_, ?_, trivial⟩ ?_
  · exact .inl ⟨rfl, fun W hb => yields_load rfl rfl (load_run ((hA2).below hb (hA2).lt) la)⟩
  · exact .inl ⟨rfl, fun W hb => yields_load rfl rfl (load_run ((hB2).below hb (hB2).lt) lb)⟩
  · exact .inl ⟨rfl, fun W hb => yields_call (vs := [.agg (vals (a)), .agg (vals (b))]) (v := .agg (vals (each max (a) (b)))) rfl rfl (enters_join _ _) (join_any _ _ la lb W)⟩
  · exact .inl ⟨rfl, fun W hb => yields_load rfl rfl (load_dot_run ((hD2).below hb (hD2).lt))⟩
  · exact .inl ⟨rfl, fun W hb => yields_call (vs := [.agg (vals (each max (a) (b))), .agg (dotc (r) (n))]) (v := .bool true) rfl rfl (enters_has _ _) (okcall (has_any _ _ _ (each_length max _ _ la lb) W) hj.out)⟩
  · exact .inl ⟨rfl, fun W hb => yields_move rfl rfl⟩
  · exact .inl ⟨rfl, fun W hb => yields_move rfl rfl⟩
  · exact .inl ⟨rfl, fun W hb => yields_move rfl rfl⟩
  · exact .inl ⟨rfl, fun W hb => yields_pick (b := false) rfl rfl rfl⟩
  · exact .inl ⟨rfl, fun W hb => yields_bin rfl rfl rfl (eqGuard_bool W) (neq_bool W)⟩
  · exact .inl ⟨rfl, fun W hb => yields_move rfl rfl⟩
  · exact .inl ⟨rfl, fun W hb => yields_load rfl rfl (load_run ((hA2).below hb (hA2).lt) la)⟩
  · exact .inl ⟨rfl, fun W hb => yields_load rfl rfl (load_run ((hB2).below hb (hB2).lt) lb)⟩
  · exact .inl ⟨rfl, fun W hb => yields_call (vs := [.agg (vals (a)), .agg (vals (b))]) (v := .agg (vals (each min (a) (b)))) rfl rfl (enters_meet _ _) (meet_any _ _ la lb W)⟩
  · exact .inl ⟨rfl, fun W hb => yields_load rfl rfl (load_dot_run ((hD2).below hb (hD2).lt))⟩
  · exact .inl ⟨rfl, fun W hb => yields_call (vs := [.agg (vals (each min (a) (b))), .agg (dotc (r) (n))]) (v := .bool false) rfl rfl (enters_has _ _) (okcall (has_any _ _ _ (each_length min _ _ la lb) W) hm.out)⟩
  · exact .inl ⟨rfl, fun W hb => yields_move rfl rfl⟩
  · exact .inl ⟨rfl, fun W hb => yields_move rfl rfl⟩
  · exact .inr ⟨rfl, rfl⟩
  · exact .inl ⟨rfl, fun W hb => yields_pick (b := false) rfl rfl rfl⟩
  · exact .inl ⟨rfl, fun W hb => yields_bin rfl rfl rfl (eqGuard_bool W) (neq_bool W)⟩
  · exact .inl ⟨rfl, fun W hb => yields_pick (b := false) rfl rfl rfl⟩
  intro w3 hb3
  have hA3 := hA2.below hb3 hA2.lt
  have hB3 := hB2.below hb3 hB2.lt
  have hW3 : Hid (Below w.heap.size w w3) := hW2.out.trans (hb3.mono hW2.out.size)
  clear hA2 hB2 hD2 hb3 hW2
  go_wp2_with (first | refine load_vec rfl rfl rfl hA3 la ?_ | refine load_vec rfl rfl rfl hB3 lb ?_)
  refine (compare_any a b la lb _).mono ?_
  rintro e w4 ⟨rfl, hb4⟩
  have hW4 : Hid (Below w.heap.size w w4) := hW3.out.trans (hb4.mono hW3.out.size)
  clear hA3 hB3 hb4 hW3
  rcases way_four a b with h | h | h | h
  · rw [h]
    clear h
    go_wp2
    go_ret
    exact ⟨rfl, hW4.out⟩
  · rw [h]
    clear h
    go_wp2
    go_ret
    exact ⟨rfl, hW4.out⟩
  · rw [h]
    clear h
    go_wp2
    go_ret
    exact ⟨rfl, hW4.out⟩
  · rw [h]
    clear h
    go_wp2
    go_ret
    exact ⟨rfl, hW4.out⟩
set_option maxHeartbeats 1000000 in
theorem covers_falsefalse (a b : List Int) (r n : Int) (la : a.length = 16) (lb : b.length = 16) (hx : hasv a r n = false) (hy : hasv b r n = false) (w : World) :
    Calls Try.prog 7 #[.agg (vals a), .agg (vals b), .agg (dotc r n)] w fun e w' => e = .returned (.bool true) ∧ Below w.heap.size w w' := by
  obtain ⟨hA, hB, hD, hb0⟩ := boxed3D w a b r n
  have hj : Hid (hasv (each max a b) r n = false) := by show _ = _; rw [has_join a b r n la lb, hx, hy]; rfl
  have hm : Hid (hasv (each min a b) r n = false) := by show _ = _; rw [has_meet a b r n la lb, hx, hy]; rfl
  have Hx : Hid (hasv a r n = false) := hx
  have Hy : Hid (hasv b r n = false) := hy
  clear hx hy
  go_enter Try.func7, Try.ntmps7
  go_wp2_with fail
  refine (awake_any _).mono ?_
  rintro e w1 ⟨rfl, hb1⟩
  have hA1 := hA.below hb1 hA.lt
  have hB1 := hB.below hb1 hB.lt
  have hD1 := hD.below hb1 hD.lt
  have hW1 : Hid (Below w.heap.size w w1) := hb0.trans (hb1.mono hb0.size)
  clear hA hB hD hb0 hb1
  go_wp2_with fail
  refine region_vals [12, 13, 14, 15, 16, 17, 7, 8] [.agg (vals (a)), .agg (dotc (r) (n)), .bool false, .agg (vals (b)), .agg (dotc (r) (n)), .bool false, .bool false, .bool false] _ (by kernel_rfl) (by kernel_rfl) (by rfl) (by decide) (by kernel_rfl) (by simp only [lay, Act.put, List.setIfInBounds_toArray, List.set_cons_zero, List.set_cons_succ, List.getD_cons_zero, List.getD_cons_succ, Nat.reduceAdd]; rfl) ⟨?_, ?_, ?_, ?_, ?_, ?_, ?_, ?_, trivial⟩ ?_
  · exact .inl ⟨rfl, fun W hb => yields_load rfl rfl (load_run ((hA1).below hb (hA1).lt) la)⟩
  · exact .inl ⟨rfl, fun W hb => yields_load rfl rfl (load_dot_run ((hD1).below hb (hD1).lt))⟩
  · exact .inl ⟨rfl, fun W hb => yields_call (vs := [.agg (vals (a)), .agg (dotc (r) (n))]) (v := .bool false) rfl rfl (enters_has _ _) (okcall (has_any _ _ _ la W) Hx.out)⟩
  · exact .inl ⟨rfl, fun W hb => yields_load rfl rfl (load_run ((hB1).below hb (hB1).lt) lb)⟩
  · exact .inl ⟨rfl, fun W hb => yields_load rfl rfl (load_dot_run ((hD1).below hb (hD1).lt))⟩
  · exact .inl ⟨rfl, fun W hb => yields_call (vs := [.agg (vals (b)), .agg (dotc (r) (n))]) (v := .bool false) rfl rfl (enters_has _ _) (okcall (has_any _ _ _ lb W) Hy.out)⟩
  · exact .inl ⟨rfl, fun W hb => yields_assign rfl rfl⟩
  · exact .inl ⟨rfl, fun W hb => yields_assign rfl rfl⟩
  intro w2 hb2
  have hA2 := hA1.below hb2 hA1.lt
  have hB2 := hB1.below hb2 hB1.lt
  have hD2 := hD1.below hb2 hD1.lt
  have hW2 : Hid (Below w.heap.size w w2) := hW1.out.trans (hb2.mono hW1.out.size)
  clear hA1 hB1 hD1 hb2 hW1
  go_wp2_with fail
  refine region_vals [18, 19, 20, 21, 22, 23, 24, 25, 26, 27, 28, 29, 30, 31, 32, 33, 34, 35, 36, 37, 38, 39] [.agg (vals (a)), .agg (vals (b)), .agg (vals (each max (a) (b))), .agg (dotc (r) (n)), .bool false, .bool false, .bool false, .bool false, .bool false, .bool false, .bool false, .agg (vals (a)), .agg (vals (b)), .agg (vals (each min (a) (b))), .agg (dotc (r) (n)), .bool false, .bool false, .bool false, undef, .bool false, .bool false, .bool false] _ (by kernel_rfl) (by kernel_rfl) (by rfl) (by decide) (by kernel_rfl) (by simp only [lay, Act.put, List.setIfInBounds_toArray, List.set_cons_zero, List.set_cons_succ, List.getD_cons_zero, List.getD_cons_succ, Nat.reduceAdd]; rfl) ⟨?_, ?_, ?_, ?_, ?_, ?_, ?_, ?_, ?_, ?_, ?_, ?_, ?_, ?_, ?_, ?_, ?_, ?_, ?_, ?_, ?_, ?_, trivial⟩ ?_
  · exact .inl ⟨rfl, fun W hb => yields_load rfl rfl (load_run ((hA2).below hb (hA2).lt) la)⟩
  · exact .inl ⟨rfl, fun W hb => yields_load rfl rfl (load_run ((hB2).below hb (hB2).lt) lb)⟩
  · exact .inl ⟨rfl, fun W hb => yields_call (vs := [.agg (vals (a)), .agg (vals (b))]) (v := .agg (vals (each max (a) (b)))) rfl rfl (enters_join _ _) (join_any _ _ la lb W)⟩
  · exact .inl ⟨rfl, fun W hb => yields_load rfl rfl (load_dot_run ((hD2).below hb (hD2).lt))⟩
  · exact .inl ⟨rfl, fun W hb => yields_call (vs := [.agg (vals (each max (a) (b))), .agg (dotc (r) (n))]) (v := .bool false) rfl rfl (enters_has _ _) (okcall (has_any _ _ _ (each_length max _ _ la lb) W) hj.out)⟩
  · exact .inl ⟨rfl, fun W hb => yields_move rfl rfl⟩
  · exact .inl ⟨rfl, fun W hb => yields_move rfl rfl⟩
  · exact .inl ⟨rfl, fun W hb => yields_move rfl rfl⟩
  · exact .inl ⟨rfl, fun W hb => yields_pick (b := false) rfl rfl rfl⟩
  · exact .inl ⟨rfl, fun W hb => yields_bin rfl rfl rfl (eqGuard_bool W) (neq_bool W)⟩
  · exact .inl ⟨rfl, fun W hb => yields_move rfl rfl⟩
  · exact .inl ⟨rfl, fun W hb => yields_load rfl rfl (load_run ((hA2).below hb (hA2).lt) la)⟩
  · exact .inl ⟨rfl, fun W hb => yields_load rfl rfl (load_run ((hB2).below hb (hB2).lt) lb)⟩
  · exact .inl ⟨rfl, fun W hb => yields_call (vs := [.agg (vals (a)), .agg (vals (b))]) (v := .agg (vals (each min (a) (b)))) rfl rfl (enters_meet _ _) (meet_any _ _ la lb W)⟩
  · exact .inl ⟨rfl, fun W hb => yields_load rfl rfl (load_dot_run ((hD2).below hb (hD2).lt))⟩
  · exact .inl ⟨rfl, fun W hb => yields_call (vs := [.agg (vals (each min (a) (b))), .agg (dotc (r) (n))]) (v := .bool false) rfl rfl (enters_has _ _) (okcall (has_any _ _ _ (each_length min _ _ la lb) W) hm.out)⟩
  · exact .inl ⟨rfl, fun W hb => yields_move rfl rfl⟩
  · exact .inl ⟨rfl, fun W hb => yields_move rfl rfl⟩
  · exact .inr ⟨rfl, rfl⟩
  · exact .inl ⟨rfl, fun W hb => yields_pick (b := false) rfl rfl rfl⟩
  · exact .inl ⟨rfl, fun W hb => yields_bin rfl rfl rfl (eqGuard_bool W) (neq_bool W)⟩
  · exact .inl ⟨rfl, fun W hb => yields_pick (b := false) rfl rfl rfl⟩
  intro w3 hb3
  have hA3 := hA2.below hb3 hA2.lt
  have hB3 := hB2.below hb3 hB2.lt
  have hW3 : Hid (Below w.heap.size w w3) := hW2.out.trans (hb3.mono hW2.out.size)
  clear hA2 hB2 hD2 hb3 hW2
  go_wp2_with (first | refine load_vec rfl rfl rfl hA3 la ?_ | refine load_vec rfl rfl rfl hB3 lb ?_)
  refine (compare_any a b la lb _).mono ?_
  rintro e w4 ⟨rfl, hb4⟩
  have hW4 : Hid (Below w.heap.size w w4) := hW3.out.trans (hb4.mono hW3.out.size)
  clear hA3 hB3 hb4 hW3
  rcases way_four a b with h | h | h | h
  · rw [h]
    clear h
    go_wp2
    go_ret
    exact ⟨rfl, hW4.out⟩
  · rw [h]
    clear h
    go_wp2
    go_ret
    exact ⟨rfl, hW4.out⟩
  · rw [h]
    clear h
    go_wp2
    go_ret
    exact ⟨rfl, hW4.out⟩
  · rw [h]
    clear h
    go_wp2
    go_ret
    exact ⟨rfl, hW4.out⟩
theorem covers_walk (a b : List Int) (r n : Int) (la : a.length = 16) (lb : b.length = 16) (w : World) :
    Calls Try.prog 7 #[.agg (vals a), .agg (vals b), .agg (dotc r n)] w fun e w' => e = .returned (.bool true) ∧ Below w.heap.size w w' := by
  rcases Bool.eq_false_or_eq_true (hasv a r n) with hx | hx <;> rcases Bool.eq_false_or_eq_true (hasv b r n) with hy | hy
  · exact covers_truetrue a b r n la lb hx hy w
  · exact covers_truefalse a b r n la lb hx hy w
  · exact covers_falsetrue a b r n la lb hx hy w
  · exact covers_falsefalse a b r n la lb hx hy w
end Go.Proofs.Ytdphhkchodaeiaa
