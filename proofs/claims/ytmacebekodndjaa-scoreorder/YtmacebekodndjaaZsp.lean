/-
  What Span comes to, the program's and the reference's.
-/
import Derived.Test.YtmacebekodndjaaZla
import Derived.Lib.MinMax
namespace Go.Proofs.Ytmacebekodndjaa
set_option maxRecDepth 100000
open Go.RowKit

/-- A place, counted from the front. -/
def frontZ (n p : Int) : Int := if p < 0 then p + n else p
def spanZ (many fr tt : Int) : Int × Int := if min (frontZ (max many 0) tt) (max many 0 - 1) < max (frontZ (max many 0) fr) 0 then (0, 0) else (max (frontZ (max many 0) fr) 0, min (frontZ (max many 0) tt) (max many 0 - 1) + 1)
def Wide64 (x : Int) : Prop := -9223372036854775808 ≤ x ∧ x ≤ 9223372036854775807
theorem wide_of {x : Int} (h : (Lit.int .i64 x).wf = true) : Wide64 x := by
  simp [Lit.wf, IntKind.min, IntKind.max, IntKind.signed, IntKind.bits] at h
  unfold Wide64
  omega
theorem wrap_in {x : Int} (h : Wide64 x) : IntKind.i64.wrap x = x := by
  obtain ⟨h1, h2⟩ := h
  simp [IntKind.wrap, IntKind.signed, IntKind.bits]; omega
theorem zfront_any (n p : Int) (w : World) (hn : 0 ≤ n ∧ n ≤ 9223372036854775807) (hp : Wide64 p) : Calls Try.prog 26 #[.int .i64 n, .int .i64 p] w fun e w' => e = .returned (.int .i64 (frontZ n p)) ∧ w' = w := by
  unfold frontZ
  by_cases h : p < 0
  · have hw : IntKind.i64.wrap (p + n) = p + n := wrap_in ⟨by have := hp.1; omega, by omega⟩
    rw [if_pos h]
    go_enter Try.func26, Try.ntmps26
    go_wp2
    go_ret
    exact ⟨rfl, rfl⟩
  · rw [if_neg h]
    go_enter Try.func26, Try.ntmps26
    go_wp2
    go_ret
    exact ⟨rfl, rfl⟩
theorem front_wide {n p : Int} (hn : 0 ≤ n ∧ n ≤ 9223372036854775807) (hp : Wide64 p) : Wide64 (frontZ n p) := by
  unfold frontZ
  unfold Wide64 at *
  split <;> omega
set_option maxHeartbeats 1000000 in
theorem zspan_any (many fr tt : Int) (w : World) (h1 : Wide64 many) (h2 : Wide64 fr) (h3 : Wide64 tt) : Calls Try.prog 16 #[.int .i64 many, .int .i64 fr, .int .i64 tt] w fun e w' => e = .returned (.tuple #[.int .i64 (spanZ many fr tt).1, .int .i64 (spanZ many fr tt).2]) ∧ w' = w := by
  unfold spanZ
  have hn : 0 ≤ max many 0 ∧ max many 0 ≤ 9223372036854775807 := by unfold Wide64 at h1; omega
  obtain ⟨n, hm⟩ : ∃ n, max many 0 = n := ⟨_, rfl⟩
  rw [hm] at hn ⊢
  have hfa := front_wide hn h2
  have hfb := front_wide hn h3
  have hca := zfront_any n fr w hn h2
  have hcb := zfront_any n tt w hn h3
  generalize frontZ n fr = x at *
  generalize frontZ n tt = y at *
  obtain ⟨a, ha⟩ : ∃ a, max x 0 = a := ⟨_, rfl⟩
  obtain ⟨n1, hn1⟩ : ∃ n1, n - 1 = n1 := ⟨_, rfl⟩
  have hwn : IntKind.i64.wrap (n - 1) = n1 := by rw [wrap_in ⟨by omega, by omega⟩, hn1]
  obtain ⟨b, hb⟩ : ∃ b, min y n1 = b := ⟨_, rfl⟩
  have hwb : IntKind.i64.wrap (b + 1) = b + 1 := wrap_in ⟨by unfold Wide64 at hfb; omega, by omega⟩
  rw [ha, hn1, hb]
  have HN1 : Hid (n - 1 = n1) := hn1
  clear hn1 h1 h2 h3 hfa hfb hn
  by_cases hba : b < a
  · rw [if_pos hba]
    go_enter Try.func16, Try.ntmps16
    go_wp2_with fail
    refine hca.mono ?_
    rintro e w1 ⟨rfl, hw1⟩
    obtain rfl := hw1.symm
    go_wp2_with fail
    refine hcb.mono ?_
    rintro e w1 ⟨rfl, hw1⟩
    obtain rfl := hw1.symm
    go_wp2
    go_ret2
    exact ⟨rfl, rfl⟩
  · rw [if_neg hba]
    go_enter Try.func16, Try.ntmps16
    go_wp2_with fail
    refine hca.mono ?_
    rintro e w1 ⟨rfl, hw1⟩
    obtain rfl := hw1.symm
    go_wp2_with fail
    refine hcb.mono ?_
    rintro e w1 ⟨rfl, hw1⟩
    obtain rfl := hw1.symm
    go_wp2
    go_ret2
    exact ⟨rfl, rfl⟩
set_option maxHeartbeats 1000000 in
theorem rzspan_any (many fr tt : Int) (w : World) (h1 : Wide64 many) (h2 : Wide64 fr) (h3 : Wide64 tt) : Calls Try.prog 17 #[.int .i64 many, .int .i64 fr, .int .i64 tt] w fun e w' => e = .returned (.tuple #[.int .i64 (spanZ many fr tt).1, .int .i64 (spanZ many fr tt).2]) ∧ w' = w := by
  unfold spanZ
  have hn : 0 ≤ max many 0 ∧ max many 0 ≤ 9223372036854775807 := by unfold Wide64 at h1; omega
  obtain ⟨n, hm⟩ : ∃ n, max many 0 = n := ⟨_, rfl⟩
  rw [hm] at hn ⊢
  have hfa := front_wide hn h2
  have hfb := front_wide hn h3
  have hxa : (fr < 0 ∧ IntKind.i64.wrap (fr + n) = frontZ n fr) ∨ (¬ fr < 0 ∧ frontZ n fr = fr) := by
    unfold frontZ
    unfold Wide64 at h2
    by_cases h : fr < 0
    · rw [if_pos h]; exact .inl ⟨h, wrap_in ⟨by omega, by omega⟩⟩
    · rw [if_neg h]; exact .inr ⟨h, rfl⟩
  have hxb : (tt < 0 ∧ IntKind.i64.wrap (tt + n) = frontZ n tt) ∨ (¬ tt < 0 ∧ frontZ n tt = tt) := by
    unfold frontZ
    unfold Wide64 at h3
    by_cases h : tt < 0
    · rw [if_pos h]; exact .inl ⟨h, wrap_in ⟨by omega, by omega⟩⟩
    · rw [if_neg h]; exact .inr ⟨h, rfl⟩
  generalize frontZ n fr = x at *
  generalize frontZ n tt = y at *
  obtain ⟨a, ha⟩ : ∃ a, max x 0 = a := ⟨_, rfl⟩
  obtain ⟨n1, hn1⟩ : ∃ n1, n - 1 = n1 := ⟨_, rfl⟩
  have hwn : IntKind.i64.wrap (n - 1) = n1 := by rw [wrap_in ⟨by omega, by omega⟩, hn1]
  obtain ⟨b, hb⟩ : ∃ b, min y n1 = b := ⟨_, rfl⟩
  have hwb : IntKind.i64.wrap (b + 1) = b + 1 := wrap_in ⟨by unfold Wide64 at hfb; omega, by omega⟩
  rw [ha, hn1, hb]
  have HN1 : Hid (n - 1 = n1) := hn1
  clear hn1 h1 h2 h3 hfa hfb hn
  rcases hxa with ⟨h4, h5⟩ | ⟨h4, rfl⟩ <;> rcases hxb with ⟨h6, h7⟩ | ⟨h6, rfl⟩ <;> by_cases hba : b < a
  all_goals
    first | rw [if_pos hba] | rw [if_neg hba]
    go_enter Try.func17, Try.ntmps17
    go_wp2
    go_ret2
    exact ⟨rfl, rfl⟩
end Go.Proofs.Ytmacebekodndjaa
