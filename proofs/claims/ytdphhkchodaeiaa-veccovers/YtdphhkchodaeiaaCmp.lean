/-
  What vec.Compare comes to: 0 the same, 1 behind, 2 ahead, 3 abreast.
-/
import Derived.Test.YtdphhkchodaeiaaRvl
namespace Go.Proofs.Ytdphhkchodaeiaa
open Go.RowKit

/-- Is each number of a at most that of b? -/
def most (a b : List Int) : Bool := (List.range 16).all fun i => decide (a.getD i 0 ≤ b.getD i 0)
theorem most_spec (a b : List Int) : most a b = true ↔ ∀ i, i < 16 → a.getD i 0 ≤ b.getD i 0 := by
  rw [most, List.all_eq_true]
  simp only [List.mem_range, decide_eq_true_eq]
theorem most_join (a b : List Int) (la : a.length = 16) (lb : b.length = 16) : each max a b = b ↔ most a b = true := by
  rw [most_spec]
  constructor
  · intro h i hi
    have := congrArg (fun l => l.getD i 0) h
    simp only [each_get _ _ _ _ la lb hi] at this
    omega
  · intro h
    refine vec_ext _ _ (each_length _ _ _ la lb) lb fun i hi => ?_
    have := h i hi
    rw [each_get _ _ _ _ la lb hi]; omega
theorem most_join' (a b : List Int) (la : a.length = 16) (lb : b.length = 16) : each max a b = a ↔ most b a = true := by
  rw [most_spec]
  constructor
  · intro h i hi
    have := congrArg (fun l => l.getD i 0) h
    simp only [each_get _ _ _ _ la lb hi] at this
    omega
  · intro h
    refine vec_ext _ _ (each_length _ _ _ la lb) la fun i hi => ?_
    have := h i hi
    rw [each_get _ _ _ _ la lb hi]; omega
theorem most_meet (a b : List Int) (la : a.length = 16) (lb : b.length = 16) : each min a b = a ↔ most a b = true := by
  rw [most_spec]
  constructor
  · intro h i hi
    have := congrArg (fun l => l.getD i 0) h
    simp only [each_get _ _ _ _ la lb hi] at this
    omega
  · intro h
    refine vec_ext _ _ (each_length _ _ _ la lb) la fun i hi => ?_
    have := h i hi
    rw [each_get _ _ _ _ la lb hi]; omega
theorem most_self (a : List Int) : most a a = true := (most_spec a a).2 fun _ _ => Int.le_refl _
theorem most_both (a b : List Int) (la : a.length = 16) (lb : b.length = 16) (h : most a b = true) (h' : most b a = true) : a = b :=
  vec_ext a b la lb fun i hi => by have := (most_spec a b).1 h i hi; have := (most_spec b a).1 h' i hi; omega

/-- How two vectors stand to one another. -/
def way (a b : List Int) : Int := if a = b then 0 else if most a b = true then 1 else if most b a = true then 2 else 3

theorem okbool {f : FuncId} {xs : Array Value} {W : World} {b c : Bool} (h : Calls Try.prog f xs W fun e w' => e = .returned (.bool b) ∧ Below W.heap.size W w') (hb : b = c) :
    Calls Try.prog f xs W fun e w' => e = .returned (.bool c) ∧ Below W.heap.size W w' := by rw [← hb]; exact h
theorem okint {f : FuncId} {xs : Array Value} {W : World} {b c : Int} (h : Calls Try.prog f xs W fun e w' => e = .returned (.int .i64 b) ∧ Below W.heap.size W w') (hb : b = c) :
    Calls Try.prog f xs W fun e w' => e = .returned (.int .i64 c) ∧ Below W.heap.size W w' := by rw [← hb]; exact h

set_option maxHeartbeats 400000 in
theorem compare_any (a b : List Int) (la : a.length = 16) (lb : b.length = 16) (w : World) :
    Calls Try.prog 22 #[.agg (vals a), .agg (vals b)] w fun e w' => e = .returned (.int .i64 (way a b)) ∧ Below w.heap.size w w' := by
  obtain ⟨hA, hB, hb0⟩ := boxed2 w a b
  have H0 : Hid (Below w.heap.size w ((w.alloc (.cells (vals a) 23)).alloc (.cells (vals b) 23))) := hb0
  clear hb0
  have pv := plain_vec
  have q0 := fun W => run_equalIn_vec W 9998 a b la lb
  by_cases h : a = b
  · have Hr : Hid (way a b = 0) := by show _ = _; rw [way, if_pos h]
    rw [decide_eq_true h] at q0
    clear h
    go_enter Try.func22, Try.ntmps22
    go_wp2_with (first | refine load_vec rfl rfl rfl hA la ?_ | refine load_vec rfl rfl rfl hB lb ?_)
    go_ret
    exact ⟨by rw [Hr.out]; rfl, H0.out⟩
  · rw [decide_eq_false h] at q0
    have lj := each_length max a b la lb
    have q1 := fun W => run_equalIn_vec W 9998 (each max a b) b lj lb
    have q2 := fun W => run_equalIn_vec W 9998 (each max a b) a lj la
    by_cases h1 : most a b = true
    · have Hr : Hid (way a b = 1) := by show _ = _; rw [way, if_neg h, if_pos h1]
      rw [decide_eq_true ((most_join a b la lb).2 h1)] at q1
      clear h h1 q2
      go_enter Try.func22, Try.ntmps22
      go_wp2_with (first | refine load_vec rfl rfl rfl hA la ?_ | refine load_vec rfl rfl rfl hB lb ?_)
      refine (join_any a b la lb _).mono ?_
      rintro e w1 ⟨rfl, hb1⟩
      have hA1 := hA.below hb1 hA.lt
      have hB1 := hB.below hb1 hB.lt
      have H1 : Hid (Below w.heap.size w w1) := H0.out.trans (hb1.mono H0.out.size)
      clear hA hB hb1 H0
      go_wp2_with (first | refine load_vec rfl rfl rfl hA1 la ?_ | refine load_vec rfl rfl rfl hB1 lb ?_)
      go_ret
      exact ⟨by rw [Hr.out]; rfl, H1.out⟩
    · rw [decide_eq_false (fun e => h1 ((most_join a b la lb).1 e))] at q1
      by_cases h2 : most b a = true
      · have Hr : Hid (way a b = 2) := by show _ = _; rw [way, if_neg h, if_neg h1, if_pos h2]
        rw [decide_eq_true ((most_join' a b la lb).2 h2)] at q2
        clear h h1 h2
        go_enter Try.func22, Try.ntmps22
        go_wp2_with (first | refine load_vec rfl rfl rfl hA la ?_ | refine load_vec rfl rfl rfl hB lb ?_)
        refine (join_any a b la lb _).mono ?_
        rintro e w1 ⟨rfl, hb1⟩
        have hA1 := hA.below hb1 hA.lt
        have hB1 := hB.below hb1 hB.lt
        have H1 : Hid (Below w.heap.size w w1) := H0.out.trans (hb1.mono H0.out.size)
        clear hA hB hb1 H0
        go_wp2_with (first | refine load_vec rfl rfl rfl hA1 la ?_ | refine load_vec rfl rfl rfl hB1 lb ?_)
        go_ret
        exact ⟨by rw [Hr.out]; rfl, H1.out⟩
      · have Hr : Hid (way a b = 3) := by show _ = _; rw [way, if_neg h, if_neg h1, if_neg h2]
        rw [decide_eq_false (fun e => h2 ((most_join' a b la lb).1 e))] at q2
        clear h h1 h2
        go_enter Try.func22, Try.ntmps22
        go_wp2_with (first | refine load_vec rfl rfl rfl hA la ?_ | refine load_vec rfl rfl rfl hB lb ?_)
        refine (join_any a b la lb _).mono ?_
        rintro e w1 ⟨rfl, hb1⟩
        have hA1 := hA.below hb1 hA.lt
        have hB1 := hB.below hb1 hB.lt
        have H1 : Hid (Below w.heap.size w w1) := H0.out.trans (hb1.mono H0.out.size)
        clear hA hB hb1 H0
        go_wp2_with (first | refine load_vec rfl rfl rfl hA1 la ?_ | refine load_vec rfl rfl rfl hB1 lb ?_)
        go_ret
        exact ⟨by rw [Hr.out]; rfl, H1.out⟩
end Go.Proofs.Ytdphhkchodaeiaa
