/-
  What the reference's Most and Compare come to.
-/
import Derived.Test.YtdphhkchodaeiaaCmp
import Derived.BigQuiet
namespace Go.Proofs.Ytdphhkchodaeiaa
open Go.RowKit

set_option maxHeartbeats 1000000 in
theorem most_any (a b : List Int) (la : a.length = 16) (lb : b.length = 16) (w : World) :
    Calls Try.prog 29 #[.agg (vals a), .agg (vals b)] w fun e w' => e = .returned (.bool (most a b)) ∧ Below w.heap.size w w' := by
  obtain ⟨hA, hB, hb0⟩ := boxed2 w a b
  go_enter Try.func29, Try.ntmps29
  go_wp2_with fail
  go_loopw [5] (fun i wr => ∃ k : Nat, k ≤ 16 ∧ i = .int .i64 (k : Int) ∧ (∀ j, j < k → a.getD j 0 ≤ b.getD j 0) ∧ Lies wr w.heap.size a ∧ Lies wr (w.heap.size + 1) b ∧ Below w.heap.size w wr) (fun i _ => 16 - (intOf i).toNat)
  case atStart => exact ⟨0, by omega, rfl, fun j hj => by omega, hA, hB, hb0⟩
  case round =>
    obtain ⟨k, hk, rfl, hall, hA', hB', hb⟩ := hrel
    clear hA hB hb0
    have HB : Hid (Below w.heap.size w wr) := hb
    clear hb
    have HA : Hid _ := hall
    clear hall
    by_cases h : k < 16
    · have hc := hA'.cell (k := k) (by omega)
      have hcb := hB'.cell (k := k) (by omega)
      have hia := fun (W : World) (g : Nat) => run_indexAt_vec W g k h
      have Ha : Hid _ := hA'.drew
      have Hb : Hid _ := hB'.drew
      have Hs : Hid (a.getD k 0 ≤ b.getD k 0 → ∀ j, j < k + 1 → a.getD j 0 ≤ b.getD j 0) := by
        intro hle j hj
        by_cases he : j = k
        · subst he; exact hle
        · exact HA.out j (by omega)
      have Hn : Hid (b.getD k 0 < a.getD k 0 → most a b = false) := by
        intro hlt
        rw [Bool.eq_false_iff]
        intro hm
        have := (most_spec a b).1 hm k h
        omega
      clear hA' hB' HA
      generalize a.getD k 0 = x at *
      generalize b.getD k 0 = y at *
      by_cases hxy : y < x
      · go_wp2_with fail
        go_quiet (fail)
        go_wp2
        go_ret
        exact ⟨by rw [Hn.out (by omega)]; rfl, Below.drewN HB.out _⟩
      · go_wp2_with fail
        go_quiet (fail)
        go_wp2
        go_roundw
        case rel => exact ⟨k + 1, by omega, by go_num, Hs.out (by omega), Ha.out, Hb.out, Below.drewN HB.out _⟩
        case measure => simp [intOf]; omega
    · obtain rfl : k = 16 := by omega
      have Hr : Hid (most a b = true) := (most_spec a b).2 HA.out
      clear HA hA' hB'
      go_wp2
      go_ret
      exact ⟨by rw [Hr.out]; rfl, HB.out⟩

set_option maxHeartbeats 400000 in
theorem rcompare_truetrue (a b : List Int) (la : a.length = 16) (lb : b.length = 16) (h1 : most a b = true) (h2 : most b a = true) (hr : way a b = 0) (w : World) :
    Calls Try.prog 23 #[.agg (vals a), .agg (vals b)] w fun e w' => e = .returned (.int .i64 (way a b)) ∧ Below w.heap.size w w' := by
  obtain ⟨hA, hB, hb0⟩ := boxed2 w a b
  have H1 : Hid _ := h1
  have H2 : Hid _ := h2
  have H0 : Hid _ := hb0
  rw [hr]
  clear h1 h2 hr hb0
  go_enter Try.func23, Try.ntmps23
  go_wp2_with fail
  refine region_vals [7, 8, 9, 10, 11, 12, 5, 6] [.agg (vals (a)), .agg (vals (b)), .bool true, .agg (vals (b)), .agg (vals (a)), .bool true, .bool true, .bool true] _ (by kernel_rfl) (by kernel_rfl) (by rfl) (by decide) (by kernel_rfl) (by simp only [lay, Act.put, List.setIfInBounds_toArray, List.set_cons_zero, List.set_cons_succ, List.getD_cons_zero, List.getD_cons_succ, Nat.reduceAdd]; rfl) ⟨?_, ?_, ?_, ?_, ?_, ?_, ?_, ?_, trivial⟩ ?_
  · exact .inl ⟨rfl, fun W hb => yields_load rfl rfl (load_run ((hA).below hb (hA).lt) la)⟩
  · exact .inl ⟨rfl, fun W hb => yields_load rfl rfl (load_run ((hB).below hb (hB).lt) lb)⟩
  · exact .inl ⟨rfl, fun W hb => yields_call (vs := [.agg (vals (a)), .agg (vals (b))]) (v := .bool true) rfl rfl (enters_most _ _) (okbool (most_any _ _ la lb W) H1.out)⟩
  · exact .inl ⟨rfl, fun W hb => yields_load rfl rfl (load_run ((hB).below hb (hB).lt) lb)⟩
  · exact .inl ⟨rfl, fun W hb => yields_load rfl rfl (load_run ((hA).below hb (hA).lt) la)⟩
  · exact .inl ⟨rfl, fun W hb => yields_call (vs := [.agg (vals (b)), .agg (vals (a))]) (v := .bool true) rfl rfl (enters_most _ _) (okbool (most_any _ _ lb la W) H2.out)⟩
  · exact .inl ⟨rfl, fun W hb => yields_assign rfl rfl⟩
  · exact .inl ⟨rfl, fun W hb => yields_assign rfl rfl⟩
  intro w2 hb2
  have HB : Hid (Below w.heap.size w w2) := H0.out.trans (hb2.mono H0.out.size)
  clear hA hB hb2 H0 H1 H2
  go_wp2
  go_ret
  exact ⟨rfl, HB.out⟩
set_option maxHeartbeats 400000 in
theorem rcompare_truefalse (a b : List Int) (la : a.length = 16) (lb : b.length = 16) (h1 : most a b = true) (h2 : most b a = false) (hr : way a b = 1) (w : World) :
    Calls Try.prog 23 #[.agg (vals a), .agg (vals b)] w fun e w' => e = .returned (.int .i64 (way a b)) ∧ Below w.heap.size w w' := by
  obtain ⟨hA, hB, hb0⟩ := boxed2 w a b
  have H1 : Hid _ := h1
  have H2 : Hid _ := h2
  have H0 : Hid _ := hb0
  rw [hr]
  clear h1 h2 hr hb0
  go_enter Try.func23, Try.ntmps23
  go_wp2_with fail
  refine region_vals [7, 8, 9, 10, 11, 12, 5, 6] [.agg (vals (a)), .agg (vals (b)), .bool true, .agg (vals (b)), .agg (vals (a)), .bool false, .bool true, .bool false] _ (by kernel_rfl) (by kernel_rfl) (by rfl) (by decide) (by kernel_rfl) (by simp only [lay, Act.put, List.setIfInBounds_toArray, List.set_cons_zero, List.set_cons_succ, List.getD_cons_zero, List.getD_cons_succ, Nat.reduceAdd]; rfl) ⟨?_, ?_, ?_, ?_, ?_, ?_, ?_, ?_, trivial⟩ ?_
  · exact .inl ⟨rfl, fun W hb => yields_load rfl rfl (load_run ((hA).below hb (hA).lt) la)⟩
  · exact .inl ⟨rfl, fun W hb => yields_load rfl rfl (load_run ((hB).below hb (hB).lt) lb)⟩
  · exact .inl ⟨rfl, fun W hb => yields_call (vs := [.agg (vals (a)), .agg (vals (b))]) (v := .bool true) rfl rfl (enters_most _ _) (okbool (most_any _ _ la lb W) H1.out)⟩
  · exact .inl ⟨rfl, fun W hb => yields_load rfl rfl (load_run ((hB).below hb (hB).lt) lb)⟩
  · exact .inl ⟨rfl, fun W hb => yields_load rfl rfl (load_run ((hA).below hb (hA).lt) la)⟩
  · exact .inl ⟨rfl, fun W hb => yields_call (vs := [.agg (vals (b)), .agg (vals (a))]) (v := .bool false) rfl rfl (enters_most _ _) (okbool (most_any _ _ lb la W) H2.out)⟩
  · exact .inl ⟨rfl, fun W hb => yields_assign rfl rfl⟩
  · exact .inl ⟨rfl, fun W hb => yields_assign rfl rfl⟩
  intro w2 hb2
  have HB : Hid (Below w.heap.size w w2) := H0.out.trans (hb2.mono H0.out.size)
  clear hA hB hb2 H0 H1 H2
  go_wp2
  go_ret
  exact ⟨rfl, HB.out⟩
set_option maxHeartbeats 400000 in
theorem rcompare_falsetrue (a b : List Int) (la : a.length = 16) (lb : b.length = 16) (h1 : most a b = false) (h2 : most b a = true) (hr : way a b = 2) (w : World) :
    Calls Try.prog 23 #[.agg (vals a), .agg (vals b)] w fun e w' => e = .returned (.int .i64 (way a b)) ∧ Below w.heap.size w w' := by
  obtain ⟨hA, hB, hb0⟩ := boxed2 w a b
  have H1 : Hid _ := h1
  have H2 : Hid _ := h2
  have H0 : Hid _ := hb0
  rw [hr]
  clear h1 h2 hr hb0
  go_enter Try.func23, Try.ntmps23
  go_wp2_with fail
  refine region_vals [7, 8, 9, 10, 11, 12, 5, 6] [.agg (vals (a)), .agg (vals (b)), .bool false, .agg (vals (b)), .agg (vals (a)), .bool true, .bool false, .bool true] _ (by kernel_rfl) (by kernel_rfl) (by rfl) (by decide) (by kernel_rfl) (by simp only [lay, Act.put, List.setIfInBounds_toArray, List.set_cons_zero, List.set_cons_succ, List.getD_cons_zero, List.getD_cons_succ, Nat.reduceAdd]; rfl) ⟨?_, ?_, ?_, ?_, ?_, ?_, ?_, ?_, trivial⟩ ?_
  · exact .inl ⟨rfl, fun W hb => yields_load rfl rfl (load_run ((hA).below hb (hA).lt) la)⟩
  · exact .inl ⟨rfl, fun W hb => yields_load rfl rfl (load_run ((hB).below hb (hB).lt) lb)⟩
  · exact .inl ⟨rfl, fun W hb => yields_call (vs := [.agg (vals (a)), .agg (vals (b))]) (v := .bool false) rfl rfl (enters_most _ _) (okbool (most_any _ _ la lb W) H1.out)⟩
  · exact .inl ⟨rfl, fun W hb => yields_load rfl rfl (load_run ((hB).below hb (hB).lt) lb)⟩
  · exact .inl ⟨rfl, fun W hb => yields_load rfl rfl (load_run ((hA).below hb (hA).lt) la)⟩
  · exact .inl ⟨rfl, fun W hb => yields_call (vs := [.agg (vals (b)), .agg (vals (a))]) (v := .bool true) rfl rfl (enters_most _ _) (okbool (most_any _ _ lb la W) H2.out)⟩
  · exact .inl ⟨rfl, fun W hb => yields_assign rfl rfl⟩
  · exact .inl ⟨rfl, fun W hb => yields_assign rfl rfl⟩
  intro w2 hb2
  have HB : Hid (Below w.heap.size w w2) := H0.out.trans (hb2.mono H0.out.size)
  clear hA hB hb2 H0 H1 H2
  go_wp2
  go_ret
  exact ⟨rfl, HB.out⟩
set_option maxHeartbeats 400000 in
theorem rcompare_falsefalse (a b : List Int) (la : a.length = 16) (lb : b.length = 16) (h1 : most a b = false) (h2 : most b a = false) (hr : way a b = 3) (w : World) :
    Calls Try.prog 23 #[.agg (vals a), .agg (vals b)] w fun e w' => e = .returned (.int .i64 (way a b)) ∧ Below w.heap.size w w' := by
  obtain ⟨hA, hB, hb0⟩ := boxed2 w a b
  have H1 : Hid _ := h1
  have H2 : Hid _ := h2
  have H0 : Hid _ := hb0
  rw [hr]
  clear h1 h2 hr hb0
  go_enter Try.func23, Try.ntmps23
  go_wp2_with fail
  refine region_vals [7, 8, 9, 10, 11, 12, 5, 6] [.agg (vals (a)), .agg (vals (b)), .bool false, .agg (vals (b)), .agg (vals (a)), .bool false, .bool false, .bool false] _ (by kernel_rfl) (by kernel_rfl) (by rfl) (by decide) (by kernel_rfl) (by simp only [lay, Act.put, List.setIfInBounds_toArray, List.set_cons_zero, List.set_cons_succ, List.getD_cons_zero, List.getD_cons_succ, Nat.reduceAdd]; rfl) ⟨?_, ?_, ?_, ?_, ?_, ?_, ?_, ?_, trivial⟩ ?_
  · exact .inl ⟨rfl, fun W hb => yields_load rfl rfl (load_run ((hA).below hb (hA).lt) la)⟩
  · exact .inl ⟨rfl, fun W hb => yields_load rfl rfl (load_run ((hB).below hb (hB).lt) lb)⟩
  · exact .inl ⟨rfl, fun W hb => yields_call (vs := [.agg (vals (a)), .agg (vals (b))]) (v := .bool false) rfl rfl (enters_most _ _) (okbool (most_any _ _ la lb W) H1.out)⟩
  · exact .inl ⟨rfl, fun W hb => yields_load rfl rfl (load_run ((hB).below hb (hB).lt) lb)⟩
  · exact .inl ⟨rfl, fun W hb => yields_load rfl rfl (load_run ((hA).below hb (hA).lt) la)⟩
  · exact .inl ⟨rfl, fun W hb => yields_call (vs := [.agg (vals (b)), .agg (vals (a))]) (v := .bool false) rfl rfl (enters_most _ _) (okbool (most_any _ _ lb la W) H2.out)⟩
  · exact .inl ⟨rfl, fun W hb => yields_assign rfl rfl⟩
  · exact .inl ⟨rfl, fun W hb => yields_assign rfl rfl⟩
  intro w2 hb2
  have HB : Hid (Below w.heap.size w w2) := H0.out.trans (hb2.mono H0.out.size)
  clear hA hB hb2 H0 H1 H2
  go_wp2
  go_ret
  exact ⟨rfl, HB.out⟩
theorem rcompare_any (a b : List Int) (la : a.length = 16) (lb : b.length = 16) (w : World) :
    Calls Try.prog 23 #[.agg (vals a), .agg (vals b)] w fun e w' => e = .returned (.int .i64 (way a b)) ∧ Below w.heap.size w w' := by
  rcases Bool.eq_false_or_eq_true (most a b) with h1 | h1 <;> rcases Bool.eq_false_or_eq_true (most b a) with h2 | h2
  · exact rcompare_truetrue a b la lb h1 h2 (by unfold way; rw [if_pos (most_both a b la lb h1 h2)]) w
  · exact rcompare_truefalse a b la lb h1 h2 (by unfold way; rw [if_neg (fun e => by rw [← e, most_self] at h2; cases h2), if_pos h1]) w
  · exact rcompare_falsetrue a b la lb h1 h2 (by unfold way; rw [if_neg (fun e => by rw [← e, most_self] at h1; cases h1), if_neg (by rw [h1]; decide), if_pos h2]) w
  · exact rcompare_falsefalse a b la lb h1 h2 (by unfold way; rw [if_neg (fun e => by rw [← e, most_self] at h1; cases h1), if_neg (by rw [h1]; decide), if_neg (by rw [h2]; decide)]) w
end Go.Proofs.Ytdphhkchodaeiaa
