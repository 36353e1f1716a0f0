/-
  TallyBounds: the walk.
-/
import Derived.Test.YtojaphoonaoppaaTwk
namespace Go.Proofs.Ytojaphoonaoppaa
set_option maxRecDepth 100000
open Go.RowKit

theorem sum_more {E : List Ev} {n : Int} (h1 : -1099511627776 ≤ n) (h2 : n ≤ 1099511627776) : sumE (E ++ [incE n]) = sumE E + n := by
  rw [sumE_append]
  simp [sumE, oneE, incE]
  omega
set_option maxHeartbeats 2000000 in
theorem tbounds_walk (ao : Option Addr) (m c : Nat) (E : List Ev) (n : Int) (w : World) (hE : Evs w ao m c E) :
    Calls Try.prog 5 #[.slice ao m c, .int .i64 n] w fun e w' => e = .returned (.bool true) ∧ Below w.heap.size w w' := by
  have hlen := hE.len
  go_enter Try.func5, Try.ntmps5
  go_wp2_with fail
  refine (awake_any w).mono ?_
  rintro e w1 ⟨rfl, hb1⟩
  have HB1 : Hid (Below w.heap.size w w1) := hb1
  have hE1 := hE.below hb1 (Nat.le_refl _)
  clear hb1 hE
  by_cases hbig : 2000 < m
  · have hz : (2000 : Int) < (m : Int) := by omega
    clear hE1
    go_wp2_with fail
    refine (awake_any w1).mono ?_
    rintro e w2 ⟨rfl, hb2⟩
    have HB2 : Hid (Below w.heap.size w w2) := HB1.out.trans (hb2.mono HB1.out.size)
    clear hb2 HB1
    go_wp2
    go_ret
    exact ⟨rfl, HB2.out⟩
  · have hz : ¬ (2000 : Int) < (m : Int) := by omega
    have hm : m ≤ 5000 := by omega
    go_wp2_with fail
    refine (tcheck_any ao m c E n w1 hE1 hm).mono ?_
    rintro e w2 ⟨rfl, hb2⟩
    have HS2 : Aside (Evs w2 ao m c E ∧ Below w.heap.size w w2) := ⟨hE1.below hb2 (Nat.le_refl _), HB1.out.trans (hb2.mono HB1.out.size)⟩
    clear hb2 hE1 HB1
    by_cases h1 : -1099511627776 ≤ n
    · by_cases h2 : n ≤ 1099511627776
      · have HM : Hid (sumE (E ++ [incE n]) = sumE E + n) := sum_more h1 h2
        have hs := sumE_bound E
        have hwE : Hid (∀ x ∈ E ++ [incE n], Wide x) := show ∀ x ∈ E ++ [incE n], Wide x from fun x hx => (List.mem_append.1 hx).elim (HS2.out.1.wide x) (wide_one (incE_wide n) x)
        have hll : (E ++ [incE n]).length ≤ 5000 := by rw [List.length_append, List.length_singleton]; omega
        obtain ⟨q, HQ⟩ : ∃ q, Hid (checkE E n = q) := ⟨_, show _ = _ from rfl⟩
        rw [HQ.out]
        have hN := row_empty w2 w2.heap.size (Nat.le_refl _)
        have hBe : Below w2.heap.size w2 (w2.alloc (.cells #[] 37)) := (Below.refl _ _).alloc (Nat.le_refl _) _
        have hA5 := HS2.out.1.below hBe (Nat.le_refl _)
        have HBe : Hid (Below w2.heap.size w2 (w2.alloc (.cells #[] 37))) := hBe
        have hle5 : w2.heap.size ≤ (w2.alloc (.cells #[] 37)).heap.size := by simp
        clear hBe hs
        go_wp2_with (first | refine build_ev0 rfl rfl ?_ | refine wpList_appE rfl _ _ rfl w2.heap.size _ [] rfl hN _ m c E rfl hA5 (by simp only [List.length_nil]; omega) hle5 ?_)
        intro v4 w4 hR4 hg4 ho4
        have hR4a : Row w4 w2.heap.size v4 E := hR4
        have hB4 : Below w2.heap.size w2 w4 := HBe.out.grown hg4 hle5 hN.own
        have hle4 : w2.heap.size ≤ (w4.alloc (.cells (evc (incE n)) 37)).heap.size := Nat.le_trans hB4.size (by simp)
        have hRow : Row (w4.alloc (.cells (evc (incE n)) 37)) w2.heap.size v4 E := hR4a.below ((Below.refl _ _).alloc (Nat.le_refl _) _) (Nat.le_refl _)
        have hF : Evs (w4.alloc (.cells (evc (incE n)) 37)) (some ⟨w4.heap.size, 0, none⟩) 1 1 [incE n] := evs_single _ _ _ (incE_wide n) (liesE_new w4 (incE n))
        have HB4 : Hid (Below w2.heap.size w2 (w4.alloc (.cells (evc (incE n)) 37))) := hB4.alloc hB4.size _
        clear hR4 hg4 ho4 hN hA5 HBe hle5 hB4 hR4a
        go_wp2_with (first | refine build_ev1 (u := incE n) rfl rfl rfl rfl ?_ | refine wpList_appE rfl _ _ rfl w2.heap.size _ E rfl hRow _ 1 1 [incE n] rfl hF (by omega) hle4 ?_)
        intro v5 w5 hR5 hg5 ho5
        have hB5 : Below w2.heap.size w2 w5 := HB4.out.grown hg5 hle4 hRow.own
        have HB5 : Hid (Below w.heap.size w w5) := HS2.out.2.trans (hB5.mono HS2.out.2.size)
        obtain ⟨va, vc, hv5, hE5⟩ := hR5.evs hwE.out
        subst hv5
        clear hR5 hg5 ho5 hB5 HS2 HB4 hRow hF hle4
        obtain ⟨F, HF⟩ : ∃ F, Hid (E ++ [incE n] = F) := ⟨_, show _ = _ from rfl⟩
        rw [HF.out] at hE5 hll HM ⊢
        go_wp2_with fail
        refine (tsum_any va F.length vc F w5 hE5 hll).mono ?_
        rintro e w6 ⟨rfl, hb6⟩
        have HB6 : Hid (Below w.heap.size w w6) := HB5.out.trans (hb6.mono HB5.out.size)
        clear hb6 hE5 HB5
        rw [HM.out]
        by_cases h3 : -1125899906842624 ≤ sumE E + n
        · by_cases h4 : sumE E + n ≤ 1125899906842624
          · have HC : q = 0 := by rw [← HQ.out]; exact checkE_ok ⟨h1, h2⟩ ⟨h3, h4⟩
            subst HC
            clear HQ HM
            generalize sumE E + n = s at *
            go_wp2
            go_ret
            exact ⟨rfl, HB6.out⟩
          · have HC : q = 6 := by rw [← HQ.out]; exact checkE_over (fun h => h4 h.2)
            subst HC
            clear HQ HM
            generalize sumE E + n = s at *
            go_wp2
            go_ret
            exact ⟨by show Ending.returned (.bool (!decide (s ≤ 1125899906842624))) = _; rw [decide_eq_false (by omega)]; rfl, HB6.out⟩
        · have HC : q = 6 := by rw [← HQ.out]; exact checkE_over (fun h => h3 h.1)
          subst HC
          clear HQ HM
          generalize sumE E + n = s at *
          go_wp2
          go_ret
          exact ⟨rfl, HB6.out⟩
      · rw [checkE_far (fun h => h2 h.2)]
        have HB2 : Hid (Below w.heap.size w w2) := HS2.out.2
        clear HS2
        go_wp2
        go_ret
        exact ⟨rfl, HB2.out⟩
    · rw [checkE_far (fun h => h1 h.1)]
      have HB2 : Hid (Below w.heap.size w w2) := HS2.out.2
      clear HS2
      go_wp2
      go_ret
      exact ⟨rfl, HB2.out⟩
end Go.Proofs.Ytojaphoonaoppaa
