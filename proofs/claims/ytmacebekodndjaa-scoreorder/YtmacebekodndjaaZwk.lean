/-
  What the laws' same, few and awake come to.
-/
import Derived.Test.YtmacebekodndjaaZsp
namespace Go.Proofs.Ytmacebekodndjaa
set_option maxRecDepth 100000
open Go.RowKit

set_option maxHeartbeats 1000000 in
theorem zsame_yes (a1 a2 : Option Addr) (c1 c2 : Nat) (S : List Pr) (w : World) (h1 : PL w a1 S) (h2 : PL w a2 S) (hm : S.length ≤ 1048576) :
    Calls Try.prog 13 #[.slice a1 S.length c1, .slice a2 S.length c2] w fun e w' => e = .returned (.bool true) ∧ Below w.heap.size w w' := by
  have H1 : Aside (PL w a1 S ∧ PL w a2 S) := ⟨h1, h2⟩
  clear h1 h2
  obtain ⟨m, hmS⟩ : ∃ m, m = S.length := ⟨_, rfl⟩
  have HM : Hid (m = S.length) := hmS
  rw [← hmS] at hm ⊢
  clear hmS
  go_enter Try.func13, Try.ntmps13
  go_wp2_with fail
  go_loopg [13] m (fun kx s13 wr => ∃ k : Nat, s13 = .int .i64 (k : Int) ∧ k ≤ m ∧ m - k ≤ kx ∧ Aside (Below w.heap.size w wr))
  case atStart => exact ⟨0, rfl, Nat.zero_le _, by omega, Below.refl _ _⟩
  case round =>
    obtain ⟨k, rfl, hk, hkx, HB⟩ := hrel
    by_cases hkm : k < m
    · have hkz : (k : Int) < (m : Int) := by omega
      obtain ⟨d, hd⟩ : ∃ d, S[k]? = some d := ⟨_, List.getElem?_eq_getElem (by have := HM.out; omega)⟩
      obtain ⟨g1, rfl, x0, x1⟩ := (H1.out.1.below HB.out (Nat.le_refl _)) k d hd
      obtain ⟨g2, rfl, y0, y1⟩ := (H1.out.2.below HB.out (Nat.le_refl _)) k d hd
      have hix := fun W : World => index_P W (b := g1) (off := 0) (k := k) (m := m) (c := c1) hkm
      have hiy := fun W : World => index_Q W (b := g2) (off := 0) (k := k) (m := m) (c := c2) hkm
      simp only [Nat.zero_add] at hix hiy
      have hpl := plain_Q
      have heq : ∀ W, (Op.equalIn 10000 50 (.agg #[.string (sb d.1), .int .i64 d.2]) (.agg #[.string (sb d.1), .int .i64 d.2])).run Try.prog W = .ok true W := fun W => by
        have := run_equalIn_Q W 9998 d d
        rw [decide_eq_true rfl] at this
        exact this
      have HB2 : Aside (Below w.heap.size w wr.drew) := HB.out.drew
      clear HB hd
      go_wp2_with fail
      go_region
      go_wp2
      go_roundg (m - (k + 1))
      case measure => omega
      case rel => exact ⟨k + 1, by go_num, by omega, Nat.le_refl _, HB2⟩
    · obtain rfl : k = m := by omega
      go_wp2
      go_ret
      exact ⟨rfl, HB.out⟩

set_option maxHeartbeats 1000000 in
theorem few_any (ao : Option Addr) (m c : Nat) (E : List Ev) (w : World) (hE : Evs w ao m c E) :
    Calls Try.prog 8 #[.slice ao m c] w fun e w' => ∃ t : Bool, e = .returned (.bool t) ∧ (t = true → m ≤ 150) ∧ Below w.heap.size w w' := by
  have HE : Aside (Evs w ao m c E) := hE
  clear hE
  by_cases hbig : 150 < m
  · have hz : (150 : Int) < (m : Int) := by omega
    go_enter Try.func8, Try.ntmps8
    go_wp2
    go_ret
    exact ⟨_, rfl, by simp, Below.refl _ _⟩
  · have hz : ¬ (150 : Int) < (m : Int) := by omega
    go_enter Try.func8, Try.ntmps8
    go_wp2
    go_loopg [9] m (fun kx s9 wr => ∃ i : Nat, s9 = .int .i64 i ∧ i ≤ m ∧ m - i ≤ kx ∧ Below w.heap.size w wr)
    case atStart => exact ⟨0, rfl, Nat.zero_le _, by omega, Below.refl _ _⟩
    case round =>
      obtain ⟨i, rfl, him, hkx, hb⟩ := hrel
      by_cases hlt : i < m
      · have hltz : (i : Int) < (m : Int) := by omega
        obtain ⟨b, off, u, rfl, hui, hu, hr, hbl⟩ := (HE.out.below hb (Nat.le_refl _)).at hlt
        have hix := fun W : World => index_ev W (b := b) (off := off) (k := i) (m := m) (c := c) hlt
        have ck := range_field hr hu.1
        have HB : Hid (Below w.heap.size w wr) := hb
        clear hr hb
        by_cases hg : (1000 : Int) < ((sb u.field).size : Int)
        · go_wp2
          go_ret
          exact ⟨_, rfl, fun _ => by omega, HB.out⟩
        · go_wp2
          go_roundg (m - (i + 1))
          case measure => omega
          case rel => exact ⟨i + 1, by go_num, by omega, Nat.le_refl _, HB.out⟩
      · have hltz : ¬ (i : Int) < (m : Int) := by omega
        have HB : Hid (Below w.heap.size w wr) := hb
        clear hb
        go_wp2
        go_ret
        exact .inr ⟨rfl, by omega, HB.out⟩

/-- The event that gives f the score 3. -/
def zadE : Ev := ⟨0, 0, 0, zeros, 7, [], [102], [], 3, 0, 0⟩
theorem zadE_wide : Wide zadE := ⟨rfl, ⟨by simp [zadE], by simp [zadE], by simp [zadE]⟩⟩
theorem zad_num : numZ [zadE] [102] = 3 := by decide +kernel
theorem zad_ok : okZ [zadE] [102] = true := by decide +kernel
theorem span_529 : spanZ 5 (-2) 9 = (3, 5) := by decide +kernel
set_option maxHeartbeats 1000000 in
theorem awake_any (w : World) : Calls Try.prog 7 #[] w fun e w' => e = .returned (.bool true) ∧ Below w.heap.size w w' := by
  have hE0 := evs_single (w.alloc (.cells (evc zadE) 43)) w.heap.size zadE zadE_wide (liesE_new w zadE)
  go_enter Try.func7, Try.ntmps7
  go_wp2_with (refine build_ev1 (u := zadE) rfl rfl rfl rfl ?_)
  refine (zget_any (some ⟨w.heap.size, 0, none⟩) 1 1 [zadE] [102] _ hE0 (by omega) (by decide)).mono ?_
  rintro e w1 ⟨rfl, hb1⟩
  have HB1 : Hid (Below w.heap.size w w1) := ((Below.refl _ w).alloc (Nat.le_refl _) (.cells (evc zadE) 43)).trans (hb1.mono (by simp))
  rw [zad_num, zad_ok]
  clear hb1 hE0
  have hsp := zspan_any 5 (-2) 9 w1 (by unfold Wide64; omega) (by unfold Wide64; omega) (by unfold Wide64; omega)
  rw [span_529] at hsp
  go_wp2_with fail
  refine hsp.mono ?_
  rintro e w2 ⟨rfl, hw2⟩
  obtain rfl := hw2.symm
  clear hsp
  go_wp2
  go_ret
  exact ⟨rfl, HB1.out⟩
theorem span_in (many fr tt : Int) : 0 ≤ (spanZ many fr tt).1 ∧ (spanZ many fr tt).1 ≤ (spanZ many fr tt).2 ∧ (spanZ many fr tt).2 ≤ max many 0 := by
  unfold spanZ
  split
  · exact ⟨Int.le_refl _, Int.le_refl _, by show (0 : Int) ≤ _; omega⟩
  · refine ⟨?_, ?_, ?_⟩ <;> dsimp only <;> omega
set_option maxHeartbeats 1000000 in
theorem zspans_walk (many fr tt : Int) (w : World) (h1 : Wide64 many) (h2 : Wide64 fr) (h3 : Wide64 tt) : Calls Try.prog 4 #[.int .i64 many, .int .i64 fr, .int .i64 tt] w fun e w' => e = .returned (.bool true) ∧ Below w.heap.size w w' := by
  have hi := span_in many fr tt
  have ha := fun W => zspan_any many fr tt W h1 h2 h3
  have hb := fun W => rzspan_any many fr tt W h1 h2 h3
  generalize (spanZ many fr tt).1 = x at *
  generalize (spanZ many fr tt).2 = y at *
  obtain ⟨i1, i2, i3⟩ := hi
  go_enter Try.func4, Try.ntmps4
  go_wp2_with fail
  refine (awake_any w).mono ?_
  rintro e w1 ⟨rfl, hb1⟩
  have HB1 : Hid (Below w.heap.size w w1) := hb1
  clear hb1
  go_wp2_with fail
  refine (ha w1).mono ?_
  rintro e w2 ⟨rfl, hw2⟩
  obtain rfl := hw2.symm
  clear ha
  go_wp2_with fail
  refine (hb w1).mono ?_
  rintro e w2 ⟨rfl, hw2⟩
  obtain rfl := hw2.symm
  clear hb
  go_wp2
  go_ret
  exact ⟨rfl, HB1.out⟩
end Go.Proofs.Ytmacebekodndjaa
