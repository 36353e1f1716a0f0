/-
  TallyParts: the walk.
-/
import Derived.Test.YtojaphoonaoppaaTwk
namespace Go.Proofs.Ytojaphoonaoppaa
set_option maxRecDepth 100000
open Go.RowKit

set_option maxHeartbeats 4000000 in
theorem tparts_walk (ao : Option Addr) (m c : Nat) (A : List Ev) (bo : Option Addr) (n d : Nat) (B : List Ev) (w : World) (hA : Evs w ao m c A) (hB : Evs w bo n d B) :
    Calls Try.prog 4 #[.slice ao m c, .slice bo n d] w fun e w' => e = .returned (.bool true) ∧ Below w.heap.size w w' := by
  go_enter Try.func4, Try.ntmps4
  go_wp2_with fail
  refine (awake_any w).mono ?_
  rintro e w1 ⟨rfl, hb1⟩
  have HS1 : Aside (Evs w1 ao m c A ∧ Evs w1 bo n d B ∧ Below w.heap.size w w1) := ⟨hA.below hb1 (Nat.le_refl _), hB.below hb1 (Nat.le_refl _), hb1⟩
  clear hb1 hA hB
  by_cases hbig : 2000 < m ∨ 2000 < n
  · have HB1 : Hid (Below w.heap.size w w1) := HS1.out.2.2
    have key : Calls Try.prog 7 #[] w1 fun e w' => e = .returned (.bool true) ∧ Below w.heap.size w w' := (awake_any w1).mono fun e w' ⟨h1, h2⟩ => ⟨h1, HB1.out.trans (h2.mono HB1.out.size)⟩
    have HK : Hid (Calls Try.prog 7 #[] w1 fun e w' => e = .returned (.bool true) ∧ Below w.heap.size w w') := key
    clear key HS1 HB1
    by_cases h1 : 2000 < m
    · have hz : (2000 : Int) < (m : Int) := by omega
      go_wp2_with fail
      refine Calls.mono HK.out ?_
      rintro e w2 ⟨rfl, hb2⟩
      have HB2 : Hid (Below w.heap.size w w2) := hb2
      clear hb2
      go_wp2
      go_ret
      exact ⟨rfl, HB2.out⟩
    · have hz : ¬ (2000 : Int) < (m : Int) := by omega
      have hz2 : (2000 : Int) < (n : Int) := by omega
      go_wp2_with fail
      refine Calls.mono HK.out ?_
      rintro e w2 ⟨rfl, hb2⟩
      have HB2 : Hid (Below w.heap.size w w2) := hb2
      clear hb2
      go_wp2
      go_ret
      exact ⟨rfl, HB2.out⟩
  · have hm : m ≤ 2000 := by omega
    have hn : n ≤ 2000 := by omega
    have hz : ¬ (2000 : Int) < (m : Int) := by omega
    have hz2 : ¬ (2000 : Int) < (n : Int) := by omega
    clear hbig
    have hlA := HS1.out.1.len
    have hlB := HS1.out.2.1.len
    have hwA : Hid (∀ e ∈ A, Wide e) := HS1.out.1.wide
    have hwB : Hid (∀ e ∈ B, Wide e) := HS1.out.2.1.wide
    have hwAB : Hid (∀ e ∈ A ++ B, Wide e) := show ∀ e ∈ A ++ B, Wide e from fun e he => (List.mem_append.1 he).elim (hwA.out e) (hwB.out e)
    have hwBA : Hid (∀ e ∈ B ++ A, Wide e) := show ∀ e ∈ B ++ A, Wide e from fun e he => (List.mem_append.1 he).elim (hwB.out e) (hwA.out e)
    have hsA := sumE_bound A
    have hsB := sumE_bound B
    have ha1 : -2199023255552000 ≤ sumE A := by omega
    have ha2 : sumE A ≤ 2199023255552000 := by omega
    have hb1 : -2199023255552000 ≤ sumE B := by omega
    have hb2 : sumE B ≤ 2199023255552000 := by omega
    have HX : Hid (sumE (A ++ B) = sumE A + sumE B) := sumE_append A B
    have HY : Hid (sumE (B ++ A) = sumE A + sumE B) := by show _ = _; rw [sumE_append]; omega
    have HZ : Hid (byE (B ++ A) = byE (A ++ B)) := byE_comm B A
    clear hsA hsB
    go_wp2_with fail
    refine (tsum_any ao m c A w1 HS1.out.1 (by omega)).mono ?_
    rintro e w2 ⟨rfl, hc2⟩
    have HS2 : Aside (Evs w2 ao m c A ∧ Evs w2 bo n d B ∧ Below w.heap.size w w2) := ⟨HS1.out.1.below hc2 (Nat.le_refl _), HS1.out.2.1.below hc2 (Nat.le_refl _), HS1.out.2.2.trans (hc2.mono HS1.out.2.2.size)⟩
    clear hc2 HS1
    go_wp2_with fail
    refine (tsum_any bo n d B w2 HS2.out.2.1 (by omega)).mono ?_
    rintro e w3 ⟨rfl, hc3⟩
    have HS3 : Aside (Evs w3 ao m c A ∧ Evs w3 bo n d B ∧ Below w.heap.size w w3) := ⟨HS2.out.1.below hc3 (Nat.le_refl _), HS2.out.2.1.below hc3 (Nat.le_refl _), HS2.out.2.2.trans (hc3.mono HS2.out.2.2.size)⟩
    clear hc3 HS2
    -- the first list
    have hN := row_empty w3 w3.heap.size (Nat.le_refl _)
    have hBe : Below w3.heap.size w3 (w3.alloc (.cells #[] 37)) := (Below.refl _ _).alloc (Nat.le_refl _) _
    have hA5 := HS3.out.1.below hBe (Nat.le_refl _)
    have HBe : Hid (Below w3.heap.size w3 (w3.alloc (.cells #[] 37))) := hBe
    have hle5 : w3.heap.size ≤ (w3.alloc (.cells #[] 37)).heap.size := by simp
    clear hBe
    go_wp2_with (first | refine build_ev0 rfl rfl ?_ | refine wpList_appE rfl _ _ rfl w3.heap.size _ [] rfl hN _ m c A rfl hA5 (by simp only [List.length_nil]; omega) hle5 ?_)
    intro v4 w4 hR4 hg4 ho4
    have hR4a : Row w4 w3.heap.size v4 A := hR4
    have hB4 : Below w3.heap.size w3 w4 := HBe.out.grown hg4 hle5 hN.own
    have hB4a := HS3.out.2.1.below hB4 (Nat.le_refl _)
    have hle4 : w3.heap.size ≤ w4.heap.size := hB4.size
    have HB4 : Hid (Below w3.heap.size w3 w4) := hB4
    clear hR4 hg4 ho4 hN hA5 HBe hle5 hB4
    go_wp2_with (refine wpList_appE rfl _ _ rfl w3.heap.size _ A rfl hR4a _ n d B rfl hB4a (by omega) hle4 ?_)
    intro v5 w5 hR5 hg5 ho5
    have hB5 : Below w3.heap.size w3 w5 := HB4.out.grown hg5 hle4 hR4a.own
    obtain ⟨va, vc, hv5, hE5⟩ := hR5.evs hwAB.out
    have HS5 : Aside (Evs w5 va (A ++ B).length vc (A ++ B) ∧ Evs w5 ao m c A ∧ Evs w5 bo n d B ∧ Below w.heap.size w w5) := ⟨hE5, HS3.out.1.below hB5 (Nat.le_refl _), HS3.out.2.1.below hB5 (Nat.le_refl _), HS3.out.2.2.trans (hB5.mono HS3.out.2.2.size)⟩
    have hlAB : (A ++ B).length ≤ 4000 := by rw [List.length_append]; omega
    subst hv5
    clear hR5 hg5 ho5 hB5 HS3 HB4 hR4a hB4a hle4 hE5 hwAB
    generalize A ++ B = X at *
    -- the second list
    have hN := row_empty w5 w5.heap.size (Nat.le_refl _)
    have hBe : Below w5.heap.size w5 (w5.alloc (.cells #[] 37)) := (Below.refl _ _).alloc (Nat.le_refl _) _
    have hA5 := HS5.out.2.2.1.below hBe (Nat.le_refl _)
    have HBe : Hid (Below w5.heap.size w5 (w5.alloc (.cells #[] 37))) := hBe
    have hle5 : w5.heap.size ≤ (w5.alloc (.cells #[] 37)).heap.size := by simp
    clear hBe
    go_wp2_with (first | refine build_ev0 rfl rfl ?_ | refine wpList_appE rfl _ _ rfl w5.heap.size _ [] rfl hN _ n d B rfl hA5 (by simp only [List.length_nil]; omega) hle5 ?_)
    intro v6 w6 hR6 hg6 ho6
    have hR6a : Row w6 w5.heap.size v6 B := hR6
    have hB6 : Below w5.heap.size w5 w6 := HBe.out.grown hg6 hle5 hN.own
    have hB6a := HS5.out.2.1.below hB6 (Nat.le_refl _)
    have hle6 : w5.heap.size ≤ w6.heap.size := hB6.size
    have HB6 : Hid (Below w5.heap.size w5 w6) := hB6
    clear hR6 hg6 ho6 hN hA5 HBe hle5 hB6
    go_wp2_with (refine wpList_appE rfl _ _ rfl w5.heap.size _ B rfl hR6a _ m c A rfl hB6a (by omega) hle6 ?_)
    intro v7 w7 hR7 hg7 ho7
    have hB7 : Below w5.heap.size w5 w7 := HB6.out.grown hg7 hle6 hR6a.own
    obtain ⟨ya, yc, hv7, hE7⟩ := hR7.evs hwBA.out
    have HS7 : Aside (Evs w7 va X.length vc X ∧ Evs w7 ya (B ++ A).length yc (B ++ A) ∧ Below w.heap.size w w7) := ⟨HS5.out.1.below hB7 (Nat.le_refl _), hE7, HS5.out.2.2.2.trans (hB7.mono HS5.out.2.2.2.size)⟩
    have hlBA : (B ++ A).length ≤ 5000 := by rw [List.length_append]; omega
    subst hv7
    clear hR7 hg7 ho7 hB7 HS5 HB6 hR6a hB6a hle6 hE7 hwA hwB hwBA
    generalize B ++ A = Y at *
    generalize sumE A = a at *
    generalize sumE B = b at *
    have hxl : X.length ≤ 5000 := by omega
    have hBl := byE_length X
    -- the two sums
    go_wp2_with fail
    refine (tsum_any va X.length vc X w7 HS7.out.1 hxl).mono ?_
    rintro e w8 ⟨rfl, hc8⟩
    have HS8 : Aside (Evs w8 va X.length vc X ∧ Evs w8 ya Y.length yc Y ∧ Below w.heap.size w w8) := ⟨HS7.out.1.below hc8 (Nat.le_refl _), HS7.out.2.1.below hc8 (Nat.le_refl _), HS7.out.2.2.trans (hc8.mono HS7.out.2.2.size)⟩
    clear hc8 HS7
    rw [HX.out]
    go_wp2_with fail
    refine (tsum_any ya Y.length yc Y w8 HS8.out.2.1 hlBA).mono ?_
    rintro e w9 ⟨rfl, hc9⟩
    have HS9 : Aside (Evs w9 va X.length vc X ∧ Evs w9 ya Y.length yc Y ∧ Below w.heap.size w w9) := ⟨HS8.out.1.below hc9 (Nat.le_refl _), HS8.out.2.1.below hc9 (Nat.le_refl _), HS8.out.2.2.trans (hc9.mono HS8.out.2.2.size)⟩
    clear hc9 HS8
    rw [HY.out]
    go_wp2_with fail
    refine (tby_any va X.length vc X w9 HS9.out.1 hxl).mono ?_
    rintro e w10 ⟨rfl, hc10⟩
    have HS10 : Aside (Evs w10 va X.length vc X ∧ Evs w10 ya Y.length yc Y ∧ Below w.heap.size w w10) := ⟨HS9.out.1.below hc10 (Nat.le_refl _), HS9.out.2.1.below hc10 (Nat.le_refl _), HS9.out.2.2.trans (hc10.mono HS9.out.2.2.size)⟩
    clear hc10 HS9
    go_wp2_with fail
    refine (tby_any ya Y.length yc Y w10 HS10.out.2.1 hlBA).mono ?_
    rintro e w11 ⟨rfl, hc11⟩
    have HS11 : Aside (Evs w11 va X.length vc X ∧ Below w.heap.size w w11) := ⟨HS10.out.1.below hc11 (Nat.le_refl _), HS10.out.2.2.trans (hc11.mono HS10.out.2.2.size)⟩
    clear hc11 HS10
    rw [HZ.out]
    have hq := fun W : World => neq_arr_same W (byE X) hBl
    have hpl := plain_arr
    go_wp2_with fail
    refine (tby_any va X.length vc X w11 HS11.out.1 hxl).mono ?_
    rintro e w12 ⟨rfl, hc12⟩
    have hzq := liesA_new w12 zeros
    have hBq : Below w12.heap.size w12 ((w12.alloc (.cells (vals zeros) 24)).setRow w12.heap.size (vals (byE X))) := below_setRow ((Below.refl _ _).alloc (Nat.le_refl _) _) (Nat.le_refl _) _
    have hBp : Below w.heap.size w w12 := HS11.out.2.trans (hc12.mono HS11.out.2.size)
    have HS12 : Aside (LiesA ((w12.alloc (.cells (vals zeros) 24)).setRow w12.heap.size (vals (byE X))) w12.heap.size (byE X) ∧ Evs ((w12.alloc (.cells (vals zeros) 24)).setRow w12.heap.size (vals (byE X))) va X.length vc X ∧ Below w.heap.size w ((w12.alloc (.cells (vals zeros) 24)).setRow w12.heap.size (vals (byE X)))) := ⟨hzq.row _, (HS11.out.1.below hc12 (Nat.le_refl _)).below hBq (Nat.le_refl _), hBp.trans (hBq.mono hBp.size)⟩
    clear hc12 HS11 hBq hBp hq hpl
    go_upto_region 8 with (refine store_arr rfl rfl rfl rfl hzq hBl rfl ?_)
    change Code.wp _ _ _ _ ((w12.alloc (.cells (vals zeros) 24)).setRow w12.heap.size (vals (byE X)))
    clear hzq
    generalize (w12.alloc (.cells (vals zeros) 24)).setRow w12.heap.size (vals (byE X)) = V at *
    generalize w12.heap.size = D at *
    go_wp2
    go_loopg [9, 59] 16 (fun kx s9 s59 wr => ∃ r : Nat, s59 = .int .i64 r ∧ s9 = .int .i64 (allTo X r) ∧ r ≤ 16 ∧ 16 - r ≤ kx ∧ Hid (wr = V))
    case atStart => exact ⟨0, rfl, rfl, by omega, by omega, rfl⟩
    case round =>
      obtain ⟨r, rfl, rfl, hr16, hkx, HV⟩ := hrel
      have hwr := HV.out
      subst hwr
      by_cases hlt : r < 16
      · have hltz : (r : Int) < 16 := by omega
        have hcl : wr.cell? ⟨D, r, none⟩ = some (.int .i64 (ofE (r : Int) X)) := by
          rw [← byE_getD X hlt]
          exact HS12.out.1.cell (by omega)
        have hia := run_indexAt_arr wr D r hlt
        have hy := allTo_bound X r
        have ho := ofE_bound (r : Int) X
        have hp : 1099511627776 * (X.length : Int) * (r : Int) ≤ 1099511627776 * 5000 * 16 := Int.mul_le_mul (by omega) (by omega) (by omega) (by omega)
        have hy1 : -87960930222080000 ≤ allTo X r := by omega
        have hy2 : allTo X r ≤ 87960930222080000 := by omega
        have ho1 : -5497558138880000 ≤ ofE (r : Int) X := by omega
        have ho2 : ofE (r : Int) X ≤ 5497558138880000 := by omega
        have HN : Hid (allTo X (r + 1) = allTo X r + ofE (r : Int) X) := show _ = _ from rfl
        clear hy ho hp
        generalize allTo X r = s at *
        generalize ofE (r : Int) X = t at *
        go_wp2
        go_roundg (16 - (r + 1))
        case measure => omega
        case rel => exact ⟨r + 1, by go_num, by rw [HN.out], by omega, Nat.le_refl _, rfl⟩
      · obtain rfl : r = 16 := by omega
        have HS0 : Aside (Evs wr va X.length vc X ∧ Below w.heap.size w wr) := HS12.out.2
        have HB0 : Hid (Below w.heap.size w wr) := HS0.out.2
        clear HS12
        have HA : Hid ((∀ e ∈ X, 0 ≤ e.r ∧ e.r < 16) → allTo X 16 = a + b) := show _ from fun h => (allTo_sum X h).trans HX.out
        obtain ⟨q, HQ⟩ : ∃ q, Hid (allTo X 16 = q) := ⟨_, show _ = _ from rfl⟩
        rw [HQ.out] at HA ⊢
        have hXl : X.length ≤ 9223372036854775807 := by omega
        go_wp2
        go_loopg [70] X.length (fun kx s70 wx => ∃ i : Nat, s70 = .int .i64 i ∧ i ≤ X.length ∧ X.length - i ≤ kx ∧ Hid (wx = wr) ∧ Hid (∀ e ∈ X.take i, 0 ≤ e.r ∧ e.r < 16))
        case atStart => exact ⟨0, rfl, by omega, by omega, rfl, fun e he => by simp at he⟩
        case round =>
          obtain ⟨i, rfl, him, hkx2, HV2, HT⟩ := hrel
          have hwr := HV2.out
          subst hwr
          by_cases hil : i < X.length
          · have hilz : (i : Int) < (X.length : Int) := by omega
            obtain ⟨b0, off, u, rfl, hui, hu, hr, hbl⟩ := HS0.out.1.at hil
            have hix := fun W : World => index_ev W (b := b0) (off := off) (k := i) (m := X.length) (c := vc) hil
            have c0 : wr.cell? ⟨b0, off + i * 26, none⟩ = some (.int .i64 u.r) := hr 0 _ rfl
            clear hr hbl
            by_cases h1 : 0 ≤ u.r
            · by_cases h2 : u.r < 16
              · have HT2 : Hid (∀ e ∈ X.take (i + 1), 0 ≤ e.r ∧ e.r < 16) := show ∀ e ∈ X.take (i + 1), 0 ≤ e.r ∧ e.r < 16 from fun e he => by
                  rw [take_snoc hui] at he
                  rcases List.mem_append.1 he with h | h
                  · exact HT.out e h
                  · rw [List.mem_singleton.1 h]; exact ⟨h1, h2⟩
                clear HT
                go_wp2
                go_roundg (X.length - (i + 1))
                case measure => omega
                case rel => exact ⟨i + 1, by go_num, by omega, Nat.le_refl _, rfl, HT2⟩
              · go_wp2
                go_ret
                exact ⟨rfl, HB0.out⟩
            · go_wp2
              go_ret
              exact ⟨rfl, HB0.out⟩
          · obtain rfl : i = X.length := by omega
            have hE : q = a + b := HA.out (by have := HT.out; rw [List.take_length] at this; exact this)
            subst hE
            clear HA HT
            go_wp2
            go_ret
            exact ⟨rfl, HB0.out⟩
end Go.Proofs.Ytojaphoonaoppaa
