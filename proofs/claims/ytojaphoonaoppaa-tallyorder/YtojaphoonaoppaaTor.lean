/-
  TallyOrder: the walk.
-/
import Derived.Test.YtojaphoonaoppaaTwk
namespace Go.Proofs.Ytojaphoonaoppaa
set_option maxRecDepth 100000
open Go.RowKit

/-- The last events, turned round. -/
def backE (E : List Ev) (j : Nat) : List Ev := (E.drop j).reverse
theorem back_end {E : List Ev} {m : Nat} (h : E.length = m) : backE E m = [] := by rw [backE, List.drop_of_length_le (by omega)]; rfl
theorem back_step {E : List Ev} {j : Nat} {u : Ev} (hu : E[j]? = some u) : backE E j = backE E (j + 1) ++ [u] := by
  obtain ⟨hj, rfl⟩ := List.getElem?_eq_some_iff.1 hu
  rw [backE, List.drop_eq_getElem_cons hj, List.reverse_cons]
  rfl
theorem back_all (E : List Ev) : backE E 0 = E.reverse := by simp [backE]
theorem back_len (E : List Ev) (j : Nat) : (backE E j).length = E.length - j := by simp [backE]
theorem checkE_reverse (E : List Ev) (n : Int) : checkE E.reverse n = checkE E n := by unfold checkE; rw [sumE_reverse]
set_option maxHeartbeats 2000000 in
theorem torder_walk (ao : Option Addr) (m c : Nat) (E : List Ev) (n : Int) (w : World) (hE : Evs w ao m c E) :
    Calls Try.prog 6 #[.slice ao m c, .int .i64 n] w fun e w' => e = .returned (.bool true) ∧ Below w.heap.size w w' := by
  have hlen := hE.len
  have HE : Aside (Evs w ao m c E) := hE
  have hwd : Hid (∀ e ∈ E, Wide e) := hE.wide
  clear hE
  go_enter Try.func6, Try.ntmps6
  go_wp2_with fail
  refine (awake_any w).mono ?_
  rintro e w1 ⟨rfl, hb1⟩
  have HB1 : Hid (Below w.heap.size w w1) := hb1
  clear hb1
  by_cases hbig : 2000 < m
  · have hz : (2000 : Int) < (m : Int) := by omega
    go_wp2_with fail
    refine (awake_any w1).mono ?_
    rintro e w2 ⟨rfl, hb2⟩
    have HB2 : Hid (Below w.heap.size w w2) := HB1.out.trans (hb2.mono HB1.out.size)
    clear hb2 HB1
    go_wp2
    go_ret
    exact ⟨rfl, HB2.out⟩
  · have hz : ¬ (2000 : Int) < (m : Int) := by omega
    have hm : m ≤ 5000 := by omega
    have H3 : Aside (Row w1 w.heap.size (.slice none 0 0) (backE E m) ∧ Below w.heap.size w w1) := ⟨by rw [back_end hlen]; exact row_nil _ _, HB1.out⟩
    clear HB1
    go_wp2
    go_loopg [5, 6] m (fun kx s5 s6 wz => ∃ j : Nat, s6 = .int .i64 ((j : Int) - 1) ∧ j ≤ m ∧ j ≤ kx ∧ Aside (Row wz w.heap.size s5 (backE E j) ∧ Below w.heap.size w wz))
    case atStart => exact ⟨m, rfl, Nat.le_refl _, Nat.le_refl _, H3⟩
    case round =>
      clear H3
      obtain ⟨j, rfl, hjm, hkx, HS⟩ := hrel
      rcases j with _ | j
      · have hT : Hid (∀ e ∈ E.reverse, Wide e) := show ∀ e ∈ E.reverse, Wide e from fun e he => hwd.out e (List.mem_reverse.1 he)
        have HR : Row wr w.heap.size u5 E.reverse := by rw [← back_all]; exact HS.out.1
        obtain ⟨aT, cT, hvT, hET⟩ := HR.evs hT.out
        subst hvT
        have HT1 : Hid (sumE E.reverse = sumE E) := sumE_reverse E
        have HT2 : Hid (byE E.reverse = byE E) := byE_reverse E
        have HT3 : Hid (checkE E.reverse n = checkE E n) := checkE_reverse E n
        have hTl : E.reverse.length ≤ 5000 := by rw [List.length_reverse]; omega
        have HS0 : Aside (Evs wr ao m c E ∧ Evs wr aT E.reverse.length cT E.reverse ∧ Below w.heap.size w wr) := ⟨HE.out.below HS.out.2 (Nat.le_refl _), hET, HS.out.2⟩
        have hBl := byE_length E
        clear HS HR hET hT
        obtain ⟨T, HT⟩ : ∃ T, Hid (E.reverse = T) := ⟨_, show _ = _ from rfl⟩
        rw [HT.out] at HS0 hTl HT1 HT2 HT3 ⊢
        go_wp2_with fail
        refine (tsum_any ao m c E wr HS0.out.1 hm).mono ?_
        rintro e w2 ⟨rfl, hb2⟩
        have HS2 : Aside (Evs w2 ao m c E ∧ Evs w2 aT T.length cT T ∧ Below w.heap.size w w2) := ⟨HS0.out.1.below hb2 (Nat.le_refl _), HS0.out.2.1.below hb2 (Nat.le_refl _), HS0.out.2.2.trans (hb2.mono HS0.out.2.2.size)⟩
        clear hb2 HS0
        go_wp2_with fail
        refine (tsum_any aT T.length cT T w2 HS2.out.2.1 hTl).mono ?_
        rintro e w3 ⟨rfl, hb3⟩
        have HS3 : Aside (Evs w3 ao m c E ∧ Evs w3 aT T.length cT T ∧ Below w.heap.size w w3) := ⟨HS2.out.1.below hb3 (Nat.le_refl _), HS2.out.2.1.below hb3 (Nat.le_refl _), HS2.out.2.2.trans (hb3.mono HS2.out.2.2.size)⟩
        clear hb3 HS2
        rw [HT1.out]
        go_wp2_with fail
        refine (tby_any ao m c E w3 HS3.out.1 hm).mono ?_
        rintro e w4 ⟨rfl, hb4⟩
        have HS4 : Aside (Evs w4 ao m c E ∧ Evs w4 aT T.length cT T ∧ Below w.heap.size w w4) := ⟨HS3.out.1.below hb4 (Nat.le_refl _), HS3.out.2.1.below hb4 (Nat.le_refl _), HS3.out.2.2.trans (hb4.mono HS3.out.2.2.size)⟩
        clear hb4 HS3
        go_wp2_with fail
        refine (tby_any aT T.length cT T w4 HS4.out.2.1 hTl).mono ?_
        rintro e w5 ⟨rfl, hb5⟩
        have HS5 : Aside (Evs w5 ao m c E ∧ Evs w5 aT T.length cT T ∧ Below w.heap.size w w5) := ⟨HS4.out.1.below hb5 (Nat.le_refl _), HS4.out.2.1.below hb5 (Nat.le_refl _), HS4.out.2.2.trans (hb5.mono HS4.out.2.2.size)⟩
        clear hb5 HS4
        rw [HT2.out]
        have hq := fun W : World => eql_arr_same W (byE E) hBl
        have hpl := plain_arr
        generalize byE E = B at *
        go_wp2_with fail
        refine (tcheck_any ao m c E n w5 HS5.out.1 hm).mono ?_
        rintro e w6 ⟨rfl, hb6⟩
        have HS6 : Aside (Evs w6 aT T.length cT T ∧ Below w.heap.size w w6) := ⟨HS5.out.2.1.below hb6 (Nat.le_refl _), HS5.out.2.2.trans (hb6.mono HS5.out.2.2.size)⟩
        clear hb6 HS5 hq hpl
        go_wp2_with fail
        refine (tcheck_any aT T.length cT T n w6 HS6.out.1 hTl).mono ?_
        rintro e w7 ⟨rfl, hb7⟩
        have HB7 : Hid (Below w.heap.size w w7) := HS6.out.2.trans (hb7.mono HS6.out.2.size)
        clear hb7 HS6
        rw [HT3.out]
        go_wp2
        go_ret
        exact ⟨rfl, HB7.out⟩
      · have hj1 : (((j + 1 : Nat) : Int) - 1) = (j : Int) := by omega
        rw [hj1]
        have hjlt : j < m := by omega
        have hjz : (j : Int) < (m : Int) := by omega
        obtain ⟨b, off, u, rfl, hui, hu, hr, hbl⟩ := (HE.out.below HS.out.2 (Nat.le_refl _)).at hjlt
        have hu16 := hu.1
        have hix := fun W : World => index_ev W (b := b) (off := off) (k := j) (m := m) (c := c) hjlt
        have HSN : Hid (backE E j = backE E (j + 1) ++ [u]) := back_step hui
        have hRow : Row (wr.alloc (.cells (evc u) 37)) w.heap.size u5 (backE E (j + 1)) := HS.out.1.below ((Below.refl _ _).alloc (Nat.le_refl _) _) (Nat.le_refl _)
        have hF : Evs (wr.alloc (.cells (evc u) 37)) (some ⟨wr.heap.size, 0, none⟩) 1 1 [u] := evs_single _ _ u hu (liesE_new wr u)
        have hll : (backE E (j + 1)).length ≤ m := by rw [back_len]; omega
        have hle : w.heap.size ≤ (wr.alloc (.cells (evc u) 37)).heap.size := by have := HS.out.2.size; simp; omega
        have HB3 : Hid (Below w.heap.size w (wr.alloc (.cells (evc u) 37))) := HS.out.2.alloc HS.out.2.size _
        clear HS hj1 hbl
        generalize backE E (j + 1) = R at *
        go_wp2_with (first | refine load_ev_mid rfl rfl rfl hr hu16 ?_ | refine build_ev1 rfl rfl rfl hu16 ?_ | refine wpList_appE rfl _ _ rfl w.heap.size _ R rfl hRow _ 1 1 [u] rfl hF (by omega) hle ?_)
        intro v4 w4 hR4 hg4 ho4
        have HS4 : Aside (Row w4 w.heap.size v4 (backE E j) ∧ Below w.heap.size w w4) := ⟨by rw [HSN.out]; exact hR4, HB3.out.grown hg4 hle hRow.own⟩
        clear hR4 hg4 ho4 hRow hF HB3 HSN hll hle hr hix
        go_wp2
        go_roundg j
        case measure => omega
        case rel => exact ⟨j, rfl, by omega, Nat.le_refl _, HS4⟩
end Go.Proofs.Ytojaphoonaoppaa
