/-
  LiveOrder's walk.
-/
import Derived.Test.YtmnhbkehicpohaaLsa
import Derived.Test.YtmnhbkehicpohaaLun
import Derived.Test.YtmnhbkehicpohaaLdg
import Derived.Test.YtmnhbkehicpohaaLtx
namespace Go.Proofs.Ytmnhbkehicpohaa
set_option maxRecDepth 100000
open Go.RowKit Go.Shelf Go.Sort

def turnE (E : List Ev) (m k j : Nat) : List Ev := (((List.range m).drop j).reverse).map fun i => (E[(i + k) % m]?).getD zv
theorem turn_end (E : List Ev) (m k : Nat) : turnE E m k m = [] := by
  rw [turnE, List.drop_of_length_le (by simp)]
  rfl
theorem turn_step {E : List Ev} {m k j : Nat} {u : Ev} (hj : j < m) (hu : E[(j + k) % m]? = some u) : turnE E m k j = turnE E m k (j + 1) ++ [u] := by
  rw [turnE, turnE, List.drop_eq_getElem_cons (by simpa using hj), List.reverse_cons, List.map_append, List.map_singleton]
  simp [hu]
theorem turn_len {E : List Ev} {m k j : Nat} : (turnE E m k j).length = m - j := by simp [turnE]
theorem turn_perm {E : List Ev} {m k : Nat} (hm : E.length = m) (hk : k < m) : (turnE E m k 0).Perm E := by
  have e : (List.range m).map (fun i => (E[(i + k) % m]?).getD zv) = E.drop k ++ E.take k := by
    apply List.ext_getElem
    · simp; omega
    · intro i h1 h2
      rw [List.length_map, List.length_range] at h1
      rw [List.getElem_map, List.getElem_range]
      by_cases hi : i + k < m
      · rw [Nat.mod_eq_of_lt hi, List.getElem?_eq_getElem (by omega), Option.getD_some, List.getElem_append_left (by simp; omega), List.getElem_drop]
        congr 1
        omega
      · have : (i + k) % m = i + k - m := by rw [Nat.mod_eq_sub_mod (by omega), Nat.mod_eq_of_lt (by omega)]
        rw [this, List.getElem?_eq_getElem (by omega), Option.getD_some, List.getElem_append_right (by simp; omega), List.getElem_take]
        congr 1
        simp
        omega
  have h1 : (turnE E m k 0).Perm ((List.range m).map (fun i => (E[(i + k) % m]?).getD zv)) := by
    rw [turnE, List.drop_zero]
    exact (List.reverse_perm _).map _
  refine h1.trans ?_
  rw [e]
  refine List.perm_append_comm.trans ?_
  rw [List.take_append_drop]
theorem cut_rem (cut : Int) (m : Nat) (hm : 0 < m) (h : (Lit.int .u64 cut).wf = true) : ∃ k : Nat, cut.tmod (m : Int) = (k : Int) ∧ k < m := by
  have h0 : 0 ≤ cut := by
    simp [Lit.wf, IntKind.min, IntKind.max, IntKind.signed] at h
    omega
  rw [Int.tmod_eq_emod_of_nonneg h0]
  have h1 := Int.emod_nonneg cut (show (m : Int) ≠ 0 by omega)
  have h2 := Int.emod_lt_of_pos cut (show (0 : Int) < (m : Int) by omega)
  exact ⟨(cut % (m : Int)).toNat, by omega, by omega⟩
theorem turn_wide {E : List Ev} {m k : Nat} (hm : E.length = m) (hk : k < m) (h : ∀ e ∈ E, Wide e) : ∀ e ∈ turnE E m k 0, Wide e := fun e he => h e ((turn_perm hm hk).mem_iff.1 he)
theorem order_pure {E T : List Ev} (h : T.Perm E) (hu : Unlike E) (key : List UInt8) : allE T = allE E ∧ typeE T key = typeE E key ∧ ofE T key = ofE E key ∧ keysE T = keysE E := by
  have e : allE T = allE E := (all_order h.symm hu).symm
  have e2 : typeE T key = typeE E key := by unfold typeE; rw [e]
  exact ⟨e, e2, by unfold ofE; rw [e, e2], by unfold keysE; rw [e]⟩
set_option maxHeartbeats 1000000 in
theorem order_walk (ao : Option Addr) (m c : Nat) (E : List Ev) (cut : Int) (key : List UInt8) (hcut : (Lit.int .u64 cut).wf = true) (w : World) (hE : Evs w ao m c E) :
    Calls Try.prog 5 #[.slice ao m c, .int .u64 cut, .string (sb key)] w fun e w' => e = .returned (.bool true) ∧ Below w.heap.size w w' := by
  have hlen := hE.len
  have HE : Aside (Evs w ao m c E) := hE
  have hwd : Hid (∀ e ∈ E, Wide e) := hE.wide
  have hcut' : Hid ((Lit.int .u64 cut).wf = true) := hcut
  clear hE hcut
  go_enter Try.func5, Try.ntmps5
  go_wp2_with fail
  refine (awake_any w).mono ?_
  rintro e w1 ⟨rfl, hb1⟩
  have HB1 : Hid (Below w.heap.size w w1) := hb1
  clear hb1
  go_wp2_with fail
  refine (few_any ao m c E w1 (HE.out.below HB1.out (Nat.le_refl _))).mono ?_
  rintro e w2 ⟨t, rfl, ht, hb2⟩
  have HB2 : Hid (Below w.heap.size w w2) := HB1.out.trans (hb2.mono HB1.out.size)
  clear hb2 HB1
  cases t with
  | false =>
    go_wp2_with fail
    refine (awake_any w2).mono ?_
    rintro e w3 ⟨rfl, hb3⟩
    have HB3 : Hid (Below w.heap.size w w3) := HB2.out.trans (hb3.mono HB2.out.size)
    clear hb3 HB2
    go_wp2
    go_ret
    exact ⟨rfl, HB3.out⟩
  | true =>
    have hm := ht rfl
    clear ht
    go_wp2_with fail
    refine (unlike_any ao m c E w2 (HE.out.below HB2.out (Nat.le_refl _)) (by omega)).mono ?_
    rintro e w3 ⟨t, rfl, hu, hb3⟩
    have HB3 : Hid (Below w.heap.size w w3) := HB2.out.trans (hb3.mono HB2.out.size)
    clear hb3 HB2
    cases t with
    | false =>
      clear hu
      go_wp2_with fail
      refine (awake_any w3).mono ?_
      rintro e w4 ⟨rfl, hb4⟩
      have HB4 : Hid (Below w.heap.size w w4) := HB3.out.trans (hb4.mono HB3.out.size)
      clear hb4 HB3
      go_wp2
      go_ret
      exact ⟨rfl, HB4.out⟩
    | true =>
      have HU : Hid (Unlike E) := hu rfl
      clear hu
      rcases Nat.eq_zero_or_pos m with h0 | hpos
      · subst h0
        go_wp2_with fail
        refine (awake_any w3).mono ?_
        rintro e w4 ⟨rfl, hb4⟩
        have HB4 : Hid (Below w.heap.size w w4) := HB3.out.trans (hb4.mono HB3.out.size)
        clear hb4 HB3
        go_wp2
        go_ret
        exact ⟨rfl, HB4.out⟩
      · obtain ⟨k, hk, hkm⟩ := cut_rem cut m hpos hcut'.out
        have hmz : ((m : Int) == 0) = false := by simp; omega
        have hmz' : (m : Int) ≠ 0 := by omega
        have H0 : Aside (Row w3 w.heap.size (.slice none 0 0) (turnE E m k m) ∧ Below w.heap.size w w3) := ⟨by rw [turn_end]; exact row_nil _ _, HB3.out⟩
        clear HB3
        go_wp2
        go_loopg [8, 9] m (fun kx s8 s9 wr => ∃ j : Nat, s9 = .int .i64 ((j : Int) - 1) ∧ j ≤ m ∧ j ≤ kx ∧ Aside (Row wr w.heap.size s8 (turnE E m k j) ∧ Below w.heap.size w wr))
        case atStart => exact ⟨m, rfl, Nat.le_refl _, Nat.le_refl _, H0⟩
        case round =>
          clear H0
          obtain ⟨j, rfl, hjm, hkx, HS⟩ := hrel
          rcases j with _ | j
          · have HT : Hid (allE (turnE E m k 0) = allE E ∧ typeE (turnE E m k 0) key = typeE E key ∧ ofE (turnE E m k 0) key = ofE E key ∧ keysE (turnE E m k 0) = keysE E) := order_pure (turn_perm hlen hkm) HU.out key
            have hwT : Hid (∀ e ∈ turnE E m k 0, Wide e) := turn_wide hlen hkm hwd.out
            have hTl : (turnE E m k 0).length ≤ 1000 := by rw [turn_len]; omega
            obtain ⟨aT, cT, hvT, hET⟩ := HS.out.1.evs hwT.out
            have HT4 : Aside (Evs wr aT (turnE E m k 0).length cT (turnE E m k 0) ∧ Below w.heap.size w wr) := ⟨hET, HS.out.2⟩
            subst hvT
            have HOW : Hid (∀ e ∈ ofE E key, Wide e) := fun e he => hwd.out e (mem_of he)
            have HAW : Hid (∀ e ∈ allE E, Wide e) := fun e he => hwd.out e (mem_all he)
            have hOl : (ofE E key).length ≤ 1000 := by have := of_len E key; omega
            have hAl : (allE E).length ≤ 1000 := by have := all_length E; omega
            have hKl : (keysE E).length ≤ 1000 := by have := keysE_len E; omega
            clear HS hET hk hmz hmz' hkx
            generalize turnE E m k 0 = T at *
            go_wp2_with fail
            refine (all_any ao m c E wr (HE.out.below HT4.out.2 (Nat.le_refl _)) (by omega)).mono ?_
            rintro e w5 ⟨v5, rfl, hR5, hb5⟩
            have HT5 : Aside (Evs w5 aT T.length cT T ∧ Below w.heap.size w w5) := ⟨HT4.out.1.below hb5 (Nat.le_refl _), HT4.out.2.trans (hb5.mono HT4.out.2.size)⟩
            clear HT4 hb5
            go_wp2_with fail
            refine (all_any aT _ cT T w5 HT5.out.1 hTl).mono ?_
            rintro e w6 ⟨v6, rfl, hR6, hb6⟩
            rw [HT.out.1] at hR6
            obtain ⟨a5, c5, hv5, hE5⟩ := (hR5.below hb6 (Nat.le_refl _)).evs HAW.out
            obtain ⟨a6, c6, hv6, hE6⟩ := hR6.evs HAW.out
            subst hv5 hv6
            have HT6 : Aside (Evs w6 aT T.length cT T ∧ Below w.heap.size w w6) := ⟨HT5.out.1.below hb6 (Nat.le_refl _), HT5.out.2.trans (hb6.mono HT5.out.2.size)⟩
            clear hR5 hR6 hb6 HT5
            go_wp2_with fail
            refine (same_yes a5 a6 _ c5 c6 _ w6 hE5 hE6 (by omega)).mono ?_
            rintro e w7 ⟨rfl, hb7⟩
            have HT7 : Aside (Evs w7 aT T.length cT T ∧ Below w.heap.size w w7) := ⟨HT6.out.1.below hb7 (Nat.le_refl _), HT6.out.2.trans (hb7.mono HT6.out.2.size)⟩
            clear hb7 HT6 hE5 hE6
            go_wp2_with fail
            refine (type_any ao m c E key w7 (HE.out.below HT7.out.2 (Nat.le_refl _)) (by omega)).mono ?_
            rintro e w8 ⟨rfl, hb8⟩
            have HT8 : Aside (Evs w8 aT T.length cT T ∧ Below w.heap.size w w8) := ⟨HT7.out.1.below hb8 (Nat.le_refl _), HT7.out.2.trans (hb8.mono HT7.out.2.size)⟩
            clear HT7 hb8
            go_wp2_with fail
            refine (type_any aT _ cT T key w8 HT8.out.1 hTl).mono ?_
            rintro e w9 ⟨rfl, hb9⟩
            have HT9 : Aside (Evs w9 aT T.length cT T ∧ Below w.heap.size w w9) := ⟨HT8.out.1.below hb9 (Nat.le_refl _), HT8.out.2.trans (hb9.mono HT8.out.2.size)⟩
            clear HT8 hb9
            rw [HT.out.2.1]
            go_wp2_with fail
            refine (of_any ao m c E key w9 (HE.out.below HT9.out.2 (Nat.le_refl _)) (by omega)).mono ?_
            rintro e w10 ⟨v10, rfl, hR10, hb10⟩
            have HT10 : Aside (Evs w10 aT T.length cT T ∧ Below w.heap.size w w10) := ⟨HT9.out.1.below hb10 (Nat.le_refl _), HT9.out.2.trans (hb10.mono HT9.out.2.size)⟩
            clear HT9 hb10
            go_wp2_with fail
            refine (of_any aT _ cT T key w10 HT10.out.1 hTl).mono ?_
            rintro e w11 ⟨v11, rfl, hR11, hb11⟩
            rw [HT.out.2.2.1] at hR11
            obtain ⟨a10, c10, hv10, hE10⟩ := (hR10.below hb11 (Nat.le_refl _)).evs HOW.out
            obtain ⟨a11, c11, hv11, hE11⟩ := hR11.evs HOW.out
            subst hv10 hv11
            have HT11 : Aside (Evs w11 aT T.length cT T ∧ Below w.heap.size w w11) := ⟨HT10.out.1.below hb11 (Nat.le_refl _), HT10.out.2.trans (hb11.mono HT10.out.2.size)⟩
            clear hR10 hR11 hb11 HT10
            go_wp2_with fail
            refine (same_yes a10 a11 _ c10 c11 _ w11 hE10 hE11 (by omega)).mono ?_
            rintro e w12 ⟨rfl, hb12⟩
            have HT12 : Aside (Evs w12 aT T.length cT T ∧ Below w.heap.size w w12) := ⟨HT11.out.1.below hb12 (Nat.le_refl _), HT11.out.2.trans (hb12.mono HT11.out.2.size)⟩
            clear hb12 HT11 hE10 hE11
            go_wp2_with fail
            refine (keys_any ao m c E w12 (HE.out.below HT12.out.2 (Nat.le_refl _)) (by omega)).mono ?_
            rintro e w13 ⟨v13, rfl, hR13, hb13⟩
            have HT13 : Aside (Evs w13 aT T.length cT T ∧ Below w.heap.size w w13) := ⟨HT12.out.1.below hb13 (Nat.le_refl _), HT12.out.2.trans (hb13.mono HT12.out.2.size)⟩
            clear HT12 hb13
            go_wp2_with fail
            refine (keys_any aT _ cT T w13 HT13.out.1 hTl).mono ?_
            rintro e w14 ⟨v14, rfl, hR14, hb14⟩
            rw [HT.out.2.2.2] at hR14
            obtain ⟨a13, c13, hv13, hE13⟩ := (hR13.below hb14 (Nat.le_refl _)).tl
            obtain ⟨a14, c14, hv14, hE14⟩ := hR14.tl
            subst hv13 hv14
            have HB14 : Hid (Below w.heap.size w w14) := HT13.out.2.trans (hb14.mono HT13.out.2.size)
            clear hR13 hR14 hb14 HT13
            go_wp2_with fail
            refine (texts_yes a13 a14 c13 c14 _ w14 hE13 hE14 (by omega)).mono ?_
            rintro e w15 ⟨rfl, hb15⟩
            have HB15 : Hid (Below w.heap.size w w15) := HB14.out.trans (hb15.mono HB14.out.size)
            clear hb15 HB14 hE13 hE14
            go_wp2
            go_ret
            exact ⟨rfl, HB15.out⟩
          · have hj1 : (((j + 1 : Nat) : Int) - 1) = (j : Int) := by omega
            rw [hj1]
            have hjlt : j < m := by omega
            obtain ⟨q, hq⟩ : ∃ q, q = (j + k) % m := ⟨_, rfl⟩
            have hqm : q < m := by rw [hq]; exact Nat.mod_lt _ hpos
            have hqz : (q : Int) < (m : Int) := by omega
            have hrem : ((j : Int) + (k : Int)).tmod (m : Int) = (q : Int) := by
              rw [hq, Int.tmod_eq_emod_of_nonneg (by omega), Int.natCast_emod, Int.natCast_add]
            obtain ⟨b, off, u, rfl, hui, hu, hr, hbl⟩ := (HE.out.below HS.out.2 (Nat.le_refl _)).at hqm
            have hu16 := hu.1
            have hix := fun W : World => index_ev W (b := b) (off := off) (k := q) (m := m) (c := c) hqm
            have HSN : Hid (turnE E m k j = turnE E m k (j + 1) ++ [u]) := turn_step hjlt (by rw [← hq]; exact hui)
            have hRow : Row (wr.alloc (.cells (evc u) 30)) w.heap.size u8 (turnE E m k (j + 1)) := HS.out.1.below ((Below.refl _ _).alloc (Nat.le_refl _) _) (Nat.le_refl _)
            have hF : Evs (wr.alloc (.cells (evc u) 30)) (some ⟨wr.heap.size, 0, none⟩) 1 1 [u] := evs_single _ _ u hu (liesE_new wr u)
            have hll : (turnE E m k (j + 1)).length ≤ m := by rw [turn_len]; omega
            have hle : w.heap.size ≤ (wr.alloc (.cells (evc u) 30)).heap.size := by have := HS.out.2.size; simp; omega
            have HB3 : Hid (Below w.heap.size w (wr.alloc (.cells (evc u) 30))) := HS.out.2.alloc HS.out.2.size _
            clear HS hq hj1 hbl
            generalize turnE E m k (j + 1) = R at *
            go_wp2_with (first | refine load_ev_mid rfl rfl rfl hr hu16 ?_ | refine build_ev1 rfl rfl rfl hu16 ?_ | refine wpList_appE rfl _ _ rfl w.heap.size _ R rfl hRow _ 1 1 [u] rfl hF (by omega) hle ?_)
            intro v4 w4 hR4 hg4 ho4
            have HS4 : Aside (Row w4 w.heap.size v4 (turnE E m k j) ∧ Below w.heap.size w w4) := ⟨by rw [HSN.out]; exact hR4, HB3.out.grown hg4 hle hRow.own⟩
            clear hR4 hg4 ho4 hRow hF HB3 HSN hll hle hr hix
            go_wp2
            go_roundg j
            case measure => omega
            case rel => exact ⟨j, rfl, by omega, Nat.le_refl _, HS4⟩
end Go.Proofs.Ytmnhbkehicpohaa
