/-
  LiveKeys's walk.
-/
import Derived.Test.YtmnhbkehicpohaaRkw
namespace Go.Proofs.Ytmnhbkehicpohaa
set_option maxRecDepth 100000
open Go.RowKit Go.Shelf Go.Sort

theorem ofL_all (E : List Ev) (key : List UInt8) : ofL (allE E) key = ofE E key := rfl
theorem last_all (E : List Ev) (key : List UInt8) : lastE (ofKeyE key (allE E)) = typeE E key := rfl
theorem keys_all (E : List Ev) : Lib.compact (tsort ((allE E).map (·.key))) = keysE E := rfl
set_option maxHeartbeats 1000000 in
theorem lkeys_walk (ao : Option Addr) (m c : Nat) (E : List Ev) (key : List UInt8) (w : World) (hE : Evs w ao m c E) :
    Calls Try.prog 4 #[.slice ao m c, .string (sb key)] w fun e w' => e = .returned (.bool true) ∧ Below w.heap.size w w' := by
  have hlen := hE.len
  have HE : Aside (Evs w ao m c E) := hE
  have hwd : Hid (∀ e ∈ E, Wide e) := hE.wide
  clear hE
  go_enter Try.func4, Try.ntmps4
  go_wp2_with fail
  refine (awake_any w).mono ?_
  rintro e w1 ⟨rfl, hb1⟩
  have HB1 : Hid (Below w.heap.size w w1) := hb1
  clear hb1
  go_wp2_with fail
  refine (few_any ao m c E w1 (HE.out.below HB1.out (Nat.le_refl _))).mono ?_
  rintro e w2 ⟨t, rfl, ht, hb2⟩
  have HB2 : Hid (Below w.heap.size w w2) := HB1.out.trans (hb2.mono HB1.out.size)
  clear hb2 HB1
  cases t with
  | false =>
    go_wp2_with fail
    refine (awake_any w2).mono ?_
    rintro e w3 ⟨rfl, hb3⟩
    have HB3 : Hid (Below w.heap.size w w3) := HB2.out.trans (hb3.mono HB2.out.size)
    clear hb3 HB2
    go_wp2
    go_ret
    exact ⟨rfl, HB3.out⟩
  | true =>
    have hm := ht rfl
    clear ht
    have HAW : Hid (∀ e ∈ allE E, Wide e) := fun e he => hwd.out e (mem_all he)
    have HOW : Hid (∀ k, ∀ e ∈ ofE E k, Wide e) := fun k e he => hwd.out e (mem_of he)
    have hAl : (allE E).length ≤ 1000 := by have := all_length E; omega
    have hKl : (keysE E).length ≤ 1000 := by have := keysE_len E; omega
    have HOl : Hid (∀ k, (ofE E k).length ≤ 1000) := fun k => by have := of_len E k; omega
    go_wp2_with fail
    refine (rall_any ao m c E w2 (HE.out.below HB2.out (Nat.le_refl _)) (by omega)).mono ?_
    rintro e w3 ⟨v3, rfl, hR3, hb3⟩
    obtain ⟨aA, cA, hv3, hA3⟩ := hR3.evs HAW.out
    subst hv3
    have HT3 : Aside (Evs w3 aA (allE E).length cA (allE E) ∧ Below w.heap.size w w3) := ⟨hA3, HB2.out.trans (hb3.mono HB2.out.size)⟩
    clear hR3 hb3 hA3 HB2
    go_wp2_with fail
    refine (keys_any ao m c E w3 (HE.out.below HT3.out.2 (Nat.le_refl _)) (by omega)).mono ?_
    rintro e w4 ⟨v4, rfl, hR4, hb4⟩
    have HT4 : Aside (Evs w4 aA (allE E).length cA (allE E) ∧ Below w.heap.size w w4) := ⟨HT3.out.1.below hb4 (Nat.le_refl _), HT3.out.2.trans (hb4.mono HT3.out.2.size)⟩
    clear HT3 hb4
    go_wp2_with fail
    refine (rkeys_any aA _ cA (allE E) w4 HT4.out.1 hAl).mono ?_
    rintro e w5 ⟨v5, rfl, hR5, hb5⟩
    rw [keys_all] at hR5
    obtain ⟨a4, c4, hv4, hE4⟩ := (hR4.below hb5 (Nat.le_refl _)).tl
    obtain ⟨a5, c5, hv5, hE5⟩ := hR5.tl
    subst hv4 hv5
    have HT5 : Aside (Evs w5 aA (allE E).length cA (allE E) ∧ Below w.heap.size w w5) := ⟨HT4.out.1.below hb5 (Nat.le_refl _), HT4.out.2.trans (hb5.mono HT4.out.2.size)⟩
    clear HT4 hb5 hR4 hR5
    go_wp2_with fail
    refine (texts_yes a4 a5 c4 c5 _ w5 hE4 hE5 (by omega)).mono ?_
    rintro e w6 ⟨rfl, hb6⟩
    have HT6 : Aside (Evs w6 aA (allE E).length cA (allE E) ∧ Below w.heap.size w w6) := ⟨HT5.out.1.below hb6 (Nat.le_refl _), HT5.out.2.trans (hb6.mono HT5.out.2.size)⟩
    clear HT5 hb6 hE4 hE5
    go_wp2_with fail
    refine (type_any ao m c E key w6 (HE.out.below HT6.out.2 (Nat.le_refl _)) (by omega)).mono ?_
    rintro e w7 ⟨rfl, hb7⟩
    have HT7 : Aside (Evs w7 aA (allE E).length cA (allE E) ∧ Below w.heap.size w w7) := ⟨HT6.out.1.below hb7 (Nat.le_refl _), HT6.out.2.trans (hb7.mono HT6.out.2.size)⟩
    clear HT6 hb7
    go_wp2_with fail
    refine (rkey_any aA _ cA (allE E) key w7 HT7.out.1 hAl).mono ?_
    rintro e w8 ⟨rfl, hb8⟩
    rw [last_all]
    have HT8 : Aside (Evs w8 aA (allE E).length cA (allE E) ∧ Below w.heap.size w w8) := ⟨HT7.out.1.below hb8 (Nat.le_refl _), HT7.out.2.trans (hb8.mono HT7.out.2.size)⟩
    clear HT7 hb8
    go_wp2_with fail
    refine (of_any ao m c E key w8 (HE.out.below HT8.out.2 (Nat.le_refl _)) (by omega)).mono ?_
    rintro e w9 ⟨v9, rfl, hR9, hb9⟩
    have HT9 : Aside (Evs w9 aA (allE E).length cA (allE E) ∧ Below w.heap.size w w9) := ⟨HT8.out.1.below hb9 (Nat.le_refl _), HT8.out.2.trans (hb9.mono HT8.out.2.size)⟩
    clear HT8 hb9
    go_wp2_with fail
    refine (rof_any aA _ cA (allE E) key w9 HT9.out.1 hAl).mono ?_
    rintro e w10 ⟨v10, rfl, hR10, hb10⟩
    rw [ofL_all] at hR10
    obtain ⟨a9, c9, hv9, hE9⟩ := (hR9.below hb10 (Nat.le_refl _)).evs (HOW.out key)
    obtain ⟨a10, c10, hv10, hE10⟩ := hR10.evs (HOW.out key)
    subst hv9 hv10
    have hOl := HOl.out key
    have HT10 : Aside (Evs w10 aA (allE E).length cA (allE E) ∧ Below w.heap.size w w10) := ⟨HT9.out.1.below hb10 (Nat.le_refl _), HT9.out.2.trans (hb10.mono HT9.out.2.size)⟩
    clear HT9 hb10 hR9 hR10
    go_wp2_with fail
    refine (same_yes a9 a10 _ c9 c10 _ w10 hE9 hE10 (by omega)).mono ?_
    rintro e w11 ⟨rfl, hb11⟩
    have HT11 : Aside (Evs w11 aA (allE E).length cA (allE E) ∧ Below w.heap.size w w11) := ⟨HT10.out.1.below hb11 (Nat.le_refl _), HT10.out.2.trans (hb11.mono HT10.out.2.size)⟩
    clear HT10 hb11 hE9 hE10 hOl
    go_wp2
    go_loopg [45] m (fun kx s45 wr => ∃ i : Nat, s45 = .int .i64 i ∧ i ≤ m ∧ m - i ≤ kx ∧ Aside (Evs wr aA (allE E).length cA (allE E) ∧ Below w.heap.size w wr))
    case atStart => exact ⟨0, rfl, Nat.zero_le _, by omega, HT11⟩
    case round =>
      clear HT11
      obtain ⟨i, rfl, him, hkx, HT6⟩ := hrel
      by_cases hlt : i < m
      · have hltz : (i : Int) < (m : Int) := by omega
        obtain ⟨b, off, u, rfl, hui, hu, hr, hbl⟩ := (HE.out.below HT6.out.2 (Nat.le_refl _)).at hlt
        have hu16 := hu.1
        have hix := fun W : World => index_ev W (b := b) (off := off) (k := i) (m := m) (c := c) hlt
        have c20 := range_key hr hu16
        clear hr
        rename World => w6
        go_wp2_with fail
        refine (type_any _ m c E u.key w6 (HE.out.below HT6.out.2 (Nat.le_refl _)) (by omega)).mono ?_
        rintro e w7 ⟨rfl, hb7⟩
        have HT7 : Aside (Evs w7 aA (allE E).length cA (allE E) ∧ Below w.heap.size w w7) := ⟨HT6.out.1.below hb7 (Nat.le_refl _), HT6.out.2.trans (hb7.mono HT6.out.2.size)⟩
        clear HT6 hb7
        go_wp2_with fail
        refine (rkey_any aA _ cA (allE E) u.key w7 HT7.out.1 hAl).mono ?_
        rintro e w8 ⟨rfl, hb8⟩
        rw [last_all]
        have HT8 : Aside (Evs w8 aA (allE E).length cA (allE E) ∧ Below w.heap.size w w8) := ⟨HT7.out.1.below hb8 (Nat.le_refl _), HT7.out.2.trans (hb8.mono HT7.out.2.size)⟩
        clear HT7 hb8
        go_wp2_with fail
        refine (of_any _ m c E u.key w8 (HE.out.below HT8.out.2 (Nat.le_refl _)) (by omega)).mono ?_
        rintro e w9 ⟨v9, rfl, hR9, hb9⟩
        have HT9 : Aside (Evs w9 aA (allE E).length cA (allE E) ∧ Below w.heap.size w w9) := ⟨HT8.out.1.below hb9 (Nat.le_refl _), HT8.out.2.trans (hb9.mono HT8.out.2.size)⟩
        clear HT8 hb9
        go_wp2_with fail
        refine (rof_any aA _ cA (allE E) u.key w9 HT9.out.1 hAl).mono ?_
        rintro e w10 ⟨v10, rfl, hR10, hb10⟩
        rw [ofL_all] at hR10
        obtain ⟨a9, c9, hv9, hE9⟩ := (hR9.below hb10 (Nat.le_refl _)).evs (HOW.out u.key)
        obtain ⟨a10, c10, hv10, hE10⟩ := hR10.evs (HOW.out u.key)
        subst hv9 hv10
        have hOl := HOl.out u.key
        have HT10 : Aside (Evs w10 aA (allE E).length cA (allE E) ∧ Below w.heap.size w w10) := ⟨HT9.out.1.below hb10 (Nat.le_refl _), HT9.out.2.trans (hb10.mono HT9.out.2.size)⟩
        clear HT9 hb10 hR9 hR10
        go_wp2_with fail
        refine (same_yes a9 a10 _ c9 c10 _ w10 hE9 hE10 (by omega)).mono ?_
        rintro e w11 ⟨rfl, hb11⟩
        have HT11 : Aside (Evs w11 aA (allE E).length cA (allE E) ∧ Below w.heap.size w w11) := ⟨HT10.out.1.below hb11 (Nat.le_refl _), HT10.out.2.trans (hb11.mono HT10.out.2.size)⟩
        clear HT10 hb11 hE9 hE10 hOl
        clear c20 hix
        go_wp2
        go_roundg (m - (i + 1))
        case measure => omega
        case rel => exact ⟨i + 1, by go_num, by omega, Nat.le_refl _, HT11⟩
      · obtain rfl : m = i := by omega
        go_wp2
        go_ret
        exact ⟨rfl, HT6.out.2⟩
end Go.Proofs.Ytmnhbkehicpohaa
