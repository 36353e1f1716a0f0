/-
  LiveTwice's walk.
-/
import Derived.Test.YtmnhbkehicpohabLdg
import Derived.Test.YtmnhbkehicpohabLtx
import Derived.Test.YtmnhbkehicpohabLtp
namespace Go.Proofs.Ytmnhbkehicpohab
set_option maxRecDepth 100000
open Go.RowKit Go.Shelf Go.Sort

theorem wpList_build0 {ops : Array Oper} {rest : List Oper} {o : Oper} {a : Act} {w : World} {Q : Exit → Act → World → Prop} (hw : Region.wanted o (yielded ops a.tmps) = true) (ho : o.op = .buildSlice 22 0 #[])
    (h : wpList Try.prog ops Q rest (a.put o.dst (.slice (some ⟨w.heap.size, 0, none⟩) 0 0)) (w.alloc (.cells #[] 33))) : wpList Try.prog ops Q (o :: rest) a w :=
  wpList_step fun K hK => by
    rw [if_pos hw]
    exact wp_build0 ho (run_build0 w) (hK _ _ h)
set_option maxHeartbeats 1000000 in
theorem twice_walk (ao : Option Addr) (m c : Nat) (E : List Ev) (key : List UInt8) (w : World) (hE : Evs w ao m c E) :
    Calls Try.prog 4 #[.slice ao m c, .string (sb key)] w fun e w' => e = .returned (.bool true) ∧ Below w.heap.size w w' := by
  have hlen := hE.len
  have HE : Aside (Evs w ao m c E) := hE
  have hwd : Hid (∀ e ∈ E, Wide e) := hE.wide
  clear hE
  go_enter Try.func4, Try.ntmps4
  go_wp2_with fail
  refine (awake_any w).mono ?_
  rintro e w1 ⟨rfl, hb1⟩
  have HB1 : Hid (Below w.heap.size w w1) := hb1
  clear hb1
  go_wp2_with fail
  refine (few_any ao m c E w1 (HE.out.below HB1.out (Nat.le_refl _))).mono ?_
  rintro e w2 ⟨t, rfl, ht, hb2⟩
  have HB2 : Hid (Below w.heap.size w w2) := HB1.out.trans (hb2.mono HB1.out.size)
  clear hb2 HB1
  cases t with
  | false =>
    go_wp2_with fail
    refine (awake_any w2).mono ?_
    rintro e w3 ⟨rfl, hb3⟩
    have HB3 : Hid (Below w.heap.size w w3) := HB2.out.trans (hb3.mono HB2.out.size)
    clear hb3 HB2
    go_wp2
    go_ret
    exact ⟨rfl, HB3.out⟩
  | true =>
    have hm := ht rfl
    clear ht
    rcases Nat.lt_or_ge 100 m with hbig | hle
    · have hbz : (100 : Int) < (m : Int) := by omega
      go_wp2_with fail
      refine (awake_any w2).mono ?_
      rintro e w3 ⟨rfl, hb3⟩
      have HB3 : Hid (Below w.heap.size w w3) := HB2.out.trans (hb3.mono HB2.out.size)
      clear hb3 HB2
      go_wp2
      go_ret
      exact ⟨rfl, HB3.out⟩
    · have hbz : ¬ (100 : Int) < (m : Int) := by omega
      have hrow0 := row_empty w2 w.heap.size HB2.out.size
      have HB3 : Hid (Below w.heap.size w (w2.alloc (.cells #[] 33))) := HB2.out.alloc HB2.out.size _
      have hEA := HE.out.below HB3.out (Nat.le_refl _)
      have hsz := HB3.out.size
      go_wp2_with (first | refine wpList_build0 rfl rfl ?_ | refine wpList_appE rfl _ _ rfl w.heap.size _ [] rfl hrow0 _ _ _ E rfl hEA (by simp; omega) hsz ?_)
      intro v4 w4 hR4 hg4 ho4
      have HB4 : Hid (Below w.heap.size w w4) := HB3.out.grown hg4 hsz hrow0.own
      have hE4 := HE.out.below HB4.out (Nat.le_refl _)
      have hsz4 := HB4.out.size
      clear hg4 ho4 hrow0 HB3 hEA hsz HB2
      go_wp2_with (refine wpList_appE rfl _ _ rfl w.heap.size _ E rfl hR4 _ _ _ E rfl hE4 (by omega) hsz4 ?_)
      intro v5 w5 hR5 hg5 ho5
      have hwT : Hid (∀ e ∈ E ++ E, Wide e) := fun e he => hwd.out e (by simpa using he)
      obtain ⟨aT, cT, hvT, hET⟩ := hR5.evs hwT.out
      have HT5 : Aside (Evs w5 aT (E ++ E).length cT (E ++ E) ∧ Below w.heap.size w w5) := ⟨hET, HB4.out.grown hg5 hsz4 hR4.own⟩
      subst hvT
      have HT : Hid (typeE (E ++ E) key = typeE E key ∧ keysE (E ++ E) = keysE E ∧ (allE (E ++ E)).length = 2 * (allE E).length ∧ (ofE (E ++ E) key).length = 2 * (ofE E key).length) := ⟨type_twice E key, keys_two E, all_two_len E, of_two_len E key⟩
      have hTl : (E ++ E).length ≤ 1000 := by rw [List.length_append]; omega
      have HOW : Hid ((∀ e ∈ ofE E key, Wide e) ∧ ∀ e ∈ ofE (E ++ E) key, Wide e) := ⟨fun e he => hwd.out e (mem_of he), fun e he => hwT.out e (mem_of he)⟩
      have HAW : Hid ((∀ e ∈ allE E, Wide e) ∧ ∀ e ∈ allE (E ++ E), Wide e) := ⟨fun e he => hwd.out e (mem_all he), fun e he => hwT.out e (mem_all he)⟩
      have hOl : (ofE E key).length ≤ 1000 := by have := of_len E key; omega
      have hAl : (allE E).length ≤ 1000 := by have := all_length E; omega
      have hKl : (keysE E).length ≤ 1000 := by have := keysE_len E; omega
      clear hR4 hR5 hg5 ho5 hET hE4 hsz4 HB4 hwT
      generalize E ++ E = T at *
      go_wp2_with fail
      refine (type_any ao m c E key w5 (HE.out.below HT5.out.2 (Nat.le_refl _)) (by omega)).mono ?_
      rintro e w6 ⟨rfl, hb6⟩
      have HT6 : Aside (Evs w6 aT T.length cT T ∧ Below w.heap.size w w6) := ⟨HT5.out.1.below hb6 (Nat.le_refl _), HT5.out.2.trans (hb6.mono HT5.out.2.size)⟩
      clear HT5 hb6
      go_wp2_with fail
      refine (type_any aT _ cT T key w6 HT6.out.1 hTl).mono ?_
      rintro e w7 ⟨rfl, hb7⟩
      have HT7 : Aside (Evs w7 aT T.length cT T ∧ Below w.heap.size w w7) := ⟨HT6.out.1.below hb7 (Nat.le_refl _), HT6.out.2.trans (hb7.mono HT6.out.2.size)⟩
      clear HT6 hb7
      rw [HT.out.1]
      go_wp2_with fail
      refine (keys_any ao m c E w7 (HE.out.below HT7.out.2 (Nat.le_refl _)) (by omega)).mono ?_
      rintro e w8 ⟨v8, rfl, hR8, hb8⟩
      have HT8 : Aside (Evs w8 aT T.length cT T ∧ Below w.heap.size w w8) := ⟨HT7.out.1.below hb8 (Nat.le_refl _), HT7.out.2.trans (hb8.mono HT7.out.2.size)⟩
      clear HT7 hb8
      go_wp2_with fail
      refine (keys_any aT _ cT T w8 HT8.out.1 hTl).mono ?_
      rintro e w9 ⟨v9, rfl, hR9, hb9⟩
      rw [HT.out.2.1] at hR9
      obtain ⟨a8, c8, hv8, hE8⟩ := (hR8.below hb9 (Nat.le_refl _)).tl
      obtain ⟨a9, c9, hv9, hE9⟩ := hR9.tl
      subst hv8 hv9
      have HT9 : Aside (Evs w9 aT T.length cT T ∧ Below w.heap.size w w9) := ⟨HT8.out.1.below hb9 (Nat.le_refl _), HT8.out.2.trans (hb9.mono HT8.out.2.size)⟩
      clear hR8 hR9 hb9 HT8
      go_wp2_with fail
      refine (texts_yes a8 a9 c8 c9 _ w9 hE8 hE9 (by omega)).mono ?_
      rintro e w10 ⟨rfl, hb10⟩
      have HT10 : Aside (Evs w10 aT T.length cT T ∧ Below w.heap.size w w10) := ⟨HT9.out.1.below hb10 (Nat.le_refl _), HT9.out.2.trans (hb10.mono HT9.out.2.size)⟩
      clear hb10 HT9 hE8 hE9
      go_wp2_with fail
      refine (all_any ao m c E w10 (HE.out.below HT10.out.2 (Nat.le_refl _)) (by omega)).mono ?_
      rintro e w11 ⟨v11, rfl, hR11, hb11⟩
      obtain ⟨a11, c11, hv11, -⟩ := hR11.evs HAW.out.1
      subst hv11
      have HT11 : Aside (Evs w11 aT T.length cT T ∧ Below w.heap.size w w11) := ⟨HT10.out.1.below hb11 (Nat.le_refl _), HT10.out.2.trans (hb11.mono HT10.out.2.size)⟩
      clear hb11 HT10 hR11
      go_wp2_with fail
      refine (all_any aT _ cT T w11 HT11.out.1 hTl).mono ?_
      rintro e w12 ⟨v12, rfl, hR12, hb12⟩
      obtain ⟨a12, c12, hv12, -⟩ := hR12.evs HAW.out.2
      rw [HT.out.2.2.1] at hv12
      subst hv12
      have HT12 : Aside (Evs w12 aT T.length cT T ∧ Below w.heap.size w w12) := ⟨HT11.out.1.below hb12 (Nat.le_refl _), HT11.out.2.trans (hb12.mono HT11.out.2.size)⟩
      clear hb12 HT11 hR12
      go_wp2_with fail
      refine (of_any ao m c E key w12 (HE.out.below HT12.out.2 (Nat.le_refl _)) (by omega)).mono ?_
      rintro e w13 ⟨v13, rfl, hR13, hb13⟩
      obtain ⟨a13, c13, hv13, -⟩ := hR13.evs HOW.out.1
      subst hv13
      have HT13 : Aside (Evs w13 aT T.length cT T ∧ Below w.heap.size w w13) := ⟨HT12.out.1.below hb13 (Nat.le_refl _), HT12.out.2.trans (hb13.mono HT12.out.2.size)⟩
      clear hb13 HT12 hR13
      go_wp2_with fail
      refine (of_any aT _ cT T key w13 HT13.out.1 hTl).mono ?_
      rintro e w14 ⟨v14, rfl, hR14, hb14⟩
      obtain ⟨a14, c14, hv14, -⟩ := hR14.evs HOW.out.2
      rw [HT.out.2.2.2] at hv14
      subst hv14
      have HB14 : Hid (Below w.heap.size w w14) := HT13.out.2.trans (hb14.mono HT13.out.2.size)
      clear hb14 HT13 hR14
      go_wp2
      go_ret
      exact ⟨rfl, HB14.out⟩
end Go.Proofs.Ytmnhbkehicpohab
