/-
  PeerTrims, the walk.
-/
import Derived.Test.YteanpepmncgagaaPla
namespace Go.Proofs.Yteanpepmncgagaa
set_option maxRecDepth 100000
open Go.RowKit

set_option maxHeartbeats 1000000 in
theorem ltrims_far (ao : Option Addr) (len cap : Nat) (cut v t : List Int) (m : Int) (w : World) (hl : 200 < len) : Calls Try.prog 5 #[.slice ao len cap, .agg (vals cut), .agg (vals v), .agg (vals t), .int .u8 m] w fun e w' => e = .returned (.bool true) ∧ Below w.heap.size w w' := by
  obtain ⟨-, -, -, hb0⟩ := three_vv w cut v t
  generalize hW0 : ((w.alloc (.cells (vals cut) 35)).alloc (.cells (vals v) 35)).alloc (.cells (vals t) 35) = W0 at *
  have hA := pawake_any W0
  have HB0 : Hid (Below w.heap.size w W0) := hb0
  clear hb0
  go_enter Try.func5, Try.ntmps5
  go_wp2_with fail
  refine Calls.mono hA ?_
  rintro e w1 ⟨rfl, hb1⟩
  have hA2 := pawake_any w1
  have HB1 : Hid (Below w.heap.size w w1) := HB0.out.trans (hb1.mono HB0.out.size)
  clear hb1 hA HB0
  go_wp2_with fail
  refine Calls.mono hA2 ?_
  rintro e w3 ⟨rfl, hb3⟩
  have HB3 : Hid (Below w.heap.size w w3) := HB1.out.trans (hb3.mono HB1.out.size)
  clear hb3 hA2
  go_wp2
  go_ret
  exact ⟨rfl, HB3.out⟩
set_option maxHeartbeats 8000000 in
theorem ltrims_go (ao : Option Addr) (len cap : Nat) (E : List Ev) (cut v t : List Int) (lc : cut.length = 16) (lv : v.length = 16) (lt : t.length = 16) (m : Int) (hm : 0 ≤ m ∧ m ≤ 255) (w : World) (hE : Evs w ao len cap E) (hl : ¬ 200 < len) : Calls Try.prog 5 #[.slice ao len cap, .agg (vals cut), .agg (vals v), .agg (vals t), .int .u8 m] w fun e w' => e = .returned (.bool true) ∧ Below w.heap.size w w' := by
  obtain ⟨hCu, hVu, hTu, hb0⟩ := three_vv w cut v t
  have hd : decide ((200 : Int) < (len : Int)) = false := decide_eq_false (by omega)
  generalize hW0 : ((w.alloc (.cells (vals cut) 35)).alloc (.cells (vals v) 35)).alloc (.cells (vals t) 35) = W0 at *
  have hAw := pawake_any W0
  have hlen := hE.len
  have hwE := hE.wide
  go_enter Try.func5, Try.ntmps5
  go_wp2_with fail
  refine Calls.mono hAw ?_
  rintro e w1 ⟨rfl, hb1⟩
  have hCu : Lies w1 w.heap.size cut := hCu.below hb1 hCu.lt
  have hVu : Lies w1 (w.heap.size + 1) v := hVu.below hb1 hVu.lt
  have hTu : Lies w1 (w.heap.size + 1 + 1) t := hTu.below hb1 hTu.lt
  have hB1 := hb0.trans (hb1.mono hb0.size)
  have hlt2 := hTu.lt
  clear hb0 hb1 hAw hW0
  have hN1 := pnew_any w1
  have hA0 := lw_new (F := w.heap.size + 1 + 1 + 1) w1 31 hlt2
  have hb2 : Below w1.heap.size w1 (w1.alloc (.cells #[.slice none 0 0] 31)) := (Below.refl _ w1).alloc (Nat.le_refl _) _
  have hgl : w1.heap.size < (w1.alloc (.cells #[.slice none 0 0] 31)).heap.size := by simp
  obtain ⟨ga, hga⟩ : ∃ ga, w1.heap.size = ga := ⟨_, rfl⟩
  generalize hW2 : w1.alloc (.cells #[.slice none 0 0] 31) = w2 at *
  have hN2 := pnew_any w2
  have hBn0 := lw_new (F := w.heap.size + 1 + 1 + 1) w2 31 (Nat.le_trans hlt2 hb2.size)
  have hb3 : Below w2.heap.size w2 (w2.alloc (.cells #[.slice none 0 0] 31)) := (Below.refl _ w2).alloc (Nat.le_refl _) _
  have hA1 := hA0.below hb3
  obtain ⟨gb, hgb⟩ : ∃ gb, w2.heap.size = gb := ⟨_, rfl⟩
  generalize hW3 : w2.alloc (.cells #[.slice none 0 0] 31) = w3 at *
  have hb13 : Below w1.heap.size w1 w3 := hb2.trans (hb3.mono hb2.size)
  have hCu : Lies w3 w.heap.size cut := hCu.below hb13 hCu.lt
  have hVu : Lies w3 (w.heap.size + 1) v := hVu.below hb13 hVu.lt
  have hTu : Lies w3 (w.heap.size + 1 + 1) t := hTu.below hb13 hTu.lt
  have hB3 := hB1.trans (hb13.mono hB1.size)
  have hAp : Ap ga gb (.slice none 0 0) (.slice none 0 0) := ⟨by omega, fun k hk => by cases hk⟩
  have hsz3 : w.heap.size + 1 + 1 + 1 ≤ w3.heap.size := Nat.le_trans hlt2 hb13.size
  rw [hga] at hA1 hN1
  rw [hgb] at hBn0 hN2
  clear hA0 hb2 hb3 hb13 hga hgb hB1 hlt2 hgl
  have he := fun W ad => eql_lp W ad
  go_wp2_with fail
  refine Calls.mono hN1 ?_
  rintro e wx ⟨rfl, hw⟩
  obtain rfl := hw.symm
  clear hw hN1
  go_wp2_with fail
  refine Calls.mono hN2 ?_
  rintro e wx ⟨rfl, hw⟩
  obtain rfl := hw.symm
  clear hw hN2 hW2 hW3
  go_wp2_with fail
  clear he
  go_loopw [34] (fun i wr => ∃ (k : Nat) (va vb : Value), k ≤ len ∧ i = .int .i64 (k : Int) ∧ Lw 31 (w.heap.size + 1 + 1 + 1) wr ga va (E.take k) ∧ Lw 31 (w.heap.size + 1 + 1 + 1) wr gb vb (E.take k) ∧ Ap ga gb va vb ∧ Lies wr w.heap.size cut ∧ Lies wr (w.heap.size + 1) v ∧ Lies wr (w.heap.size + 1 + 1) t ∧ Below w.heap.size w wr ∧ w.heap.size + 1 + 1 + 1 ≤ wr.heap.size) (fun i _ => len - (intOf i).toNat)
  case atStart => exact ⟨0, _, _, Nat.zero_le _, rfl, hA1, hBn0, hAp, hCu, hVu, hTu, hB3, hsz3⟩
  case round =>
    clear hA1 hBn0 hAp hCu hVu hTu hB3 hsz3
    obtain ⟨k, va, vb, hk, rfl, hA, hB, hAp, hCu, hVu, hTu, hBw, hsz⟩ := hrel
    by_cases hkl : k < len
    · obtain ⟨b, off, u, rfl, hui, hu, hr, hbl⟩ := (hE.below hBw (Nat.le_refl _)).at hkl
      have hix := fun W : World => index_ev W (b := b) (off := off) (k := k) (m := len) (c := cap) hkl
      have hP1 := padd_at ga va (E.take k) u hu (by rw [List.length_take]; omega) wr hA.lp
      have HSN : Hid (E.take (k + 1) = E.take k ++ [u]) := take_snoc hui
      go_wp2_with (first | refine load_ev_mid rfl rfl rfl hr hu.1 ?_)
      refine Calls.mono hP1 ?_
      rintro e w4 ⟨rfl, va', hL4, hT4⟩
      obtain ⟨hA4, hB4⟩ := hA.turn hsz hL4 hT4
      obtain ⟨hAp4, hBn4⟩ := hAp.turn tl_ne tl_ne hA.lp hB hT4
      have hCu : Lies w4 w.heap.size cut := (hB4.block _ (by omega)).trans hCu
      have hVu : Lies w4 (w.heap.size + 1) v := (hB4.block _ (by omega)).trans hVu
      have hTu : Lies w4 (w.heap.size + 1 + 1) t := (hB4.block _ (by omega)).trans hTu
      have hBw4 := hBw.trans (hB4.mono (by omega))
      have hsz4 := Nat.le_trans hsz hT4.size
      obtain ⟨b', off', u', hb', hui', hu', hr4, hbl4⟩ := (hE.below hBw4 (Nat.le_refl _)).at hkl
      simp only [Option.some.injEq, Addr.mk.injEq, and_true] at hb'
      obtain ⟨rfl, rfl⟩ := hb'
      obtain rfl : u = u' := by rw [hui] at hui'; exact Option.some.inj hui'
      have hP2 := padd_at gb vb (E.take k) u hu (by rw [List.length_take]; omega) w4 hBn4.lp
      clear hP1 hL4 hT4 hA hB hAp hB4 hBw hr hbl hsz
      go_wp2_with (first | refine load_ev_mid rfl rfl rfl hr4 hu.1 ?_)
      refine Calls.mono hP2 ?_
      rintro e w5 ⟨rfl, vb', hL5, hT5⟩
      obtain ⟨hB5, hBb5⟩ := hBn4.turn hsz4 hL5 hT5
      obtain ⟨hAp5, hA5⟩ := hAp4.symm.turn tl_ne tl_ne hBn4.lp hA4 hT5
      have hCu : Lies w5 w.heap.size cut := (hBb5.block _ (by omega)).trans hCu
      have hVu : Lies w5 (w.heap.size + 1) v := (hBb5.block _ (by omega)).trans hVu
      have hTu : Lies w5 (w.heap.size + 1 + 1) t := (hBb5.block _ (by omega)).trans hTu
      have HALL : Hid (Lw 31 (w.heap.size + 1 + 1 + 1) w5 ga va' (E.take (k + 1)) ∧ Lw 31 (w.heap.size + 1 + 1 + 1) w5 gb vb' (E.take (k + 1)) ∧ Ap ga gb va' vb' ∧ Lies w5 w.heap.size cut ∧ Lies w5 (w.heap.size + 1) v ∧ Lies w5 (w.heap.size + 1 + 1) t ∧ Below w.heap.size w w5 ∧ w.heap.size + 1 + 1 + 1 ≤ w5.heap.size) := by
        rw [HSN.out]
        exact ⟨hA5, hB5, hAp5.symm, hCu, hVu, hTu, hBw4.trans (hBb5.mono (by omega)), Nat.le_trans hsz4 hT5.size⟩
      clear hP2 hL5 hT5 hA4 hBn4 hAp4 hBb5 hB5 hAp5 hA5 hCu hVu hTu hBw4 hsz4 hr4 hbl4 hix HSN
      go_wp2
      go_roundw
      case rel => exact ⟨k + 1, va', vb', by omega, by go_num, HALL.out⟩
      case measure => simp [intOf]; omega
    · obtain rfl : k = len := by omega
      rw [List.take_of_length_le (by omega)] at hA hB
      have hT1 := ptrim_at ga va E cut lc (by omega) wr hA.lp
      have hlc := load_v hCu lc
      go_wp2_with (refine wpList_loadR (ty := 35) (x := .tmp 6) (ad := ⟨w.heap.size, 0, none⟩) (v := .agg (vals cut)) rfl rfl rfl hlc ?_)
      refine Calls.mono hT1 ?_
      rintro e w4 ⟨rfl, va', hL4, hT4⟩
      obtain ⟨hA4, hB4⟩ := hA.turn hsz hL4 hT4
      obtain ⟨hAp4, hBn4⟩ := hAp.turn tl_ne tl_ne hA.lp hB hT4
      have hCu : Lies w4 w.heap.size cut := (hB4.block _ (by omega)).trans hCu
      have hVu : Lies w4 (w.heap.size + 1) v := (hB4.block _ (by omega)).trans hVu
      have hTu : Lies w4 (w.heap.size + 1 + 1) t := (hB4.block _ (by omega)).trans hTu
      have hBw4 := hBw.trans (hB4.mono (by omega))
      have hsz4 := Nat.le_trans hsz hT4.size
      clear hT1 hlc hL4 hT4 hA hB hAp hB4 hBw hsz
      have hl1 := plen_any _ _ w4 hA4.lp.lp
      have htl := trim_len E cut
      obtain ⟨n2, hn2⟩ : ∃ n2, (trimE E cut).length = n2 := ⟨_, rfl⟩
      rw [hn2] at hl1 htl
      rw [hlen, hn2]
      go_wp2_with fail
      refine Calls.mono hl1 ?_
      rintro e w5 ⟨rfl, hb5⟩
      have hA5 := hA4.below hb5
      have hBn5 := hBn4.below hb5
      have hCu : Lies w5 w.heap.size cut := hCu.below hb5 hCu.lt
      have hVu : Lies w5 (w.heap.size + 1) v := hVu.below hb5 hVu.lt
      have hTu : Lies w5 (w.heap.size + 1 + 1) t := hTu.below hb5 hTu.lt
      have hBw5 := hBw4.trans (hb5.mono hBw4.size)
      have hsz5 := Nat.le_trans hsz4 hb5.size
      have hl2 := plen_any _ _ w5 hBn5.lp.lp
      rw [hlen] at hl2
      have hw : IntKind.i64.wrap ((n2 : Int) + ((k - n2 : Nat) : Int)) = (k : Int) := by simp [IntKind.wrap, IntKind.signed, IntKind.bits]; omega
      clear hl1 hb5 hA4 hBn4 hBw4 hsz4
      go_wp2_with fail
      refine Calls.mono hl2 ?_
      rintro e w6 ⟨rfl, hb6⟩
      have hA6 := hA5.below hb6
      have hBn6 := hBn5.below hb6
      have hCu : Lies w6 w.heap.size cut := hCu.below hb6 hCu.lt
      have hVu : Lies w6 (w.heap.size + 1) v := hVu.below hb6 hVu.lt
      have hTu : Lies w6 (w.heap.size + 1 + 1) t := hTu.below hb6 hTu.lt
      have hBw6 := hBw5.trans (hb6.mono hBw5.size)
      have hsz6 := Nat.le_trans hsz5 hb6.size
      have hT2 := ptrim_at ga va' (trimE E cut) cut lc (by omega) w6 hA6.lp
      rw [trim_twice, Nat.sub_self] at hT2
      have hlc := load_v hCu lc
      clear hl2 hb6 hA5 hBn5 hBw5 hsz5 hw
      go_wp2_with (refine wpList_loadW (ty := 35) (x := .tmp 6) (ad := ⟨w.heap.size, 0, none⟩) (v := .agg (vals cut)) rfl rfl rfl hlc ?_)
      refine Calls.mono hT2 ?_
      rintro e w7 ⟨rfl, va2, hL7, hT7⟩
      obtain ⟨hA7, hB7⟩ := hA6.turn hsz6 hL7 hT7
      obtain ⟨hAp7, hBn7⟩ := hAp4.turn tl_ne tl_ne hA6.lp hBn6 hT7
      have hCu : Lies w7 w.heap.size cut := (hB7.block _ (by omega)).trans hCu
      have hVu : Lies w7 (w.heap.size + 1) v := (hB7.block _ (by omega)).trans hVu
      have hTu : Lies w7 (w.heap.size + 1 + 1) t := (hB7.block _ (by omega)).trans hTu
      have hBw7 := hBw6.trans (hB7.mono (by omega))
      have hsz7 := Nat.le_trans hsz6 hT7.size
      have hJ := rjoin_any v cut lv lc w7
      have hlv := load_v hVu lv
      have hlc' := load_v hCu lc
      have lJ : (each max v cut).length = 16 := each_length max v cut lv lc
      have hFT := fun mm => for_trim E cut v t lv lc mm
      generalize hJJ : each max v cut = J at *
      have HJ : Hid (forE (trimE E cut) J t m = forE E J t m) := hFT m
      clear hT2 hlc hL7 hT7 hA6 hBn6 hAp4 hB7 hBw6 hsz6 hn2 hFT hJJ htl
      go_wp2_with (first
        | (refine wpList_loadR (ty := 35) (x := .tmp 7) (ad := ⟨w.heap.size + 1, 0, none⟩) (v := .agg (vals v)) rfl rfl rfl hlv ?_)
        | (refine wpList_loadR (ty := 35) (x := .tmp 6) (ad := ⟨w.heap.size, 0, none⟩) (v := .agg (vals cut)) rfl rfl rfl hlc' ?_))
      refine Calls.mono hJ ?_
      rintro e w8 ⟨rfl, hb8⟩
      have hA8 := hA7.below hb8
      have hBn8 := hBn7.below hb8
      have hCu : Lies w8 w.heap.size cut := hCu.below hb8 hCu.lt
      have hVu : Lies w8 (w.heap.size + 1) v := hVu.below hb8 hVu.lt
      have hTu : Lies w8 (w.heap.size + 1 + 1) t := hTu.below hb8 hTu.lt
      have hBw8 := hBw7.trans (hb8.mono hBw7.size)
      have hn0 := lies_new w8 zeros
      obtain ⟨w9, hst, hD, hb9, hoth⟩ := vv_store (v := J) hn0 lJ rfl ((Below.refl w8.heap.size w8).alloc (Nat.le_refl _) (.cells (vals zeros) 35)) (Nat.le_refl _)
      have hA := hA8.below hb9
      have hB := hBn8.below hb9
      have hCu : Lies w9 w.heap.size cut := hCu.below hb9 hCu.lt
      have hVu : Lies w9 (w.heap.size + 1) v := hVu.below hb9 hVu.lt
      have hTu : Lies w9 (w.heap.size + 1 + 1) t := hTu.below hb9 hTu.lt
      have hBw := hBw8.trans (hb9.mono hBw8.size)
      rw [zeros_vals] at hst
      obtain ⟨D, hDe⟩ : ∃ D, w8.heap.size = D := ⟨_, rfl⟩
      rw [hDe] at hst hD
      clear hlv hlc' hA7 hBn7 hBw7 hsz7 hb8 hA8 hBn8 hBw8 hn0 hb9 hoth hAp7 hJ
      go_wp2_with (refine wpList_storeR (ty := 35) (x := .tmp 15) (y := .tmp 68) (ad := ⟨D, 0, none⟩) (v := .agg (vals J)) (w' := w9) rfl rfl rfl rfl hst ?_)
      obtain ⟨W, hW⟩ : ∃ W, W = w9.drew := ⟨_, rfl⟩
      have hA : Lw 31 (w.heap.size + 1 + 1 + 1) W ga va2 (trimE E cut) := by rw [hW]; exact hA.drew
      have hB : Lw 31 (w.heap.size + 1 + 1 + 1) W gb vb E := by rw [hW]; exact hB.drew
      have hDd : Lies W D J := by rw [hW]; exact hD.drew
      have hTd : Lies W (w.heap.size + 1 + 1) t := by rw [hW]; exact hTu.drew
      have HBW : Hid (Below w.heap.size w W) := by rw [hW]; exact hBw.drew
      clear hst hDe hD hCu hVu hTu hBw
      refine wp_region_noPanic ?_
      refine wp_region_held_drew (S := fun W' : World => Lies W' D J ∧ Lies W' (w.heap.size + 1 + 1) t) (by kernel_rfl) (by rw [← hW]; exact ⟨hDd, hTd⟩) (fun hHeld => ?_)
      rw [← hW] at hHeld ⊢
      refine wpAnyH_take (i := 0) (oi := { dst := some 69, op := _, type := _, pos := _, after := _, guard := _ }) (v := .pointer (some ⟨ga, 0, none⟩)) rfl (by kernel_rfl) (by kernel_rfl) (by kernel_rfl) (fun _ _ _ h => h) (Or.inl ⟨by rfl, ?_⟩) (by assumption) ?_
      · intro w9 hSw
        exact y_move rfl rfl
      simp only [Act.put, List.setIfInBounds_toArray, List.set_cons_zero, List.set_cons_succ]
      refine wpAnyH_take (i := 1) (oi := { dst := some 70, op := _, type := _, pos := _, after := _, guard := _ }) (v := .agg (vals J)) rfl (by kernel_rfl) (by kernel_rfl) (by kernel_rfl) (fun _ _ _ h => h) (Or.inl ⟨by rfl, ?_⟩) (by assumption) ?_
      · intro w9 hSw
        exact y_load rfl rfl (load_v hSw.1 lJ)
      simp only [Act.put, List.setIfInBounds_toArray, List.set_cons_zero, List.set_cons_succ]
      refine wpAnyH_take (i := 2) (oi := { dst := some 71, op := _, type := _, pos := _, after := _, guard := _ }) (v := .agg (vals t)) rfl (by kernel_rfl) (by kernel_rfl) (by kernel_rfl) (fun _ _ _ h => h) (Or.inl ⟨by rfl, ?_⟩) (by assumption) ?_
      · intro w9 hSw
        exact y_load rfl rfl (load_v hSw.2 lt)
      simp only [Act.put, List.setIfInBounds_toArray, List.set_cons_zero, List.set_cons_succ]
      refine wpAnyH_take (i := 3) (oi := { dst := some 72, op := _, type := _, pos := _, after := _, guard := _ }) (v := .int .u8 m) rfl (by kernel_rfl) (by kernel_rfl) (by kernel_rfl) (fun _ _ _ h => h) (Or.inl ⟨by rfl, ?_⟩) (by assumption) ?_
      · intro w9 hSw
        exact y_move rfl rfl
      simp only [Act.put, List.setIfInBounds_toArray, List.set_cons_zero, List.set_cons_succ]
      refine wpAnyH_take (i := 4) (oi := { dst := some 73, op := _, type := _, pos := _, after := _, guard := _ }) (v := .int .i64 m) rfl (by kernel_rfl) (by kernel_rfl) (by kernel_rfl) (fun _ _ _ h => h) (Or.inl ⟨by rfl, ?_⟩) (by assumption) ?_
      · intro w9 hSw
        exact y_conv rfl rfl (conv_u8 _ hm)
      simp only [Act.put, List.setIfInBounds_toArray, List.set_cons_zero, List.set_cons_succ]
      refine wpAnyH_take (i := 6) (oi := { dst := some 75, op := _, type := _, pos := _, after := _, guard := _ }) (v := .pointer (some ⟨gb, 0, none⟩)) rfl (by kernel_rfl) (by kernel_rfl) (by kernel_rfl) (fun _ _ _ h => h) (Or.inl ⟨by rfl, ?_⟩) (by assumption) ?_
      · intro w9 hSw
        exact y_move rfl rfl
      simp only [Act.put, List.setIfInBounds_toArray, List.set_cons_zero, List.set_cons_succ]
      refine wpAnyH_take (i := 7) (oi := { dst := some 76, op := _, type := _, pos := _, after := _, guard := _ }) (v := .agg (vals J)) rfl (by kernel_rfl) (by kernel_rfl) (by kernel_rfl) (fun _ _ _ h => h) (Or.inl ⟨by rfl, ?_⟩) (by assumption) ?_
      · intro w9 hSw
        exact y_load rfl rfl (load_v hSw.1 lJ)
      simp only [Act.put, List.setIfInBounds_toArray, List.set_cons_zero, List.set_cons_succ]
      refine wpAnyH_take (i := 8) (oi := { dst := some 77, op := _, type := _, pos := _, after := _, guard := _ }) (v := .agg (vals t)) rfl (by kernel_rfl) (by kernel_rfl) (by kernel_rfl) (fun _ _ _ h => h) (Or.inl ⟨by rfl, ?_⟩) (by assumption) ?_
      · intro w9 hSw
        exact y_load rfl rfl (load_v hSw.2 lt)
      simp only [Act.put, List.setIfInBounds_toArray, List.set_cons_zero, List.set_cons_succ]
      refine wpAnyH_take (i := 9) (oi := { dst := some 78, op := _, type := _, pos := _, after := _, guard := _ }) (v := .int .u8 m) rfl (by kernel_rfl) (by kernel_rfl) (by kernel_rfl) (fun _ _ _ h => h) (Or.inl ⟨by rfl, ?_⟩) (by assumption) ?_
      · intro w9 hSw
        exact y_move rfl rfl
      simp only [Act.put, List.setIfInBounds_toArray, List.set_cons_zero, List.set_cons_succ]
      refine wpAnyH_take (i := 10) (oi := { dst := some 79, op := _, type := _, pos := _, after := _, guard := _ }) (v := .int .i64 m) rfl (by kernel_rfl) (by kernel_rfl) (by kernel_rfl) (fun _ _ _ h => h) (Or.inl ⟨by rfl, ?_⟩) (by assumption) ?_
      · intro w9 hSw
        exact y_conv rfl rfl (conv_u8 _ hm)
      simp only [Act.put, List.setIfInBounds_toArray, List.set_cons_zero, List.set_cons_succ]
      clear hHeld
      refine wpAnyH_ready (rs := [5]) (by kernel_rfl) (by simp) ?_
      refine AllReadyH.cons (o := { dst := some 74, op := _, type := _, pos := _, after := _, guard := _ }) rfl (fun K hK => ?_) AllReadyH.nil
      rw [if_pos (by rfl)]
      refine y_call (f := 13) (xs := [.tmp 69, .tmp 70, .tmp 71, .tmp 73]) (vs := [.pointer (some ⟨ga, 0, none⟩), .agg (vals J), .agg (vals t), .int .i64 m]) rfl rfl (enters_pfor _ _) (pfor_any _ (trimE E cut) J t lJ lt m (by have := trim_len E cut; omega) W hA.lp.lp) ?_
      rintro ex w6 ⟨r1, rfl, hR1, hb6⟩
      refine ⟨_, rfl, ?_⟩
      have hB6 := hB.below hb6
      have hD6 := hDd.below hb6 hDd.lt
      have hT6 := hTd.below hb6 hTd.lt
      refine hK.out _ _ ⟨hD6, hT6⟩ (fun hHeld => ?_)
      clear hK K
      simp only [Act.put, List.setIfInBounds_toArray, List.set_cons_zero, List.set_cons_succ]
      clear hHeld
      refine wpAnyH_ready (rs := [11]) (by kernel_rfl) (by simp) ?_
      refine AllReadyH.cons (o := { dst := some 80, op := _, type := _, pos := _, after := _, guard := _ }) rfl (fun K hK => ?_) AllReadyH.nil
      rw [if_pos (by rfl)]
      refine y_call (f := 13) (xs := [.tmp 75, .tmp 76, .tmp 77, .tmp 79]) (vs := [.pointer (some ⟨gb, 0, none⟩), .agg (vals J), .agg (vals t), .int .i64 m]) rfl rfl (enters_pfor _ _) (pfor_any _ E J t lJ lt m (by omega) w6 hB6.lp.lp) ?_
      rintro ex w7 ⟨r2, rfl, hR2, hb7⟩
      refine ⟨_, rfl, ?_⟩
      have hD7 := hD6.below hb7 hD6.lt
      have hT7 := hT6.below hb7 hT6.lt
      have hR1' := hR1.below hb7 (Nat.le_refl _)
      rw [HJ.out] at hR1'
      obtain ⟨a1, c1, rfl, hE1⟩ := hR1'.evs (fun e he => hwE e (for_mem he))
      obtain ⟨a2, c2, rfl, hE2⟩ := hR2.evs (fun e he => hwE e (for_mem he))
      refine hK.out _ _ ⟨hD7, hT7⟩ (fun hHeld => ?_)
      clear hK K
      simp only [Act.put, List.setIfInBounds_toArray, List.set_cons_zero, List.set_cons_succ]
      clear hHeld
      refine wpAnyH_ready (rs := [12]) (by kernel_rfl) (by simp) ?_
      refine AllReadyH.cons (o := { dst := some 81, op := _, type := _, pos := _, after := _, guard := _ }) rfl (fun K hK => ?_) AllReadyH.nil
      rw [if_pos (by rfl)]
      refine y_call (f := 12) (xs := [.tmp 74, .tmp 80]) (vs := [.slice a1 (forE E J t m).length c1, .slice a2 (forE E J t m).length c2]) rfl rfl (enters_same _ _) (same_yes a1 a2 _ c1 c2 (forE E J t m) w7 hE1 hE2 (by have := for_len E J t m; omega)) ?_
      rintro ex w8 ⟨rfl, hb8⟩
      refine ⟨_, rfl, ?_⟩
      have hD8 := hD7.below hb8 hD7.lt
      have hT8 := hT7.below hb8 hT7.lt
      refine hK.out _ _ ⟨hD8, hT8⟩ (fun hHeld => ?_)
      clear hK K
      simp only [Act.put, List.setIfInBounds_toArray, List.set_cons_zero, List.set_cons_succ]
      refine wpAnyH_take (i := 13) (oi := { dst := some 10, op := _, type := _, pos := _, after := _, guard := _ }) (v := .bool true) rfl (by kernel_rfl) (by kernel_rfl) (by kernel_rfl) (fun _ _ _ h => h) (Or.inl ⟨by rfl, ?_⟩) (by assumption) ?_
      · intro w9 hSw
        exact y_assign rfl rfl
      simp only [Act.put, List.setIfInBounds_toArray, List.set_cons_zero, List.set_cons_succ]
      refine wpAnyH_done (by kernel_rfl) ?_ _
      refine NoPanic.normal ?_
      clear hHeld
      have HF : Hid (Below w.heap.size w w8) := ((HBW.out.trans (hb6.mono HBW.out.size)).trans (hb7.mono (Nat.le_trans HBW.out.size hb6.size))).trans (hb8.mono (Nat.le_trans HBW.out.size (Nat.le_trans hb6.size hb7.size)))
      clear hA hB hDd hTd hb6 hb7 hb8 hB6 hD6 hT6 hD7 hT7 hR1 hR1' hR2 hE1 hE2 hD8 hT8
      go_wp2
      go_ret
      exact ⟨rfl, HF.out⟩
theorem ltrims_walk (ao : Option Addr) (len cap : Nat) (E : List Ev) (cut v t : List Int) (lc : cut.length = 16) (lv : v.length = 16) (lt : t.length = 16) (m : Int) (hm : 0 ≤ m ∧ m ≤ 255) (w : World) (hE : Evs w ao len cap E) : Calls Try.prog 5 #[.slice ao len cap, .agg (vals cut), .agg (vals v), .agg (vals t), .int .u8 m] w fun e w' => e = .returned (.bool true) ∧ Below w.heap.size w w' := by
  by_cases hl : 200 < len
  · exact ltrims_far ao len cap cut v t m w hl
  · exact ltrims_go ao len cap E cut v t lc lv lt m hm w hE hl
end Go.Proofs.Yteanpepmncgagaa
