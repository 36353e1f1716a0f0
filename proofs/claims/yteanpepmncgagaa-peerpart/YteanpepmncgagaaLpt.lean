/-
  PeerPart, the walk.
-/
import Derived.Test.YteanpepmncgagaaPla
import Derived.Lib.MinMax
namespace Go.Proofs.Yteanpepmncgagaa
set_option maxRecDepth 100000
open Go.RowKit

theorem lss_yes (w : World) {a b : Int} (h : a < b) : (binOp .lss 3 (.int .i64 a) (.int .i64 b)).run Try.prog w = .ok (.bool true) w := by
  rw [binOp_lss, ← decide_eq_true h]; rfl
theorem eql_no (w : World) {a b : Int} (h : a ≠ b) : (binOp .eql 3 (.int .i64 a) (.int .i64 b)).run Try.prog w = .ok (.bool false) w := by
  simp [binOp, Op.intCmp, h]
theorem walk_skip {E L : List Ev} {p : Ev → Bool} {at1 : Nat} {e x : Ev} (h : (E.drop at1).filter p = x :: L) (he : E[at1]? = some e) (hex : e ≠ x) : (E.drop (at1 + 1)).filter p = x :: L := by
  have hl := (List.getElem?_eq_some_iff.1 he).1
  have h1 : E.drop at1 = e :: E.drop (at1 + 1) := by
    rw [List.drop_eq_getElem_cons hl, (List.getElem?_eq_some_iff.1 he).2]
  rw [h1, List.filter_cons] at h
  split at h
  · injection h with h2 h3
    exact absurd h2 hex
  · exact h
theorem walk_hit {E L : List Ev} {p : Ev → Bool} {at1 : Nat} {x : Ev} (h : (E.drop at1).filter p = x :: L) (he : E[at1]? = some x) : (E.drop (at1 + 1)).filter p = L := by
  have hl := (List.getElem?_eq_some_iff.1 he).1
  have h1 : E.drop at1 = x :: E.drop (at1 + 1) := by
    rw [List.drop_eq_getElem_cons hl, (List.getElem?_eq_some_iff.1 he).2]
  have hp : p x = true := (List.mem_filter.1 (by rw [h]; exact List.mem_cons_self)).2
  rw [h1, List.filter_cons, if_pos hp] at h
  injection h with h2 h3
theorem walk_more {E L : List Ev} {p : Ev → Bool} {at1 : Nat} {x : Ev} (h : (E.drop at1).filter p = x :: L) : at1 < E.length := by
  apply Classical.byContradiction
  intro hn
  rw [List.drop_eq_nil_of_le (by omega)] at h
  cases h
set_option maxHeartbeats 1000000 in
theorem lpart_far (ao : Option Addr) (len cap : Nat) (v t : List Int) (m : Int) (w : World) (hl : 200 < len) : Calls Try.prog 7 #[.slice ao len cap, .agg (vals v), .agg (vals t), .int .u8 m] w fun e w' => e = .returned (.bool true) ∧ Below w.heap.size w w' := by
  obtain ⟨-, -, hb0⟩ := two_vv w v t
  generalize hW0 : (w.alloc (.cells (vals v) 35)).alloc (.cells (vals t) 35) = W0 at *
  have hA := pawake_any W0
  have HB0 : Hid (Below w.heap.size w W0) := hb0
  clear hb0
  go_enter Try.func7, Try.ntmps7
  go_wp2_with fail
  refine Calls.mono hA ?_
  rintro e w1 ⟨rfl, hb1⟩
  have hA2 := pawake_any w1
  have HB1 : Hid (Below w.heap.size w w1) := HB0.out.trans (hb1.mono HB0.out.size)
  clear hb1 hA HB0
  go_wp2_with fail
  refine Calls.mono hA2 ?_
  rintro e w3 ⟨rfl, hb3⟩
  have HB3 : Hid (Below w.heap.size w w3) := HB1.out.trans (hb3.mono HB1.out.size)
  clear hb3 hA2
  go_wp2
  go_ret
  exact ⟨rfl, HB3.out⟩
set_option maxHeartbeats 8000000 in
theorem lpart_go (ao : Option Addr) (len cap : Nat) (E : List Ev) (v t : List Int) (lv : v.length = 16) (lt : t.length = 16) (m : Int) (hm : 0 ≤ m ∧ m ≤ 255) (w : World) (hE : Evs w ao len cap E) (hl : ¬ 200 < len) : Calls Try.prog 7 #[.slice ao len cap, .agg (vals v), .agg (vals t), .int .u8 m] w fun e w' => e = .returned (.bool true) ∧ Below w.heap.size w w' := by
  obtain ⟨hVu, hTu, hb0⟩ := two_vv w v t
  have hd : decide ((200 : Int) < (len : Int)) = false := decide_eq_false (by omega)
  generalize hW0 : (w.alloc (.cells (vals v) 35)).alloc (.cells (vals t) 35) = W0 at *
  have hAw := pawake_any W0
  have hlen := hE.len
  have hwE := hE.wide
  go_enter Try.func7, Try.ntmps7
  go_wp2_with fail
  refine Calls.mono hAw ?_
  rintro e w1 ⟨rfl, hb1⟩
  have hVu : Lies w1 w.heap.size v := hVu.below hb1 hVu.lt
  have hTu : Lies w1 (w.heap.size + 1) t := hTu.below hb1 hTu.lt
  have hB1 := hb0.trans (hb1.mono hb0.size)
  have hlt2 := hTu.lt
  clear hb0 hb1 hAw hW0
  have hN1 := pnew_any w1
  have hA0 := lw_new (F := w.heap.size + 1 + 1) w1 31 hlt2
  have hb2 : Below w1.heap.size w1 (w1.alloc (.cells #[.slice none 0 0] 31)) := (Below.refl _ w1).alloc (Nat.le_refl _) _
  obtain ⟨g, hg⟩ : ∃ g, w1.heap.size = g := ⟨_, rfl⟩
  have hb13 := hb2
  generalize hW2 : w1.alloc (.cells #[.slice none 0 0] 31) = w3 at *
  have hVu : Lies w3 w.heap.size v := hVu.below hb13 hVu.lt
  have hTu : Lies w3 (w.heap.size + 1) t := hTu.below hb13 hTu.lt
  have hB3 := hB1.trans (hb13.mono hB1.size)
  have hsz3 : w.heap.size + 1 + 1 ≤ w3.heap.size := Nat.le_trans hlt2 hb13.size
  rw [hg] at hA0 hN1
  clear hb2 hb13 hg hB1 hlt2
  have he := fun W ad => eql_lp W ad
  go_wp2_with fail
  refine Calls.mono hN1 ?_
  rintro e wx ⟨rfl, hw⟩
  obtain rfl := hw.symm
  clear hw hN1 hW2
  go_wp2_with fail
  clear he
  go_loopw [28] (fun i wr => ∃ (k : Nat) (va : Value), k ≤ len ∧ i = .int .i64 (k : Int) ∧ Lw 31 (w.heap.size + 1 + 1) wr g va (E.take k) ∧ Lies wr w.heap.size v ∧ Lies wr (w.heap.size + 1) t ∧ Below w.heap.size w wr ∧ w.heap.size + 1 + 1 ≤ wr.heap.size) (fun i _ => len - (intOf i).toNat)
  case atStart => exact ⟨0, _, Nat.zero_le _, rfl, hA0, hVu, hTu, hB3, hsz3⟩
  case round =>
    clear hA0 hVu hTu hB3 hsz3
    obtain ⟨k, va, hk, rfl, hA, hVu, hTu, hBw, hsz⟩ := hrel
    by_cases hkl : k < len
    · obtain ⟨b, off, u, rfl, hui, hu, hr, hbl⟩ := (hE.below hBw (Nat.le_refl _)).at hkl
      have hix := fun W : World => index_ev W (b := b) (off := off) (k := k) (m := len) (c := cap) hkl
      have hP1 := padd_at g va (E.take k) u hu (by rw [List.length_take]; omega) wr hA.lp
      have HSN : Hid (E.take (k + 1) = E.take k ++ [u]) := take_snoc hui
      go_wp2_with (first | refine load_ev_mid rfl rfl rfl hr hu.1 ?_)
      refine Calls.mono hP1 ?_
      rintro e w4 ⟨rfl, va', hL4, hT4⟩
      obtain ⟨hA4, hB4⟩ := hA.turn hsz hL4 hT4
      have HALL : Hid (Lw 31 (w.heap.size + 1 + 1) w4 g va' (E.take (k + 1)) ∧ Lies w4 w.heap.size v ∧ Lies w4 (w.heap.size + 1) t ∧ Below w.heap.size w w4 ∧ w.heap.size + 1 + 1 ≤ w4.heap.size) := by
        rw [HSN.out]
        exact ⟨hA4, (hB4.block _ (by omega)).trans hVu, (hB4.block _ (by omega)).trans hTu, hBw.trans (hB4.mono (by omega)), Nat.le_trans hsz hT4.size⟩
      clear hP1 hL4 hT4 hA hB4 hA4 hBw hr hbl hsz hVu hTu hix HSN
      go_wp2
      go_roundw
      case rel => exact ⟨k + 1, va', by omega, by go_num, HALL.out⟩
      case measure => simp [intOf]; omega
    · obtain rfl : k = len := by omega
      rw [List.take_of_length_le (by omega)] at hA
      obtain ⟨W, hW⟩ : ∃ W, W = wr.drew := ⟨_, rfl⟩
      have hA : Lw 31 (w.heap.size + 1 + 1) W g va E := by rw [hW]; exact hA.drew
      have hVd : Lies W w.heap.size v := by rw [hW]; exact hVu.drew
      have hTd : Lies W (w.heap.size + 1) t := by rw [hW]; exact hTu.drew
      have HBW : Hid (Below w.heap.size w W) := by rw [hW]; exact hBw.drew
      clear hVu hTu hBw
      go_wp2_with fail
      refine wp_region_noPanic ?_
      refine wp_region_held_drew (S := fun W' : World => Lies W' w.heap.size v ∧ Lies W' (w.heap.size + 1) t) (by kernel_rfl) (by rw [← hW]; exact ⟨hVd, hTd⟩) (fun hHeld => ?_)
      rw [← hW] at hHeld ⊢
      refine wpAnyH_take (i := 0) (oi := { dst := some 38, op := _, type := _, pos := _, after := _, guard := _ }) (v := .pointer (some ⟨g, 0, none⟩)) rfl (by kernel_rfl) (by kernel_rfl) (by kernel_rfl) (fun _ _ _ h => h) (Or.inl ⟨by rfl, ?_⟩) (by assumption) ?_
      · intro w9 hSw
        exact y_move rfl rfl
      simp only [Act.put, List.setIfInBounds_toArray, List.set_cons_zero, List.set_cons_succ]
      refine wpAnyH_take (i := 1) (oi := { dst := some 39, op := _, type := _, pos := _, after := _, guard := _ }) (v := .agg (vals v)) rfl (by kernel_rfl) (by kernel_rfl) (by kernel_rfl) (fun _ _ _ h => h) (Or.inl ⟨by rfl, ?_⟩) (by assumption) ?_
      · intro w9 hSw
        exact y_load rfl rfl (load_v hSw.1 lv)
      simp only [Act.put, List.setIfInBounds_toArray, List.set_cons_zero, List.set_cons_succ]
      refine wpAnyH_take (i := 2) (oi := { dst := some 40, op := _, type := _, pos := _, after := _, guard := _ }) (v := .agg (vals t)) rfl (by kernel_rfl) (by kernel_rfl) (by kernel_rfl) (fun _ _ _ h => h) (Or.inl ⟨by rfl, ?_⟩) (by assumption) ?_
      · intro w9 hSw
        exact y_load rfl rfl (load_v hSw.2 lt)
      simp only [Act.put, List.setIfInBounds_toArray, List.set_cons_zero, List.set_cons_succ]
      refine wpAnyH_take (i := 3) (oi := { dst := some 41, op := _, type := _, pos := _, after := _, guard := _ }) (v := .int .u8 m) rfl (by kernel_rfl) (by kernel_rfl) (by kernel_rfl) (fun _ _ _ h => h) (Or.inl ⟨by rfl, ?_⟩) (by assumption) ?_
      · intro w9 hSw
        exact y_move rfl rfl
      simp only [Act.put, List.setIfInBounds_toArray, List.set_cons_zero, List.set_cons_succ]
      refine wpAnyH_take (i := 4) (oi := { dst := some 42, op := _, type := _, pos := _, after := _, guard := _ }) (v := .int .i64 m) rfl (by kernel_rfl) (by kernel_rfl) (by kernel_rfl) (fun _ _ _ h => h) (Or.inl ⟨by rfl, ?_⟩) (by assumption) ?_
      · intro w9 hSw
        exact y_conv rfl rfl (conv_u8 _ hm)
      simp only [Act.put, List.setIfInBounds_toArray, List.set_cons_zero, List.set_cons_succ]
      refine wpAnyH_take (i := 6) (oi := { dst := some 44, op := _, type := _, pos := _, after := _, guard := _ }) (v := .pointer (some ⟨g, 0, none⟩)) rfl (by kernel_rfl) (by kernel_rfl) (by kernel_rfl) (fun _ _ _ h => h) (Or.inl ⟨by rfl, ?_⟩) (by assumption) ?_
      · intro w9 hSw
        exact y_move rfl rfl
      simp only [Act.put, List.setIfInBounds_toArray, List.set_cons_zero, List.set_cons_succ]
      refine wpAnyH_take (i := 7) (oi := { dst := some 45, op := _, type := _, pos := _, after := _, guard := _ }) (v := .agg (vals v)) rfl (by kernel_rfl) (by kernel_rfl) (by kernel_rfl) (fun _ _ _ h => h) (Or.inl ⟨by rfl, ?_⟩) (by assumption) ?_
      · intro w9 hSw
        exact y_load rfl rfl (load_v hSw.1 lv)
      simp only [Act.put, List.setIfInBounds_toArray, List.set_cons_zero, List.set_cons_succ]
      refine wpAnyH_take (i := 8) (oi := { dst := some 46, op := _, type := _, pos := _, after := _, guard := _ }) (v := .agg (vals t)) rfl (by kernel_rfl) (by kernel_rfl) (by kernel_rfl) (fun _ _ _ h => h) (Or.inl ⟨by rfl, ?_⟩) (by assumption) ?_
      · intro w9 hSw
        exact y_load rfl rfl (load_v hSw.2 lt)
      simp only [Act.put, List.setIfInBounds_toArray, List.set_cons_zero, List.set_cons_succ]
      refine wpAnyH_take (i := 9) (oi := { dst := some 47, op := _, type := _, pos := _, after := _, guard := _ }) (v := .slice ao k cap) rfl (by kernel_rfl) (by kernel_rfl) (by kernel_rfl) (fun _ _ _ h => h) (Or.inl ⟨by rfl, ?_⟩) (by assumption) ?_
      · intro w9 hSw
        exact y_move rfl rfl
      simp only [Act.put, List.setIfInBounds_toArray, List.set_cons_zero, List.set_cons_succ]
      refine wpAnyH_take (i := 10) (oi := { dst := some 48, op := _, type := _, pos := _, after := _, guard := _ }) (v := .int .i64 (k : Int)) rfl (by kernel_rfl) (by kernel_rfl) (by kernel_rfl) (fun _ _ _ h => h) (Or.inl ⟨by rfl, ?_⟩) (by assumption) ?_
      · intro w9 hSw
        exact y_len rfl rfl
      simp only [Act.put, List.setIfInBounds_toArray, List.set_cons_zero, List.set_cons_succ]
      clear hHeld
      refine wpAnyH_ready (rs := [5]) (by kernel_rfl) (by simp) ?_
      refine AllReadyH.cons (o := { dst := some 43, op := _, type := _, pos := _, after := _, guard := _ }) rfl (fun K hK => ?_) AllReadyH.nil
      rw [if_pos (by rfl)]
      refine y_call (f := 13) (xs := [.tmp 38, .tmp 39, .tmp 40, .tmp 42]) (vs := [.pointer (some ⟨g, 0, none⟩), .agg (vals v), .agg (vals t), .int .i64 m]) rfl rfl (enters_pfor _ _) (pfor_any _ E v t lv lt m (by omega) W hA.lp.lp) ?_
      rintro ex w6 ⟨r1, rfl, hR1, hb6⟩
      refine ⟨_, rfl, ?_⟩
      have hA6 := hA.below hb6
      have hV6 := hVd.below hb6 hVd.lt
      have hT6 := hTd.below hb6 hTd.lt
      refine hK.out _ _ ⟨hV6, hT6⟩ (fun hHeld => ?_)
      clear hK K
      simp only [Act.put, List.setIfInBounds_toArray, List.set_cons_zero, List.set_cons_succ]
      clear hHeld
      refine wpAnyH_ready (rs := [11]) (by kernel_rfl) (by simp) ?_
      refine AllReadyH.cons (o := { dst := some 49, op := _, type := _, pos := _, after := _, guard := _ }) rfl (fun K hK => ?_) AllReadyH.nil
      rw [if_pos (by rfl)]
      refine y_call (f := 13) (xs := [.tmp 44, .tmp 45, .tmp 46, .tmp 48]) (vs := [.pointer (some ⟨g, 0, none⟩), .agg (vals v), .agg (vals t), .int .i64 (k : Int)]) rfl rfl (enters_pfor _ _) (pfor_any _ E v t lv lt (k : Int) (by omega) w6 hA6.lp.lp) ?_
      rintro ex w7 ⟨r2, rfl, hR2, hb7⟩
      refine ⟨_, rfl, ?_⟩
      have hV7 := hV6.below hb7 hV6.lt
      have hT7 := hT6.below hb7 hT6.lt
      have hR1' := hR1.below hb7 (Nat.le_refl _)
      refine hK.out _ _ ⟨hV7, hT7⟩ (fun hHeld => ?_)
      clear hK K
      simp only [Act.put, List.setIfInBounds_toArray, List.set_cons_zero, List.set_cons_succ]
      refine wpAnyH_take (i := 12) (oi := { dst := some 11, op := _, type := _, pos := _, after := _, guard := _ }) (v := r1) rfl (by kernel_rfl) (by kernel_rfl) (by kernel_rfl) (fun _ _ _ h => h) (Or.inl ⟨by rfl, ?_⟩) (by assumption) ?_
      · intro w9 hSw
        exact y_assign rfl rfl
      simp only [Act.put, List.setIfInBounds_toArray, List.set_cons_zero, List.set_cons_succ]
      refine wpAnyH_take (i := 13) (oi := { dst := some 12, op := _, type := _, pos := _, after := _, guard := _ }) (v := r2) rfl (by kernel_rfl) (by kernel_rfl) (by kernel_rfl) (fun _ _ _ h => h) (Or.inl ⟨by rfl, ?_⟩) (by assumption) ?_
      · intro w9 hSw
        exact y_assign rfl rfl
      simp only [Act.put, List.setIfInBounds_toArray, List.set_cons_zero, List.set_cons_succ]
      refine wpAnyH_done (by kernel_rfl) ?_ _
      refine NoPanic.normal ?_
      clear hHeld
      have hB7 : Below w.heap.size w w7 := (HBW.out.trans (hb6.mono HBW.out.size)).trans (hb7.mono (Nat.le_trans HBW.out.size hb6.size))
      have hVu := hV7
      have hTu := hT7
      obtain ⟨a1, c1, rfl, hE1⟩ := hR1'.evs (fun e he => hwE e (for_mem he))
      obtain ⟨a2, c2, rfl, hE2⟩ := hR2.evs (fun e he => hwE e (for_mem he))
      clear hR1 hR1' hR2 hA hA6 hV6 hT6 hV7 hT7 hVd hTd hb6 hb7 hW HBW
      have hall : forE E v t (k : Int) = E.filter (tellE v t) := by
        unfold forE
        rw [Int.toNat_natCast, List.take_of_length_le]
        have := List.length_filter_le (tellE v t) E
        omega
      have hout : forE E v t m = (E.filter (tellE v t)).take m.toNat := rfl
      rw [hall] at hE2
      rw [hout] at hE1
      have HA0 : Hid (E.filter (tellE v t) = E.filter (tellE v t)) := rfl
      rw [hall, hout]
      obtain ⟨A, hAe⟩ : ∃ A, E.filter (tellE v t) = A := ⟨_, rfl⟩
      rw [hAe] at hE1 hE2 ⊢
      obtain ⟨n2, hn2⟩ : ∃ n2, A.length = n2 := ⟨_, rfl⟩
      obtain ⟨n1, hn1⟩ : ∃ n1, (A.take m.toNat).length = n1 := ⟨_, rfl⟩
      have hnn : n1 = min m.toNat n2 := by rw [← hn1, ← hn2, List.length_take]
      have hnl : n2 ≤ k := by rw [← hn2, ← hAe]; have := List.length_filter_le (tellE v t) E; omega
      rw [hn1] at hE1
      rw [hn2] at hE2
      rw [hn1, hn2]
      have hE3 := hE2.take (i := n1) (by omega)
      have htk : A.take n1 = A.take m.toNat := by
        rw [hnn]
        rcases Nat.le_total m.toNat n2 with h | h
        · rw [Nat.min_eq_left h]
        · rw [Nat.min_eq_right h, List.take_of_length_le (by omega), List.take_of_length_le (by omega)]
      rw [htk] at hE3
      have hSm := same_yes a1 a2 n1 c1 c2 (A.take m.toNat) w7 hE1 hE3 (by omega)
      have hwm : IntKind.i64.wrap m = m := by simp [IntKind.wrap, IntKind.signed, IntKind.bits]; omega
      have hd1 : decide (m < (n1 : Int)) = false := decide_eq_false (by omega)
      have hd2 : decide (n2 < n1) = false := decide_eq_false (by omega)
      have hd3 : decide ((n2 : Int) < (n1 : Int)) = false := decide_eq_false (by omega)
      have hroom := hE2.room
      have hs2 := fun W : World => slice_at W (ao := a2) (m := n2) (c := c2) (k := n1) (by omega)
      obtain ⟨y, hy⟩ : ∃ y, min m (n2 : Int) = y := ⟨_, rfl⟩
      have hd4 : decide ((n1 : Int) < y) = false := decide_eq_false (by omega)
      have HAe : Hid (E.filter (tellE v t) = A) := hAe
      have HN : Hid (A.length = n2 ∧ n2 ≤ k ∧ (∀ e ∈ A, Wide e)) := ⟨hn2, hnl, hE2.wide⟩
      clear hE1 hE3 htk hnn hn1 hn2 hnl hAe hall hout HA0 hroom
      go_wp2_with fail
      refine Calls.mono hSm ?_
      rintro e w8 ⟨rfl, hb8⟩
      have hE2 := hE2.below hb8 (Nat.le_refl _)
      have hVu : Lies w8 w.heap.size v := hVu.below hb8 hVu.lt
      have hTu : Lies w8 (w.heap.size + 1) t := hTu.below hb8 hTu.lt
      have hB8 := hB7.trans (hb8.mono hB7.size)
      clear hSm hb8 hB7
      go_wp2_with fail
      clear hd1 hd2 hd3 hd4 hs2 hy hwm
      go_loopw [13, 83] (fun s13 s83 wz => ∃ (i at1 : Nat), i ≤ n2 ∧ at1 ≤ k ∧ s13 = .int .i64 (at1 : Int) ∧ s83 = .int .i64 (i : Int) ∧ Hid ((E.drop at1).filter (tellE v t) = A.drop i) ∧ Evs wz a2 n2 c2 A ∧ Lies wz w.heap.size v ∧ Lies wz (w.heap.size + 1) t ∧ Below w.heap.size w wz) (fun _ i _ => n2 - (intOf i).toNat)
      case atStart => exact ⟨0, 0, Nat.zero_le _, Nat.zero_le _, rfl, rfl, HAe.out, hE2, hVu, hTu, hB8⟩
      case round =>
        clear hE2 hVu hTu hB8
        rename World => wz
        obtain ⟨i, at0, hi, hat, rfl, rfl, HF, hE2, hVu, hTu, hBz⟩ := hrel
        by_cases hin : i < n2
        · have hil : i < A.length := by rw [HN.out.1]; exact hin
          obtain ⟨x, hxi⟩ : ∃ x, A[i]? = some x := ⟨_, List.getElem?_eq_getElem hil⟩
          have hx : Wide x := HN.out.2.2 x (List.mem_of_getElem? hxi)
          have hpx : tellE v t x = true := (List.mem_filter.1 (by rw [HAe.out]; exact List.mem_of_getElem? hxi)).2
          have HDR : Hid (A.drop i = x :: A.drop (i + 1)) := by
            show _ = _
            rw [List.drop_eq_getElem_cons hil, (List.getElem?_eq_some_iff.1 hxi).2]
          obtain ⟨b2, o2, x', rfl, hx2, -, -, -⟩ := hE2.at hin
          go_wp2
          go_loopw [13] (fun s13 wz => ∃ (at1 : Nat), at1 ≤ k ∧ s13 = .int .i64 (at1 : Int) ∧ Hid ((E.drop at1).filter (tellE v t) = x :: A.drop (i + 1)) ∧ Evs wz (some ⟨b2, o2, none⟩) n2 c2 A ∧ Lies wz w.heap.size v ∧ Lies wz (w.heap.size + 1) t ∧ Below w.heap.size w wz) (fun s13 _ => k - (intOf s13).toNat)
          case atStart => exact ⟨at0, hat, rfl, by rw [← HDR.out]; exact HF.out, hE2, hVu, hTu, hBz⟩
          case round =>
            clear hE2 hVu hTu hBz HF
            rename World => wz
            obtain ⟨at1, hat1, rfl, HF, hE2, hVu, hTu, hBz⟩ := hrel
            have hatk : at1 < k := by have := walk_more HF.out; omega
            obtain ⟨b0, o0, e, hao, hei, he, hr0, hl0⟩ := (hE.below hBz (Nat.le_refl _)).at hatk
            obtain ⟨hr2, hl2⟩ := hE2.range hxi
            by_cases hex : e = x
            · have HF2 : Hid ((E.drop (at1 + 1)).filter (tellE v t) = A.drop (i + 1)) := walk_hit HF.out (by rw [hei, hex])
              subst hao
              go_wp2_with fail
              refine region_vals [86, 87, 88, 89, 90, 91, 92, 93, 94, 95, 96, 97, 98, 99, 100] [.int .i64 (at1 : Int), .slice (some ⟨b0, o0, none⟩) k cap, .int .i64 (k : Int), .bool true, .bool true, .slice (some ⟨b0, o0, none⟩) k cap, .int .i64 (at1 : Int), .pointer (some ⟨b0, o0 + at1 * 26, none⟩), .agg (evc e), .slice (some ⟨b2, o2, none⟩) n2 c2, .int .i64 (i : Int), .pointer (some ⟨b2, o2 + i * 26, none⟩), .agg (evc x), .bool false, .bool false] _ (by kernel_rfl) (by kernel_rfl) (by rfl) (by decide) (by kernel_rfl) (by simp only [lay, Act.put, List.setIfInBounds_toArray, List.set_cons_zero, List.set_cons_succ, List.getD_cons_zero, List.getD_cons_succ, Nat.reduceAdd]; rfl) ⟨?_, ?_, ?_, ?_, ?_, ?_, ?_, ?_, ?_, ?_, ?_, ?_, ?_, ?_, ?_, trivial⟩ ?_
              · exact .inl ⟨rfl, fun W hb => yields_move rfl rfl⟩
              · exact .inl ⟨rfl, fun W hb => yields_move rfl rfl⟩
              · exact .inl ⟨rfl, fun W hb => yields_ex (y_len rfl rfl)⟩
              · exact .inl ⟨rfl, fun W hb => yields_bin rfl rfl rfl (eqGuard_int _) (lss_yes _ (by omega))⟩
              · exact .inl ⟨rfl, fun W hb => yields_move rfl rfl⟩
              · exact .inl ⟨rfl, fun W hb => yields_move rfl rfl⟩
              · exact .inl ⟨rfl, fun W hb => yields_move rfl rfl⟩
              · exact .inl ⟨rfl, fun W hb => yields_indexAddr rfl rfl rfl (index_ev _ hatk)⟩
              · exact .inl ⟨rfl, fun W hb => yields_load rfl rfl (load_part (range_below hr0 hb hl0) he.1)⟩
              · exact .inl ⟨rfl, fun W hb => yields_move rfl rfl⟩
              · exact .inl ⟨rfl, fun W hb => yields_move rfl rfl⟩
              · exact .inl ⟨rfl, fun W hb => yields_indexAddr rfl rfl rfl (index_ev _ hin)⟩
              · exact .inl ⟨rfl, fun W hb => yields_load rfl rfl (load_part (range_below hr2 hb hl2) hx.1)⟩
              · exact .inl ⟨rfl, fun W hb => yields_bin rfl rfl rfl (eqGuard_ev _ _ _) (neq_evd _ he.1 hx.1 (by simpa using hex))⟩
              · exact .inl ⟨rfl, fun W hb => yields_pick (b := true) rfl rfl rfl⟩
              intro w9 hb9
              have hE2 := hE2.below hb9 (Nat.le_refl _)
              have hVu : Lies w9 w.heap.size v := hVu.below hb9 hVu.lt
              have hTu : Lies w9 (w.heap.size + 1) t := hTu.below hb9 hTu.lt
              have hBz := hBz.trans (hb9.mono hBz.size)
              obtain ⟨hr2, hl2⟩ := hE2.range hxi
              have hp1 : hasv t x.r x.n = true := by unfold tellE at hpx; rw [Bool.and_eq_true] at hpx; exact hpx.1
              have hp2 : hasv v x.r x.n = false := by unfold tellE at hpx; rw [Bool.and_eq_true] at hpx; simpa using hpx.2
              clear hb9 HF hr0 hl0 hei
              go_wp2_with fail
              refine region_vals [103, 104, 105, 106, 107, 108, 109, 110, 111, 112, 113, 114, 115, 116, 117, 118, 119, 120, 121, 122, 123, 124, 125] [.int .i64 (at1 : Int), .slice (some ⟨b0, o0, none⟩) k cap, .int .i64 (k : Int), .bool false, .bool false, .agg (vals t), .slice (some ⟨b2, o2, none⟩) n2 c2, .int .i64 (i : Int), .pointer (some ⟨b2, o2 + i * 26, none⟩), .pointer (some ⟨b2, o2 + i * 26 + 0, none⟩), .agg (dotc x.r x.n), .bool true, .bool false, .bool false, .bool false, .agg (vals v), .slice (some ⟨b2, o2, none⟩) n2 c2, .int .i64 (i : Int), .pointer (some ⟨b2, o2 + i * 26, none⟩), .pointer (some ⟨b2, o2 + i * 26 + 0, none⟩), .agg (dotc x.r x.n), .bool false, .bool false] _ (by kernel_rfl) (by kernel_rfl) (by rfl) (by decide) (by kernel_rfl) (by simp only [lay, Act.put, List.setIfInBounds_toArray, List.set_cons_zero, List.set_cons_succ, List.getD_cons_zero, List.getD_cons_succ, Nat.reduceAdd]; rfl) ⟨?_, ?_, ?_, ?_, ?_, ?_, ?_, ?_, ?_, ?_, ?_, ?_, ?_, ?_, ?_, ?_, ?_, ?_, ?_, ?_, ?_, ?_, ?_, trivial⟩ ?_
              · exact .inl ⟨rfl, fun W hb => yields_move rfl rfl⟩
              · exact .inl ⟨rfl, fun W hb => yields_move rfl rfl⟩
              · exact .inl ⟨rfl, fun W hb => yields_ex (y_len rfl rfl)⟩
              · exact .inl ⟨rfl, fun W hb => yields_bin rfl rfl rfl (eqGuard_int _) (eql_no _ (by omega))⟩
              · exact .inl ⟨rfl, fun W hb => yields_move rfl rfl⟩
              · exact .inl ⟨rfl, fun W hb => yields_load rfl rfl (load_v (hTu.below hb hTu.lt) lt)⟩
              · exact .inl ⟨rfl, fun W hb => yields_move rfl rfl⟩
              · exact .inl ⟨rfl, fun W hb => yields_move rfl rfl⟩
              · exact .inl ⟨rfl, fun W hb => yields_indexAddr rfl rfl rfl (index_ev _ hin)⟩
              · exact .inl ⟨rfl, fun W hb => yields_field rfl rfl (field_e0 _ _ _)⟩
              · exact .inl ⟨rfl, fun W hb => yields_load rfl rfl (load_dt (range_below hr2 hb hl2))⟩
              · exact .inl ⟨rfl, fun W hb => yields_call (f := 22) (xs := [.tmp 108, .tmp 113]) (vs := [.agg (vals t), .agg (dotc x.r x.n)]) (v := .bool true) rfl rfl (enters_rhas' _ _) (by rw [← hp1]; exact rhas_any t x.r x.n lt W)⟩
              · exact .inl ⟨rfl, fun W hb => yields_un rfl rfl rfl⟩
              · exact .inl ⟨rfl, fun W hb => yields_pick (b := false) rfl rfl rfl⟩
              · exact .inl ⟨rfl, fun W hb => yields_move rfl rfl⟩
              · exact .inl ⟨rfl, fun W hb => yields_load rfl rfl (load_v (hVu.below hb hVu.lt) lv)⟩
              · exact .inl ⟨rfl, fun W hb => yields_move rfl rfl⟩
              · exact .inl ⟨rfl, fun W hb => yields_move rfl rfl⟩
              · exact .inl ⟨rfl, fun W hb => yields_indexAddr rfl rfl rfl (index_ev _ hin)⟩
              · exact .inl ⟨rfl, fun W hb => yields_field rfl rfl (field_e0 _ _ _)⟩
              · exact .inl ⟨rfl, fun W hb => yields_load rfl rfl (load_dt (range_below hr2 hb hl2))⟩
              · exact .inl ⟨rfl, fun W hb => yields_call (f := 22) (xs := [.tmp 118, .tmp 123]) (vs := [.agg (vals v), .agg (dotc x.r x.n)]) (v := .bool false) rfl rfl (enters_rhas' _ _) (by rw [← hp2]; exact rhas_any v x.r x.n lv W)⟩
              · exact .inl ⟨rfl, fun W hb => yields_pick (b := false) rfl rfl rfl⟩
              intro wA hbA
              have HALL : Hid ((E.drop (at1 + 1)).filter (tellE v t) = A.drop (i + 1) ∧ Evs wA (some ⟨b2, o2, none⟩) n2 c2 A ∧ Lies wA w.heap.size v ∧ Lies wA (w.heap.size + 1) t ∧ Below w.heap.size w wA) := ⟨HF2.out, hE2.below hbA (Nat.le_refl _), hVu.below hbA hVu.lt, hTu.below hbA hTu.lt, hBz.trans (hbA.mono hBz.size)⟩
              clear hE2 hVu hTu hBz hbA hr2 hl2 hp1 hp2
              have hnk := HN.out.2.1
              go_wp2
              go_roundw
              case rel => exact ⟨i + 1, at1 + 1, by omega, by omega, by go_num, by go_num, HALL.out⟩
              case measure => simp [intOf]; omega
            · have HF2 : Hid ((E.drop (at1 + 1)).filter (tellE v t) = x :: A.drop (i + 1)) := walk_skip HF.out hei hex
              subst hao
              go_wp2_with fail
              refine region_vals [86, 87, 88, 89, 90, 91, 92, 93, 94, 95, 96, 97, 98, 99, 100] [.int .i64 (at1 : Int), .slice (some ⟨b0, o0, none⟩) k cap, .int .i64 (k : Int), .bool true, .bool true, .slice (some ⟨b0, o0, none⟩) k cap, .int .i64 (at1 : Int), .pointer (some ⟨b0, o0 + at1 * 26, none⟩), .agg (evc e), .slice (some ⟨b2, o2, none⟩) n2 c2, .int .i64 (i : Int), .pointer (some ⟨b2, o2 + i * 26, none⟩), .agg (evc x), .bool true, .bool true] _ (by kernel_rfl) (by kernel_rfl) (by rfl) (by decide) (by kernel_rfl) (by simp only [lay, Act.put, List.setIfInBounds_toArray, List.set_cons_zero, List.set_cons_succ, List.getD_cons_zero, List.getD_cons_succ, Nat.reduceAdd]; rfl) ⟨?_, ?_, ?_, ?_, ?_, ?_, ?_, ?_, ?_, ?_, ?_, ?_, ?_, ?_, ?_, trivial⟩ ?_
              · exact .inl ⟨rfl, fun W hb => yields_move rfl rfl⟩
              · exact .inl ⟨rfl, fun W hb => yields_move rfl rfl⟩
              · exact .inl ⟨rfl, fun W hb => yields_ex (y_len rfl rfl)⟩
              · exact .inl ⟨rfl, fun W hb => yields_bin rfl rfl rfl (eqGuard_int _) (lss_yes _ (by omega))⟩
              · exact .inl ⟨rfl, fun W hb => yields_move rfl rfl⟩
              · exact .inl ⟨rfl, fun W hb => yields_move rfl rfl⟩
              · exact .inl ⟨rfl, fun W hb => yields_move rfl rfl⟩
              · exact .inl ⟨rfl, fun W hb => yields_indexAddr rfl rfl rfl (index_ev _ hatk)⟩
              · exact .inl ⟨rfl, fun W hb => yields_load rfl rfl (load_part (range_below hr0 hb hl0) he.1)⟩
              · exact .inl ⟨rfl, fun W hb => yields_move rfl rfl⟩
              · exact .inl ⟨rfl, fun W hb => yields_move rfl rfl⟩
              · exact .inl ⟨rfl, fun W hb => yields_indexAddr rfl rfl rfl (index_ev _ hin)⟩
              · exact .inl ⟨rfl, fun W hb => yields_load rfl rfl (load_part (range_below hr2 hb hl2) hx.1)⟩
              · exact .inl ⟨rfl, fun W hb => yields_bin rfl rfl rfl (eqGuard_ev _ _ _) (neq_evd _ he.1 hx.1 (by simpa using hex))⟩
              · exact .inl ⟨rfl, fun W hb => yields_pick (b := true) rfl rfl rfl⟩
              intro w9 hb9
              have HALL : Hid (Evs w9 (some ⟨b2, o2, none⟩) n2 c2 A ∧ Lies w9 w.heap.size v ∧ Lies w9 (w.heap.size + 1) t ∧ Below w.heap.size w w9) := ⟨hE2.below hb9 (Nat.le_refl _), hVu.below hb9 hVu.lt, hTu.below hb9 hTu.lt, hBz.trans (hb9.mono hBz.size)⟩
              clear hE2 hVu hTu hBz hb9 hr2 hl2 hr0 hl0 HF
              go_wp2
              go_roundw
              case rel => exact ⟨at1 + 1, by omega, by go_num, HF2, HALL.out⟩
              case measure => simp [intOf]; omega
        · obtain rfl : i = n2 := by omega
          have HB : Hid (Below w.heap.size w wz) := hBz
          clear hE2 hVu hTu hBz HF
          go_wp2
          go_ret
          exact ⟨rfl, HB.out⟩
theorem lpart_walk (ao : Option Addr) (len cap : Nat) (E : List Ev) (v t : List Int) (lv : v.length = 16) (lt : t.length = 16) (m : Int) (hm : 0 ≤ m ∧ m ≤ 255) (w : World) (hE : Evs w ao len cap E) : Calls Try.prog 7 #[.slice ao len cap, .agg (vals v), .agg (vals t), .int .u8 m] w fun e w' => e = .returned (.bool true) ∧ Below w.heap.size w w' := by
  by_cases hl : 200 < len
  · exact lpart_far ao len cap v t m w hl
  · exact lpart_go ao len cap E v t lv lt m hm w hE hl
end Go.Proofs.Yteanpepmncgagaa
