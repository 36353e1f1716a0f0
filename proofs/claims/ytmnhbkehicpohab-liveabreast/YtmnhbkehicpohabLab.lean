/-
  LiveAbreast's walk.
-/
import Derived.Test.YtmnhbkehicpohabLhd
namespace Go.Proofs.Ytmnhbkehicpohab
set_option maxRecDepth 100000
open Go.RowKit

theorem wp_allocE {o : Oper} {a : Act} {w : World} {K : Act → World → Prop} {Q : Exit → Act → World → Prop} (ho : o.op = .alloc 33) (h : K (a.put o.dst (.pointer (some ⟨w.heap.size, 0, none⟩))) (w.alloc (.cells (evc zv) 33))) : o.wp Try.prog a w K Q := by
  have hr : (execOp a.eval o).run Try.prog w = .ok (.value (.pointer (some ⟨w.heap.size, 0, none⟩))) (w.alloc (.cells (evc zv) 33)) := by
    unfold execOp
    simp only [ho]
    kernel_rfl
  unfold Oper.wp
  rw [hr]
  exact h

set_option maxHeartbeats 1000000 in
theorem abreast_walk (ao : Option Addr) (m c : Nat) (E : List Ev) (w : World) (hE : Evs w ao m c E) :
    Calls Try.prog 3 #[.slice ao m c] w fun e w' => e = .returned (.bool true) ∧ Below w.heap.size w w' := by
  have hlen := hE.len
  have hwd : Hid (∀ e ∈ E, Wide e) := hE.wide
  go_enter Try.func3, Try.ntmps3
  go_wp2_with fail
  refine (awake_any w).mono ?_
  rintro e w1 ⟨rfl, hb1⟩
  have hE1 := hE.below hb1 (Nat.le_refl _)
  have HB1 : Hid (Below w.heap.size w w1) := hb1
  clear hE hb1
  go_wp2_with fail
  refine (few_any ao m c E w1 hE1).mono ?_
  rintro e w2 ⟨t, rfl, ht, hb2⟩
  have hE2 := hE1.below hb2 (Nat.le_refl _)
  have HB2 : Hid (Below w.heap.size w w2) := HB1.out.trans (hb2.mono HB1.out.size)
  clear hE1 hb2 HB1
  cases t with
  | false =>
    clear hE2
    go_wp2_with fail
    refine (awake_any w2).mono ?_
    rintro e w3 ⟨rfl, hb3⟩
    have HB3 : Hid (Below w.heap.size w w3) := HB2.out.trans (hb3.mono HB2.out.size)
    clear hb3 HB2
    go_wp2
    go_ret
    exact ⟨rfl, HB3.out⟩
  | true =>
    have hm := ht rfl
    clear ht
    go_wp2_with fail
    refine (all_any ao m c E w2 hE2 (by omega)).mono ?_
    rintro e wx ⟨vA, rfl, hRA, hbx⟩
    obtain ⟨aA, cA, hvA, hEA⟩ := hRA.evs (fun e he => hwd.out e (mem_all he))
    subst hvA
    have HBx : Hid (Below w.heap.size w wx) := HB2.out.trans (hbx.mono HB2.out.size)
    have HF : Aside (Evs wx aA (allE E).length cA (allE E)) := hEA
    have hlA := all_length E
    clear hEA hRA hbx HB2 hE2
    go_wp2
    go_loopg [21] (allE E).length (fun kx s21 wr => ∃ i : Nat, s21 = .int .i64 i ∧ i ≤ (allE E).length ∧ (allE E).length - i ≤ kx ∧ Aside (Below wx.heap.size wx wr))
    case atStart => exact ⟨0, rfl, Nat.zero_le _, by omega, Below.refl _ _⟩
    case round =>
      obtain ⟨i, rfl, hin, hkO, HBr⟩ := hrel
      by_cases hlt : i < (allE E).length
      · have hltz : (i : Int) < ((allE E).length : Int) := by omega
        obtain ⟨b1, o1, x, rfl, hxi, hwx, -, -⟩ := HF.out.at hlt
        have hxm : Hid (x ∈ allE E) := List.mem_of_getElem? hxi
        go_wp2
        go_loopg [26] (allE E).length (fun kx s26 wr2 => ∃ k : Nat, s26 = .int .i64 k ∧ k ≤ (allE E).length ∧ (allE E).length - k ≤ kx ∧ Aside (Below wx.heap.size wx wr2))
        case atStart => exact ⟨0, rfl, Nat.zero_le _, by omega, HBr⟩
        case round =>
          clear HBr
          obtain ⟨k, rfl, hkn, hkx, HBr⟩ := hrel
          by_cases hkl : k < (allE E).length
          · have hkz : (k : Int) < ((allE E).length : Int) := by omega
            obtain ⟨b1', o1', y, hb1', hyi, hwy, hr2, hl2⟩ := (HF.out.below HBr.out (Nat.le_refl _)).at hkl
            obtain ⟨b1'', o1'', x', hb1'', hxi', -, hr1, hl1⟩ := (HF.out.below HBr.out (Nat.le_refl _)).at hlt
            obtain rfl : x = x' := by rw [hxi] at hxi'; exact Option.some.inj hxi'
            simp only [Option.some.injEq, Addr.mk.injEq, and_true] at hb1' hb1''
            obtain ⟨rfl, rfl⟩ := hb1'
            obtain ⟨rfl, rfl⟩ := hb1''
            have hym : Hid (y ∈ allE E) := List.mem_of_getElem? hyi
            go_upto_region 10 with (fail)
            go_cut [6, 7] from 29 to 36 (fun s6 s7 wz => ∃ D1 D2 : Nat, s6 = .pointer (some ⟨D1, 0, none⟩) ∧ s7 = .pointer (some ⟨D2, 0, none⟩) ∧ Aside (LiesE wz D1 x ∧ LiesE wz D2 y ∧ Below wx.heap.size wx wz))
            case first =>
              refine wp_region_noPanic ?_
              refine wp_region_held_drew (S := fun W' : World => W'.rangeAt b1 (o1 + i * 26) (evl x) ∧ W'.rangeAt b1 (o1 + k * 26) (evl y)) (by kernel_rfl) ⟨hr1, hr2⟩ (fun hHeld => ?_)
              refine wpAnyH_take (i := 0) (oi := { dst := some 29, op := _, type := _, pos := _, after := _, guard := _ }) (v := .slice (some ⟨b1, o1, none⟩) (allE E).length cA) rfl (by kernel_rfl) (by kernel_rfl) (by kernel_rfl) (fun _ _ _ h => h) (Or.inl ⟨by rfl, ?_⟩) (by assumption) ?_
              · intro w9 hSw
                exact exec_move rfl rfl
              simp only [Act.put, List.setIfInBounds_toArray, List.set_cons_zero, List.set_cons_succ]
              refine wpAnyH_take (i := 1) (oi := { dst := some 30, op := _, type := _, pos := _, after := _, guard := _ }) (v := .int .i64 (i : Int)) rfl (by kernel_rfl) (by kernel_rfl) (by kernel_rfl) (fun _ _ _ h => h) (Or.inl ⟨by rfl, ?_⟩) (by assumption) ?_
              · intro w9 hSw
                exact exec_move rfl rfl
              simp only [Act.put, List.setIfInBounds_toArray, List.set_cons_zero, List.set_cons_succ]
              refine wpAnyH_take (i := 2) (oi := { dst := some 31, op := _, type := _, pos := _, after := _, guard := _ }) (v := .pointer (some ⟨b1, o1 + i * 26, none⟩)) rfl (by kernel_rfl) (by kernel_rfl) (by kernel_rfl) (fun _ _ _ h => h) (Or.inl ⟨by rfl, ?_⟩) (by assumption) ?_
              · intro w9 hSw
                exact exec_index rfl rfl rfl (index_ev w9 hlt)
              simp only [Act.put, List.setIfInBounds_toArray, List.set_cons_zero, List.set_cons_succ]
              refine wpAnyH_take (i := 3) (oi := { dst := some 32, op := _, type := _, pos := _, after := _, guard := _ }) (v := .agg (evc x)) rfl (by kernel_rfl) (by kernel_rfl) (by kernel_rfl) (fun _ _ _ h => h) (Or.inl ⟨by rfl, ?_⟩) (by assumption) ?_
              · intro w9 hSw
                exact exec_load (ad := ⟨b1, o1 + i * 26, none⟩) rfl rfl (load_part hSw.1 hwx.1)
              simp only [Act.put, List.setIfInBounds_toArray, List.set_cons_zero, List.set_cons_succ]
              refine wpAnyH_take (i := 4) (oi := { dst := some 33, op := _, type := _, pos := _, after := _, guard := _ }) (v := .slice (some ⟨b1, o1, none⟩) (allE E).length cA) rfl (by kernel_rfl) (by kernel_rfl) (by kernel_rfl) (fun _ _ _ h => h) (Or.inl ⟨by rfl, ?_⟩) (by assumption) ?_
              · intro w9 hSw
                exact exec_move rfl rfl
              simp only [Act.put, List.setIfInBounds_toArray, List.set_cons_zero, List.set_cons_succ]
              refine wpAnyH_take (i := 5) (oi := { dst := some 34, op := _, type := _, pos := _, after := _, guard := _ }) (v := .int .i64 (k : Int)) rfl (by kernel_rfl) (by kernel_rfl) (by kernel_rfl) (fun _ _ _ h => h) (Or.inl ⟨by rfl, ?_⟩) (by assumption) ?_
              · intro w9 hSw
                exact exec_move rfl rfl
              simp only [Act.put, List.setIfInBounds_toArray, List.set_cons_zero, List.set_cons_succ]
              refine wpAnyH_take (i := 6) (oi := { dst := some 35, op := _, type := _, pos := _, after := _, guard := _ }) (v := .pointer (some ⟨b1, o1 + k * 26, none⟩)) rfl (by kernel_rfl) (by kernel_rfl) (by kernel_rfl) (fun _ _ _ h => h) (Or.inl ⟨by rfl, ?_⟩) (by assumption) ?_
              · intro w9 hSw
                exact exec_index rfl rfl rfl (index_ev w9 hkl)
              simp only [Act.put, List.setIfInBounds_toArray, List.set_cons_zero, List.set_cons_succ]
              refine wpAnyH_take (i := 7) (oi := { dst := some 36, op := _, type := _, pos := _, after := _, guard := _ }) (v := .agg (evc y)) rfl (by kernel_rfl) (by kernel_rfl) (by kernel_rfl) (fun _ _ _ h => h) (Or.inl ⟨by rfl, ?_⟩) (by assumption) ?_
              · intro w9 hSw
                exact exec_load (ad := ⟨b1, o1 + k * 26, none⟩) rfl rfl (load_part hSw.2 hwy.1)
              simp only [Act.put, List.setIfInBounds_toArray, List.set_cons_zero, List.set_cons_succ]
              clear hHeld
              have hbd : Below wx.heap.size wx wr.drew := HBr.out.drew
              have hsd : wx.heap.size ≤ wr.drew.heap.size := HBr.out.size
              have hrd1 : wr.drew.rangeAt b1 (o1 + i * 26) (evl x) := hr1
              have hrd2 : wr.drew.rangeAt b1 (o1 + k * 26) (evl y) := hr2
              have hld : b1 < wr.drew.heap.size := hl1
              generalize wr.drew = W0 at *
              refine wpAnyH_ready (rs := [8, 9]) (by kernel_rfl) (by simp) ?_
              refine AllReadyH.cons (o := { dst := some 6, op := _, type := _, pos := _, after := _, guard := _ }) rfl (fun K hK => ?_) ?_
              · rw [if_pos (by rfl)]
                refine wp_allocE rfl ?_
                have hA : Below W0.heap.size W0 (W0.alloc (.cells (evc zv) 33)) := (Below.refl _ _).alloc (Nat.le_refl _) _
                refine hK.out _ _ ⟨range_below hrd1 hA hld, range_below hrd2 hA hld⟩ (fun hHeld => ?_)
                clear hK K
                simp only [Act.put, List.setIfInBounds_toArray, List.set_cons_zero, List.set_cons_succ]
                clear hHeld
                refine wpAnyH_ready (rs := [9]) (by kernel_rfl) (by simp) ?_
                refine AllReadyH.cons (o := { dst := some 7, op := _, type := _, pos := _, after := _, guard := _ }) rfl (fun K hK => ?_) AllReadyH.nil
                rw [if_pos (by rfl)]
                refine wp_allocE rfl ?_
                have hB : Below W0.heap.size W0 ((W0.alloc (.cells (evc zv) 33)).alloc (.cells (evc zv) 33)) := hA.alloc (by simp) _
                refine hK.out _ _ ⟨range_below hrd1 hB hld, range_below hrd2 hB hld⟩ (fun hHeld => ?_)
                clear hK K
                simp only [Act.put, List.setIfInBounds_toArray, List.set_cons_zero, List.set_cons_succ]
                clear hHeld
                have z1 : LiesE ((W0.alloc (.cells (evc zv) 33)).alloc (.cells (evc zv) 33)) W0.heap.size zv := (liesE_new W0 zv).alloc _
                have z2 : LiesE ((W0.alloc (.cells (evc zv) 33)).alloc (.cells (evc zv) 33)) (W0.alloc (.cells (evc zv) 33)).heap.size zv := liesE_new (W0.alloc (.cells (evc zv) 33)) zv
                have hne : (W0.alloc (.cells (evc zv) 33)).heap.size = W0.heap.size + 1 := by simp
                refine wpAnyH_ready (rs := [10]) (by kernel_rfl) (by simp) ?_
                refine AllReadyH.cons (o := { dst := none, op := _, type := _, pos := _, after := _, guard := _ }) rfl (fun K hK => ?_) AllReadyH.nil
                rw [if_pos (by rfl)]
                refine wp_store_row 33 _ _ rfl (W0.heap.size) (evc x) rfl rfl 33 _ z1 (size26 x hwx.1) (by rw [evc_size x hwx.1, evc_size zv rfl]) (evc_one x) ?_
                have s1 : LiesE (((W0.alloc (.cells (evc zv) 33)).alloc (.cells (evc zv) 33)).setRow (W0.heap.size) (evc x)) (W0.heap.size) x := z1.row x
                have s2 : LiesE (((W0.alloc (.cells (evc zv) 33)).alloc (.cells (evc zv) 33)).setRow (W0.heap.size) (evc x)) ((W0.alloc (.cells (evc zv) 33)).heap.size) zv := z2.rowOther _ (by omega)
                have hC : Below W0.heap.size W0 (((W0.alloc (.cells (evc zv) 33)).alloc (.cells (evc zv) 33)).setRow (W0.heap.size) (evc x)) := below_setRow hB (by omega) _
                refine hK.out _ _ ⟨range_below hrd1 hC hld, range_below hrd2 hC hld⟩ (fun hHeld => ?_)
                clear hK K
                simp only [Act.put]
                clear hHeld
                refine wpAnyH_ready (rs := [11]) (by kernel_rfl) (by simp) ?_
                refine AllReadyH.cons (o := { dst := none, op := _, type := _, pos := _, after := _, guard := _ }) rfl (fun K hK => ?_) AllReadyH.nil
                rw [if_pos (by rfl)]
                refine wp_store_row 33 _ _ rfl ((W0.alloc (.cells (evc zv) 33)).heap.size) (evc y) rfl rfl 33 _ s2 (size26 y hwy.1) (by rw [evc_size y hwy.1, evc_size zv rfl]) (evc_one y) ?_
                have t1 : LiesE ((((W0.alloc (.cells (evc zv) 33)).alloc (.cells (evc zv) 33)).setRow (W0.heap.size) (evc x)).setRow ((W0.alloc (.cells (evc zv) 33)).heap.size) (evc y)) (W0.heap.size) x := s1.rowOther _ (by omega)
                have t2 : LiesE ((((W0.alloc (.cells (evc zv) 33)).alloc (.cells (evc zv) 33)).setRow (W0.heap.size) (evc x)).setRow ((W0.alloc (.cells (evc zv) 33)).heap.size) (evc y)) ((W0.alloc (.cells (evc zv) 33)).heap.size) y := s2.row y
                have hD : Below W0.heap.size W0 ((((W0.alloc (.cells (evc zv) 33)).alloc (.cells (evc zv) 33)).setRow (W0.heap.size) (evc x)).setRow ((W0.alloc (.cells (evc zv) 33)).heap.size) (evc y)) := below_setRow hC (by omega) _
                refine hK.out _ _ ⟨range_below hrd1 hD hld, range_below hrd2 hD hld⟩ (fun hHeld => ?_)
                clear hK K
                simp only [Act.put]
                refine wpAnyH_done (by kernel_rfl) ?_ _
                refine NoPanic.normal ?_
                clear hHeld
                have HF : Aside (LiesE ((((W0.alloc (.cells (evc zv) 33)).alloc (.cells (evc zv) 33)).setRow (W0.heap.size) (evc x)).setRow ((W0.alloc (.cells (evc zv) 33)).heap.size) (evc y)) (W0.heap.size) x ∧ LiesE ((((W0.alloc (.cells (evc zv) 33)).alloc (.cells (evc zv) 33)).setRow (W0.heap.size) (evc x)).setRow ((W0.alloc (.cells (evc zv) 33)).heap.size) (evc y)) ((W0.alloc (.cells (evc zv) 33)).heap.size) y ∧ Below wx.heap.size wx ((((W0.alloc (.cells (evc zv) 33)).alloc (.cells (evc zv) 33)).setRow (W0.heap.size) (evc x)).setRow ((W0.alloc (.cells (evc zv) 33)).heap.size) (evc y))) := ⟨t1, t2, hbd.trans (hD.mono hsd)⟩
                clear t1 t2 hD s1 s2 hC z1 z2 hA hB hrd1 hrd2 hbd
                go_wp2
                go_meet
                case rel => exact ⟨_, _, rfl, rfl, HF⟩
              · refine AllReadyH.cons (o := { dst := some 7, op := _, type := _, pos := _, after := _, guard := _ }) rfl (fun K hK => ?_) AllReadyH.nil
                rw [if_pos (by rfl)]
                refine wp_allocE rfl ?_
                have hA : Below W0.heap.size W0 (W0.alloc (.cells (evc zv) 33)) := (Below.refl _ _).alloc (Nat.le_refl _) _
                refine hK.out _ _ ⟨range_below hrd1 hA hld, range_below hrd2 hA hld⟩ (fun hHeld => ?_)
                clear hK K
                simp only [Act.put, List.setIfInBounds_toArray, List.set_cons_zero, List.set_cons_succ]
                clear hHeld
                refine wpAnyH_ready (rs := [8]) (by kernel_rfl) (by simp) ?_
                refine AllReadyH.cons (o := { dst := some 6, op := _, type := _, pos := _, after := _, guard := _ }) rfl (fun K hK => ?_) AllReadyH.nil
                rw [if_pos (by rfl)]
                refine wp_allocE rfl ?_
                have hB : Below W0.heap.size W0 ((W0.alloc (.cells (evc zv) 33)).alloc (.cells (evc zv) 33)) := hA.alloc (by simp) _
                refine hK.out _ _ ⟨range_below hrd1 hB hld, range_below hrd2 hB hld⟩ (fun hHeld => ?_)
                clear hK K
                simp only [Act.put, List.setIfInBounds_toArray, List.set_cons_zero, List.set_cons_succ]
                clear hHeld
                have z1 : LiesE ((W0.alloc (.cells (evc zv) 33)).alloc (.cells (evc zv) 33)) W0.heap.size zv := (liesE_new W0 zv).alloc _
                have z2 : LiesE ((W0.alloc (.cells (evc zv) 33)).alloc (.cells (evc zv) 33)) (W0.alloc (.cells (evc zv) 33)).heap.size zv := liesE_new (W0.alloc (.cells (evc zv) 33)) zv
                have hne : (W0.alloc (.cells (evc zv) 33)).heap.size = W0.heap.size + 1 := by simp
                refine wpAnyH_ready (rs := [10]) (by kernel_rfl) (by simp) ?_
                refine AllReadyH.cons (o := { dst := none, op := _, type := _, pos := _, after := _, guard := _ }) rfl (fun K hK => ?_) AllReadyH.nil
                rw [if_pos (by rfl)]
                refine wp_store_row 33 _ _ rfl ((W0.alloc (.cells (evc zv) 33)).heap.size) (evc x) rfl rfl 33 _ z2 (size26 x hwx.1) (by rw [evc_size x hwx.1, evc_size zv rfl]) (evc_one x) ?_
                have s1 : LiesE (((W0.alloc (.cells (evc zv) 33)).alloc (.cells (evc zv) 33)).setRow ((W0.alloc (.cells (evc zv) 33)).heap.size) (evc x)) ((W0.alloc (.cells (evc zv) 33)).heap.size) x := z2.row x
                have s2 : LiesE (((W0.alloc (.cells (evc zv) 33)).alloc (.cells (evc zv) 33)).setRow ((W0.alloc (.cells (evc zv) 33)).heap.size) (evc x)) (W0.heap.size) zv := z1.rowOther _ (by omega)
                have hC : Below W0.heap.size W0 (((W0.alloc (.cells (evc zv) 33)).alloc (.cells (evc zv) 33)).setRow ((W0.alloc (.cells (evc zv) 33)).heap.size) (evc x)) := below_setRow hB (by omega) _
                refine hK.out _ _ ⟨range_below hrd1 hC hld, range_below hrd2 hC hld⟩ (fun hHeld => ?_)
                clear hK K
                simp only [Act.put]
                clear hHeld
                refine wpAnyH_ready (rs := [11]) (by kernel_rfl) (by simp) ?_
                refine AllReadyH.cons (o := { dst := none, op := _, type := _, pos := _, after := _, guard := _ }) rfl (fun K hK => ?_) AllReadyH.nil
                rw [if_pos (by rfl)]
                refine wp_store_row 33 _ _ rfl (W0.heap.size) (evc y) rfl rfl 33 _ s2 (size26 y hwy.1) (by rw [evc_size y hwy.1, evc_size zv rfl]) (evc_one y) ?_
                have t1 : LiesE ((((W0.alloc (.cells (evc zv) 33)).alloc (.cells (evc zv) 33)).setRow ((W0.alloc (.cells (evc zv) 33)).heap.size) (evc x)).setRow (W0.heap.size) (evc y)) ((W0.alloc (.cells (evc zv) 33)).heap.size) x := s1.rowOther _ (by omega)
                have t2 : LiesE ((((W0.alloc (.cells (evc zv) 33)).alloc (.cells (evc zv) 33)).setRow ((W0.alloc (.cells (evc zv) 33)).heap.size) (evc x)).setRow (W0.heap.size) (evc y)) (W0.heap.size) y := s2.row y
                have hD : Below W0.heap.size W0 ((((W0.alloc (.cells (evc zv) 33)).alloc (.cells (evc zv) 33)).setRow ((W0.alloc (.cells (evc zv) 33)).heap.size) (evc x)).setRow (W0.heap.size) (evc y)) := below_setRow hC (by omega) _
                refine hK.out _ _ ⟨range_below hrd1 hD hld, range_below hrd2 hD hld⟩ (fun hHeld => ?_)
                clear hK K
                simp only [Act.put]
                refine wpAnyH_done (by kernel_rfl) ?_ _
                refine NoPanic.normal ?_
                clear hHeld
                have HF : Aside (LiesE ((((W0.alloc (.cells (evc zv) 33)).alloc (.cells (evc zv) 33)).setRow ((W0.alloc (.cells (evc zv) 33)).heap.size) (evc x)).setRow (W0.heap.size) (evc y)) ((W0.alloc (.cells (evc zv) 33)).heap.size) x ∧ LiesE ((((W0.alloc (.cells (evc zv) 33)).alloc (.cells (evc zv) 33)).setRow ((W0.alloc (.cells (evc zv) 33)).heap.size) (evc x)).setRow (W0.heap.size) (evc y)) (W0.heap.size) y ∧ Below wx.heap.size wx ((((W0.alloc (.cells (evc zv) 33)).alloc (.cells (evc zv) 33)).setRow ((W0.alloc (.cells (evc zv) 33)).heap.size) (evc x)).setRow (W0.heap.size) (evc y))) := ⟨t1, t2, hbd.trans (hD.mono hsd)⟩
                clear t1 t2 hD s1 s2 hC z1 z2 hA hB hrd1 hrd2 hbd
                go_wp2
                go_meet
                case rel => exact ⟨_, _, rfl, rfl, HF⟩
            case rest =>
            obtain ⟨D1, D2, rfl, rfl, HZ⟩ := hcut
            rename World => wz
            clear HBr hr1 hr2 hl1 hl2
            have c1 := HZ.out.1.c19 hwx.1
            have c2 := HZ.out.2.1.c19 hwy.1
            have c3 := HZ.out.1.c20 hwx.1
            have c4 := HZ.out.2.1.c20 hwy.1
            have c5 := HZ.out.1.c21 hwx.1
            have c6 := HZ.out.2.1.c21 hwy.1
            have L1 := HZ.out.1
            have L2 := HZ.out.2.1
            have HB4 : Aside (Below wx.heap.size wx wz) := HZ.out.2.2
            have hkb := sb_beq x.key y.key
            have hfb := sb_beq x.field y.field
            clear HZ
            by_cases k1 : x.kind = y.kind
            · have k1b : (x.kind == y.kind) = true := by simpa using k1
              have K1 : Hid (x.kind = y.kind) := k1
              clear k1
              by_cases k2 : x.key = y.key
              · rw [decide_eq_true k2] at hkb
                have K2 : Hid (x.key = y.key) := k2
                clear k2
                by_cases k3 : x.field = y.field
                · rw [decide_eq_true k3] at hfb
                  have K3 : Hid (x.field = y.field) := k3
                  clear k3
                  by_cases k4 : x.kind = 2
                  · have k4b : (x.kind != 2) = false := by simpa using k4
                    clear k4
                    go_wp2
                    go_roundg ((allE E).length - (k + 1))
                    case measure => omega
                    case rel => exact ⟨k + 1, by go_num, by omega, Nat.le_refl _, HB4⟩
                  · have k4b : (x.kind != 2) = true := by simpa using k4
                    by_cases k5 : x.kind = 9
                    · have k5b : (x.kind != 9) = false := by simpa using k5
                      clear k5 k4
                      go_wp2
                      go_roundg ((allE E).length - (k + 1))
                      case measure => omega
                      case rel => exact ⟨k + 1, by go_num, by omega, Nat.le_refl _, HB4⟩
                    · have k5b : (x.kind != 9) = true := by simpa using k5
                      have hcov : Hid (coversE x y = false) := abreast hym.out hxm.out K1.out K2.out K3.out k4 k5
                      clear k4 k5
                      go_wp2_with (first | refine load_ev rfl rfl rfl L1 hwx.1 ?_ | refine load_ev rfl rfl rfl L2 hwy.1 ?_)
                      refine (rcovers_any x y hwx.1 wz).mono ?_
                      rintro e w5 ⟨rfl, hb5⟩
                      have HB5 : Aside (Below wx.heap.size wx w5) := HB4.out.trans (hb5.mono HB4.out.size)
                      rw [hcov.out]
                      clear hb5 c1 c2 c3 c4 c5 c6 L1 L2 HB4
                      go_wp2
                      go_roundg ((allE E).length - (k + 1))
                      case measure => omega
                      case rel => exact ⟨k + 1, by go_num, by omega, Nat.le_refl _, HB5⟩
                · rw [decide_eq_false k3] at hfb
                  clear k3
                  go_wp2
                  go_roundg ((allE E).length - (k + 1))
                  case measure => omega
                  case rel => exact ⟨k + 1, by go_num, by omega, Nat.le_refl _, HB4⟩
              · rw [decide_eq_false k2] at hkb
                clear k2
                go_wp2
                go_roundg ((allE E).length - (k + 1))
                case measure => omega
                case rel => exact ⟨k + 1, by go_num, by omega, Nat.le_refl _, HB4⟩
            · have k1b : (x.kind == y.kind) = false := by simpa using k1
              clear k1
              go_wp2
              go_roundg ((allE E).length - (k + 1))
              case measure => omega
              case rel => exact ⟨k + 1, by go_num, by omega, Nat.le_refl _, HB4⟩
          · have hkz : ¬ (k : Int) < ((allE E).length : Int) := by omega
            go_wp2
            go_roundg ((allE E).length - (i + 1))
            case measure => omega
            case rel => exact ⟨i + 1, by go_num, by omega, Nat.le_refl _, HBr⟩
      · have hltz : ¬ (i : Int) < ((allE E).length : Int) := by omega
        have HB : Hid (Below w.heap.size w wr) := HBx.out.trans (HBr.out.mono HBx.out.size)
        clear HF HBr HBx
        go_wp2
        go_ret
        exact ⟨rfl, HB.out⟩
end Go.Proofs.Ytmnhbkehicpohab
