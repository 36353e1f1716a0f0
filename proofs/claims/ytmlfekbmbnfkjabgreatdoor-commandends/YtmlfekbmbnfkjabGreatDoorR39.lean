/-
  CommandEnds: what DEL does, by whoever has seen all, leaves no key, and nothing that is asked of it tells anything; whatever was seen. For every input.
-/
import Derived.Test.YtmlfekbmbnfkjabGreatDoorR38
import Derived.Test.YtmlfekbmbnfkjabGreatDoorR11
import Derived.Test.YtmlfekbmbnfkjabGreatDoorRows
import Derived.Lib.LaidTab
import Derived.LaidMore
import Derived.Stop.LaidErr
namespace Go.Proofs.YtmlfekbmbnfkjabGreatDoor
set_option maxRecDepth 100000
open Go.RowKit

set_option maxHeartbeats 16000000 in
theorem ends_walk (ao : Option Addr) (m c : Nat) (E : List Ev) (kb : ByteArray) (w : World) (hE : Evs w ao m c E) (ht : Tb w) :
    Calls Tryz.prog 4 #[.slice ao m c, .string kb] w fun x w' => x = .returned (.bool true) ∧ Below w.heap.size w w' := by
  obtain ⟨ky, rfl⟩ : ∃ ky, kb = sb ky := ⟨kb.data.toList, by cases kb; simp [sb]⟩
  have hsz : (sb ky).size = ky.length := size_sb ky
  have HE : Aside (Evs w ao m c E ∧ Tb w) := ⟨hE, ht⟩
  have hA := cawake_any w ht
  clear hE ht
  go_enter Tryz.func4, Tryz.ntmps4
  go_wp2_with fail
  refine Calls.mono hA ?_
  rintro x w1 ⟨rfl, hb1⟩
  have HB1 : Hid (Below w.heap.size w w1) := hb1
  have hF := cfew_any ao m c E w1 (HE.out.1.below hb1 (Nat.le_refl _))
  clear hA hb1
  go_wp2_with fail
  refine Calls.mono hF ?_
  rintro x w2 ⟨t, rfl, h60, hb2⟩
  have HB2 : Hid (Below w.heap.size w w2) := HB1.out.trans (hb2.mono HB1.out.size)
  have H60 : Hid (t = true → m ≤ 60) := h60
  have hA2 := cawake_any w2 (HE.out.2.below HB2.out)
  have HL : Hid ((∀ w3, Below w2.heap.size w2 w3 → Below w.heap.size w w3)) := fun w3 hb3 => HB2.out.trans (hb3.mono HB2.out.size)
  obtain ⟨kl, hkl⟩ : ∃ kl, ky.length = kl := ⟨_, rfl⟩
  have hkz : Hid (ky.length = kl) := hkl
  rw [hkl] at hsz
  clear hF hb2 h60 hkl
  cases t with
  | false =>
    go_wp2_with fail
    refine Calls.mono hA2 ?_
    rintro x w3 ⟨rfl, hb3⟩
    have FIN : Hid (Below w.heap.size w w3) := HL.out w3 hb3
    clear hb3 hA2
    go_wp2
    go_ret
    exact ⟨rfl, FIN.out⟩
  | true =>
    have hm60 := H60.out rfl
    by_cases hk1 : (kl : Int) < 1
    · go_wp2_with fail
      refine Calls.mono hA2 ?_
      rintro x w3 ⟨rfl, hb3⟩
      have FIN : Hid (Below w.heap.size w w3) := HL.out w3 hb3
      clear hb3 hA2
      go_wp2
      go_ret
      exact ⟨rfl, FIN.out⟩
    by_cases hk2 : (64 : Int) < kl
    · go_wp2_with fail
      refine Calls.mono hA2 ?_
      rintro x w3 ⟨rfl, hb3⟩
      have FIN : Hid (Below w.heap.size w w3) := HL.out w3 hb3
      clear hb3 hA2
      go_wp2
      go_ret
      exact ⟨rfl, FIN.out⟩
    clear hA2 HL
    have hC := cseen_any ao m c E w2 (HE.out.1.below HB2.out (Nat.le_refl _)) hm60
    go_wp2_with fail
    refine Calls.mono hC ?_
    rintro x w3 ⟨g, Y, v, l, rfl, hSn, hlm⟩
    have hwb : Below w.heap.size w w3 := HB2.out.trans (hSn.be.mono HB2.out.size)
    have hAt := hSn.at22 (by omega)
    have hcm := hSn.came
    have hab := hSn.ab
    have HBS : Hid (w2.heap.size ≤ w3.heap.size) := hSn.be.size
    have HTB : Hid (∀ W, Below w.heap.size w W → Tb W) := fun W hb => HE.out.2.below hb
    obtain ⟨s, hs⟩ : ∃ s, seenS l = s := ⟨_, rfl⟩
    rw [hs] at hAt
    have HCM : Hid (Came l ∧ seenS l = s ∧ l.length ≤ 60 ∧ Above w2.heap.size g Y ∧ Below w.heap.size w w2) := ⟨hcm, hs, by omega, hab, HB2.out⟩
    have HKY : Hid (ky ≠ [] ∧ ky.length ≤ 64) := ⟨fun e => by rw [e] at hkz; have := hkz.out; simp at this; omega, by have := hkz.out; omega⟩
    have HUw3 : Hid (At22 Y g s w3 ∧ Tb w3 ∧ Below w.heap.size w w3) := ⟨hAt, HE.out.2.below hwb, hwb⟩
    clear hC hSn hwb hAt hs hlm hcm hab HB1 HB2 HE H60 hkz
    obtain ⟨z, hz⟩ : ∃ z, (typS s ky == 0) = z := ⟨_, rfl⟩
    have HZZ : Hid ((typS s ky == 0) = z) := hz
    have hP : PlanT (pg g) ⟨[68, 69, 76], ky, [], [], 0, 0⟩ (Po.dif (!z) 11 ky [] [] 0 0 0) w3 := by have := plan_del ky HUw3.out.1; rw [hz] at this; exact this
    clear hz
    go_wp2_with fail
    refine Calls.mono hP ?_
    rintro x W4a ⟨aoW4, qW4, cW4, rfl, hT, hb⟩
    obtain ⟨W4b, W4, hs1, hs2, hg1, hg2, hb2, hsz⟩ := two_laid W4a (Po.dif (!z) 11 ky [] [] 0 0 0) aoW4 qW4 cW4
    have hbb : Below w3.heap.size w3 W4 := hb.trans (hb2.mono hb.size)
    have HUW4 : Hid (At22 Y g s W4 ∧ Tb W4 ∧ Below w.heap.size w W4) := ⟨HUw3.out.1.below hbb, HUw3.out.2.1.below hbb, HUw3.out.2.2.trans (hbb.mono HUw3.out.2.2.size)⟩
    have HBW4 : Hid (Below w3.heap.size w3 W4) := hbb
    have HTW4 : Hid (TRow W4 w3.heap.size (.slice aoW4 qW4 cW4) (Po.dif (!z) 11 ky [] [] 0 0 0).L) := hT.below hb2 (Nat.le_refl _)
    have HGW4 : Hid (W4.heap[W4a.heap.size]? = some (.cells ((Po.dif (!z) 11 ky [] [] 0 0 0).rep aoW4 qW4 cW4) 30 (0, 0)) ∧ W4.heap[W4a.heap.size + 1]? = some (.cells (Po.dif (!z) 11 ky [] [] 0 0 0).op 34 (0, 0)) ∧ W4a.heap.size + 2 = W4.heap.size ∧ w3.heap.size ≤ W4a.heap.size) := ⟨hg1, hg2, hsz, hb.size⟩
    clear hP hT hb hb2 hbb hg1 hg2 hsz
    have HOP : Hid (W4.heap[W4a.heap.size + 1]? = some (.cells ((Po.dif (!z) 11 ky [] [] 0 0 0)).op 34 (0, 0))) := HGW4.out.2.1
    have hw4 : W4a.heap.size + 2 = W4.heap.size := HGW4.out.2.2.1
    have hw34 : w3.heap.size ≤ W4a.heap.size := HGW4.out.2.2.2
    clear HTW4 HGW4
    cases z
    have HS3 : Hid (SpK Y w3 g s none) := HUw3.out.1.sp
    have HN5 : Hid (-9223372036854775808 ≤ s.seen.getD 5 0 + 1 ∧ s.seen.getD 5 0 + 1 ≤ 9223372036854775807) := by
      have := HCM.out.1.seen_bd 5
      rw [HCM.out.2.1] at this
      have := HCM.out.2.2.1
      constructor <;> omega
    have HEV : Hid (Inv s ∧ Wide (delEv 5 (s.seen.getD 5 0 + 1) s.time s.seen ky) ∧ s.L.length ≤ 1048576 ∧ applyE s (delEv 5 (s.seen.getD 5 0 + 1) s.time s.seen ky) = 0 ∧ applyS s (delEv 5 (s.seen.getD 5 0 + 1) s.time s.seen ky) = seeE s (delEv 5 (s.seen.getD 5 0 + 1) s.time s.seen ky) ∧ ofKeyE ky (seeE s (delEv 5 (s.seen.getD 5 0 + 1) s.time s.seen ky)).L = [] ∧ Fine22 (seeE s (delEv 5 (s.seen.getD 5 0 + 1) s.time s.seen ky))) := by
      obtain ⟨h1, h2, h3, -, -⟩ := HCM.out
      rw [← h2]
      exact del_next h1 h3 HKY.out.1 HKY.out.2
    · have hop : (Po.dif (!false) 11 ky [] [] 0 0 0).op = opx 11 ky [] [] 0 0 0 := rfl
      have HOP2 : Hid (W4.heap[W4a.heap.size + 1]? = some (.cells (opx 11 ky [] [] 0 0 0) 34 (0, 0))) := HOP.out
      clear hop HOP
      have hV := svv_any Y W4 g s none HUW4.out.1.sp
      go_wp2_with (first | (refine wpList_storeR (ty := 30) (x := .tmp 7) (y := .tmp 48) (ad := ⟨W4a.heap.size, 0, none⟩) (v := .agg ((Po.dif (!false) 11 ky [] [] 0 0 0).rep aoW4 qW4 cW4)) (w' := W4b) rfl rfl rfl rfl hs1 ?_) | (refine wpList_storeR (ty := 34) (x := .tmp 8) (y := .tmp 49) (ad := ⟨W4a.heap.size + 1, 0, none⟩) (v := .agg ((Po.dif (!false) 11 ky [] [] 0 0 0).op)) (w' := W4) rfl rfl rfl rfl hs2 ?_))
      clear hs1 hs2
      refine Calls.mono hV ?_
      rintro x w5 ⟨rfl, hb5⟩
      have hlen : s.seen.length = 16 := HUW4.out.1.sp.len
      obtain ⟨w6, hst6, hv6, hb6, hz6⟩ := laid_vv w5 hlen
      have hb56 : Below W4.heap.size W4 w6 := hb5.trans (hb6.mono hb5.size)
      have HU6 : Hid (At22 Y g s w6 ∧ Tb w6 ∧ Below w.heap.size w w6) := ⟨HUW4.out.1.below hb56, HUW4.out.2.1.below hb56, HUW4.out.2.2.trans (hb56.mono HUW4.out.2.2.size)⟩
      have HV6 : Hid (w6.heap[w5.heap.size]? = some (.cells (vals s.seen) 41 (0, 0)) ∧ w6.heap[W4a.heap.size + 1]? = some (.cells (opx 11 ky [] [] 0 0 0) 34 (0, 0))) := ⟨hv6, (hb56.block _ (by omega)).trans HOP2.out⟩
      have HGE : Hid (w2.heap.size ≤ W4a.heap.size ∧ W4a.heap.size + 2 ≤ w5.heap.size ∧ w3.heap.size ≤ W4a.heap.size ∧ w6.heap.size = w5.heap.size + 1) := ⟨by have := HBS.out; omega, by have := hb5.size; omega, hw34, hz6⟩
      clear hV hb5 hb56 hv6 hb6 hz6 HOP2 hw4
      go_wp2_with (first | (refine wpList_storeR (ty := 41) (x := .tmp 10) (y := .tmp 53) (ad := ⟨w5.heap.size, 0, none⟩) (v := .agg (vals s.seen)) (w' := w6) rfl rfl rfl rfl hst6 ?_))
      clear hst6
      obtain ⟨D, hD⟩ : ∃ W, W = w6.drew := ⟨_, rfl⟩
      have SD : D.heap[w5.heap.size]? = some (.cells (vals s.seen) 41 (0, 0)) ∧ D.heap[W4a.heap.size + 1]? = some (.cells (opx 11 ky [] [] 0 0 0) 34 (0, 0)) := by rw [hD]; exact HV6.out
      have hbd : Below w6.heap.size w6 D := by rw [hD]; exact (Below.refl _ _).drew
      have HUD : Hid (At22 Y g s D ∧ Tb D ∧ Below w.heap.size w D ∧ D.heap.size = w6.heap.size) := ⟨HU6.out.1.below hbd, HU6.out.2.1.below hbd, HU6.out.2.2.trans (hbd.mono HU6.out.2.2.size), by rw [hD]; rfl⟩
      skip
      refine wp_region_noPanic ?_
      refine wp_region_held_drew (S := fun W' : World => W'.heap[w5.heap.size]? = some (.cells (vals s.seen) 41 (0, 0)) ∧ W'.heap[W4a.heap.size + 1]? = some (.cells (opx 11 ky [] [] 0 0 0) 34 (0, 0))) (by kernel_rfl) (by rw [← hD]; exact SD) (fun hHeld => ?_)
      rw [← hD] at hHeld ⊢
      clear hD hbd
      refine wpAnyH_take (i := 0) (oi := { dst := some 54, op := _, type := _, pos := _, after := _, guard := _ }) (v := .pointer (some ⟨g, 0, none⟩)) rfl (by kernel_rfl) (by kernel_rfl) (by kernel_rfl) (fun _ _ _ h => h) (Or.inl ⟨by rfl, ?_⟩) (by assumption) ?_
      · intro w9 hSw
        exact y_move rfl rfl
      simp only [Act.put, List.setIfInBounds_toArray, List.set_cons_zero, List.set_cons_succ]
      refine wpAnyH_take (i := 1) (oi := { dst := some 55, op := _, type := _, pos := _, after := _, guard := _ }) (v := .pointer (some ⟨w5.heap.size, 5, none⟩)) rfl (by kernel_rfl) (by kernel_rfl) (by kernel_rfl) (fun _ _ _ h => h) (Or.inl ⟨by rfl, ?_⟩) (by assumption) ?_
      · intro w9 hSw
        exact y_idx22 rfl rfl rfl (idx_vv _ w5.heap.size 5 (by decide))
      simp only [Act.put, List.setIfInBounds_toArray, List.set_cons_zero, List.set_cons_succ]
      refine wpAnyH_take (i := 2) (oi := { dst := some 56, op := _, type := _, pos := _, after := _, guard := _ }) (v := .int .i64 (s.seen.getD 5 0)) rfl (by kernel_rfl) (by kernel_rfl) (by kernel_rfl) (fun _ _ _ h => h) (Or.inl ⟨by rfl, ?_⟩) (by assumption) ?_
      · intro w9 hSw
        exact y_load rfl rfl (load_vv5 hSw.1 hlen)
      simp only [Act.put, List.setIfInBounds_toArray, List.set_cons_zero, List.set_cons_succ]
      refine wpAnyH_take (i := 3) (oi := { dst := some 57, op := _, type := _, pos := _, after := _, guard := _ }) (v := .int .i64 (s.seen.getD 5 0 + 1)) rfl (by kernel_rfl) (by kernel_rfl) (by kernel_rfl) (fun _ _ _ h => h) (Or.inl ⟨by rfl, ?_⟩) (by assumption) ?_
      · intro w9 hSw
        exact y_bin22 rfl rfl rfl (guard_int22 _ _ _) (add_int22 _ _ _ HN5.out.1 HN5.out.2)
      simp only [Act.put, List.setIfInBounds_toArray, List.set_cons_zero, List.set_cons_succ]
      refine wpAnyH_take (i := 4) (oi := { dst := some 58, op := _, type := _, pos := _, after := _, guard := _ }) (v := .agg #[.int .i64 5, .int .i64 (s.seen.getD 5 0 + 1)]) rfl (by kernel_rfl) (by kernel_rfl) (by kernel_rfl) (fun _ _ _ h => h) (Or.inl ⟨by rfl, ?_⟩) (by assumption) ?_
      · intro w9 hSw
        exact y_bldS (vs := [(0, .int .i64 5), (1, .int .i64 (s.seen.getD 5 0 + 1))]) rfl rfl (bld_dot22 _ _ _)
      simp only [Act.put, List.setIfInBounds_toArray, List.set_cons_zero, List.set_cons_succ]
      refine wpAnyH_take (i := 5) (oi := { dst := some 59, op := _, type := _, pos := _, after := _, guard := _ }) (v := .pointer (some ⟨g, 0, none⟩)) rfl (by kernel_rfl) (by kernel_rfl) (by kernel_rfl) (fun _ _ _ h => h) (Or.inl ⟨by rfl, ?_⟩) (by assumption) ?_
      · intro w9 hSw
        exact y_move rfl rfl
      simp only [Act.put, List.setIfInBounds_toArray, List.set_cons_zero, List.set_cons_succ]
      refine wpAnyH_take (i := 7) (oi := { dst := some 61, op := _, type := _, pos := _, after := _, guard := _ }) (v := .agg (vals s.seen)) rfl (by kernel_rfl) (by kernel_rfl) (by kernel_rfl) (fun _ _ _ h => h) (Or.inl ⟨by rfl, ?_⟩) (by assumption) ?_
      · intro w9 hSw
        exact y_load rfl rfl (load_vvr hSw.1 hlen)
      simp only [Act.put, List.setIfInBounds_toArray, List.set_cons_zero, List.set_cons_succ]
      refine wpAnyH_take (i := 8) (oi := { dst := some 62, op := _, type := _, pos := _, after := _, guard := _ }) (v := .agg (opx 11 ky [] [] 0 0 0)) rfl (by kernel_rfl) (by kernel_rfl) (by kernel_rfl) (fun _ _ _ h => h) (Or.inl ⟨by rfl, ?_⟩) (by assumption) ?_
      · intro w9 hSw
        exact y_load rfl rfl (loadVar_opr hSw.2 rfl)
      simp only [Act.put, List.setIfInBounds_toArray, List.set_cons_zero, List.set_cons_succ]
      clear hHeld
      refine wpAnyH_ready (rs := [6]) (by kernel_rfl) (by simp) ?_
      refine AllReadyH.cons (o := { dst := some 60, op := _, type := _, pos := _, after := _, guard := _ }) rfl (fun K hK => ?_) AllReadyH.nil
      rw [if_pos (by rfl)]
      have hC9 := stime_any Y D g s none HUD.out.1.sp
      refine y_call (f := 11) (xs := [.tmp 59]) (vs := [.pointer (some ⟨g, 0, none⟩)]) rfl rfl (enters_stime22 _ _) hC9 ?_
      rintro ex D2 ⟨rfl, hD2⟩
      obtain rfl := hD2.symm
      refine ⟨_, rfl, ?_⟩
      clear hC9
      refine hK.out _ _ SD (fun hHeld => ?_)
      clear hK K
      simp only [Act.put, List.setIfInBounds_toArray, List.set_cons_zero, List.set_cons_succ]
      refine wpAnyH_take (i := 9) (oi := { dst := some 63, op := _, type := _, pos := _, after := _, guard := _ }) (v := .agg (evc (delEv 5 (s.seen.getD 5 0 + 1) s.time s.seen ky))) rfl (by kernel_rfl) (by kernel_rfl) (by kernel_rfl) (fun _ _ _ h => h) (Or.inl ⟨by rfl, ?_⟩) (by assumption) ?_
      · intro w9 hSw
        exact y_bldS (vs := [(0, .agg #[.int .i64 5, .int .i64 (s.seen.getD 5 0 + 1)]), (1, .int .i64 s.time), (2, .agg (vals s.seen)), (3, .agg (opx 11 ky [] [] 0 0 0))]) rfl rfl (bld_ev22 _ _ _ _ _ hlen _ _ _ _ _ _ _)
      simp only [Act.put, List.setIfInBounds_toArray, List.set_cons_zero, List.set_cons_succ]
      clear hHeld
      refine wpAnyH_ready (rs := [10]) (by kernel_rfl) (by simp) ?_
      refine AllReadyH.cons (o := { dst := some 64, op := _, type := _, pos := _, after := _, guard := _ }) rfl (fun K hK => ?_) AllReadyH.nil
      rw [if_pos (by rfl)]
      have hC9 := apply_any Y D g s (delEv 5 (s.seen.getD 5 0 + 1) s.time s.seen ky) HUD.out.1.sp HEV.out.1 HEV.out.2.1 HEV.out.2.2.1
      refine y_call (f := 10) (xs := [.tmp 54, .tmp 63]) (vs := [.pointer (some ⟨g, 0, none⟩), .agg (evc (delEv 5 (s.seen.getD 5 0 + 1) s.time s.seen ky))]) rfl rfl (enters_sapply22 _ _) hC9 ?_
      rintro ex W9 ⟨rfl, Y2, hS9, hT9⟩
      rw [HEV.out.2.2.2.1]
      refine ⟨_, rfl, ?_⟩
      have hge := HGE.out
      have hvlt := HUD.out.2.2.2
      have fV : Free Y g w5.heap.size := HS3.out.free_new (by omega)
      have fO : Free Y g (W4a.heap.size + 1) := HS3.out.free_new (by omega)
      have S9 : W9.heap[w5.heap.size]? = some (.cells (vals s.seen) 41 (0, 0)) ∧ W9.heap[W4a.heap.size + 1]? = some (.cells (opx 11 ky [] [] 0 0 0) 34 (0, 0)) := ⟨(hT9.block w5.heap.size (heap_lt22 SD.1) fV.g fV.km fV.own).trans SD.1, (hT9.block (W4a.heap.size + 1) (heap_lt22 SD.2) fO.g fO.km fO.own).trans SD.2⟩
      have hB9 := hT9.below HCM.out.2.2.2.1 (by omega)
      rw [HEV.out.2.2.2.2.1] at hS9
      obtain ⟨s2, hs2⟩ : ∃ s2, seeE s (delEv 5 (s.seen.getD 5 0 + 1) s.time s.seen ky) = s2 := ⟨_, rfl⟩
      have HZ : Hid (ofKeyE ky s2.L = []) := by rw [← hs2]; exact HEV.out.2.2.2.2.2.1
      skip
      have HU5 : Hid (At22 Y2 g s2 W9 ∧ Tb W9 ∧ Below w.heap.size w W9) := ⟨⟨by rw [← hs2]; exact hS9, by rw [← hs2]; exact HEV.out.2.2.2.2.2.2⟩, HTB.out W9 (HUD.out.2.2.1.trans (hB9.1.mono HCM.out.2.2.2.2.size)), HUD.out.2.2.1.trans (hB9.1.mono HCM.out.2.2.2.2.size)⟩
      clear hC9 hT9 hB9 hS9 fV fO hge hvlt hs2
      refine hK.out _ _ S9 (fun hHeld => ?_)
      clear hK K
      simp only [Act.put, List.setIfInBounds_toArray, List.set_cons_zero, List.set_cons_succ]
      refine wpAnyH_take (i := 11) (oi := { dst := some 65, op := _, type := _, pos := _, after := _, guard := _ }) (v := .bool false) rfl (by kernel_rfl) (by kernel_rfl) (by kernel_rfl) (fun _ _ _ h => h) (Or.inl ⟨by rfl, ?_⟩) (by assumption) ?_
      · intro w9 hSw
        exact y_bin22 rfl rfl rfl (guard_err22 _ _ _ _) (neq_err22 _)
      simp only [Act.put, List.setIfInBounds_toArray, List.set_cons_zero, List.set_cons_succ]
      refine wpAnyH_done (by kernel_rfl) ?_ _
      refine NoPanic.normal ?_
      clear hHeld
      clear SD S9 HUD HU6 HV6 HGE HEV HCM HKY hlen HUW4 HUw3
      have hP := plan_type ky HU5.out.1
      go_wp2_with fail
      refine Calls.mono hP ?_
      rintro x W5a ⟨aoW5, qW5, cW5, rfl, hT, hb⟩
      obtain ⟨W5b, W5, hs1, hs2, hg1, hg2, hb2, hsz⟩ := two_laid W5a (Po.tell 1 (TYW.getD (typS s2 ky).toNat []) 0 []) aoW5 qW5 cW5
      have hbb : Below W9.heap.size W9 W5 := hb.trans (hb2.mono hb.size)
      have HUW5 : Hid (At22 Y2 g s2 W5 ∧ Tb W5 ∧ Below w.heap.size w W5) := ⟨HU5.out.1.below hbb, HU5.out.2.1.below hbb, HU5.out.2.2.trans (hbb.mono HU5.out.2.2.size)⟩
      have HBW5 : Hid (Below W9.heap.size W9 W5) := hbb
      have HTW5 : Hid (TRow W5 W9.heap.size (.slice aoW5 qW5 cW5) (Po.tell 1 (TYW.getD (typS s2 ky).toNat []) 0 []).L) := hT.below hb2 (Nat.le_refl _)
      have HGW5 : Hid (W5.heap[W5a.heap.size]? = some (.cells ((Po.tell 1 (TYW.getD (typS s2 ky).toNat []) 0 []).rep aoW5 qW5 cW5) 30 (0, 0)) ∧ W5.heap[W5a.heap.size + 1]? = some (.cells (Po.tell 1 (TYW.getD (typS s2 ky).toNat []) 0 []).op 34 (0, 0)) ∧ W5a.heap.size + 2 = W5.heap.size ∧ W9.heap.size ≤ W5a.heap.size) := ⟨hg1, hg2, hsz, hb.size⟩
      clear hP hT hb hb2 hbb hg1 hg2 hsz
      have hP := plan_get0 ky HUW5.out.1 HZ.out
      go_wp2_with (first | (refine wpList_storeR (ty := 30) (x := .tmp 11) (y := .tmp 71) (ad := ⟨W5a.heap.size, 0, none⟩) (v := .agg ((Po.tell 1 (TYW.getD (typS s2 ky).toNat []) 0 []).rep aoW5 qW5 cW5)) (w' := W5b) rfl rfl rfl rfl hs1 ?_) | (refine wpList_storeR (ty := 34) (x := .tmp 12) (y := .tmp 72) (ad := ⟨W5a.heap.size + 1, 0, none⟩) (v := .agg ((Po.tell 1 (TYW.getD (typS s2 ky).toNat []) 0 []).op)) (w' := W5) rfl rfl rfl rfl hs2 ?_))
      clear hs1 hs2
      refine Calls.mono hP ?_
      rintro x W6a ⟨aoW6, qW6, cW6, rfl, hT, hb⟩
      obtain ⟨W6b, W6, hs1, hs2, hg1, hg2, hb2, hsz⟩ := two_laid W6a (Po.tell 5 [] 0 []) aoW6 qW6 cW6
      have hbb : Below W5.heap.size W5 W6 := hb.trans (hb2.mono hb.size)
      have HUW6 : Hid (At22 Y2 g s2 W6 ∧ Tb W6 ∧ Below w.heap.size w W6) := ⟨HUW5.out.1.below hbb, HUW5.out.2.1.below hbb, HUW5.out.2.2.trans (hbb.mono HUW5.out.2.2.size)⟩
      have HBW6 : Hid (Below W5.heap.size W5 W6) := hbb
      have HTW6 : Hid (TRow W6 W5.heap.size (.slice aoW6 qW6 cW6) (Po.tell 5 [] 0 []).L) := hT.below hb2 (Nat.le_refl _)
      have HGW6 : Hid (W6.heap[W6a.heap.size]? = some (.cells ((Po.tell 5 [] 0 []).rep aoW6 qW6 cW6) 30 (0, 0)) ∧ W6.heap[W6a.heap.size + 1]? = some (.cells (Po.tell 5 [] 0 []).op 34 (0, 0)) ∧ W6a.heap.size + 2 = W6.heap.size ∧ W5.heap.size ≤ W6a.heap.size) := ⟨hg1, hg2, hsz, hb.size⟩
      clear hP hT hb hb2 hbb hg1 hg2 hsz
      have hP := plan_lrange0 ky HUW6.out.1 HZ.out
      go_wp2_with (first | (refine wpList_storeR (ty := 30) (x := .tmp 14) (y := .tmp 79) (ad := ⟨W6a.heap.size, 0, none⟩) (v := .agg ((Po.tell 5 [] 0 []).rep aoW6 qW6 cW6)) (w' := W6b) rfl rfl rfl rfl hs1 ?_) | (refine wpList_storeR (ty := 34) (x := .tmp 15) (y := .tmp 80) (ad := ⟨W6a.heap.size + 1, 0, none⟩) (v := .agg ((Po.tell 5 [] 0 []).op)) (w' := W6) rfl rfl rfl rfl hs2 ?_))
      clear hs1 hs2
      refine Calls.mono hP ?_
      rintro x W7a ⟨aoW7, qW7, cW7, rfl, hT, hb⟩
      obtain ⟨W7b, W7, hs1, hs2, hg1, hg2, hb2, hsz⟩ := two_laid W7a (Po.tell 6 [] 0 []) aoW7 qW7 cW7
      have hbb : Below W6.heap.size W6 W7 := hb.trans (hb2.mono hb.size)
      have HUW7 : Hid (At22 Y2 g s2 W7 ∧ Tb W7 ∧ Below w.heap.size w W7) := ⟨HUW6.out.1.below hbb, HUW6.out.2.1.below hbb, HUW6.out.2.2.trans (hbb.mono HUW6.out.2.2.size)⟩
      have HBW7 : Hid (Below W6.heap.size W6 W7) := hbb
      have HTW7 : Hid (TRow W7 W6.heap.size (.slice aoW7 qW7 cW7) (Po.tell 6 [] 0 []).L) := hT.below hb2 (Nat.le_refl _)
      have HGW7 : Hid (W7.heap[W7a.heap.size]? = some (.cells ((Po.tell 6 [] 0 []).rep aoW7 qW7 cW7) 30 (0, 0)) ∧ W7.heap[W7a.heap.size + 1]? = some (.cells (Po.tell 6 [] 0 []).op 34 (0, 0)) ∧ W7a.heap.size + 2 = W7.heap.size ∧ W6.heap.size ≤ W7a.heap.size) := ⟨hg1, hg2, hsz, hb.size⟩
      clear hP hT hb hb2 hbb hg1 hg2 hsz
      have hty : typS s2 ky = 0 := (none_type HZ.out).1
      have c51 : W7.cell? ⟨W5a.heap.size, 1, none⟩ = some (.string (sb [110, 111, 110, 101])) := by
        have hb57 : Below W5.heap.size W5 W7 := HBW6.out.trans (HBW7.out.mono HBW6.out.size)
        refine (hb57.cell (p := ⟨W5a.heap.size, 1, none⟩) (by have := HGW5.out.2.2.1; show W5a.heap.size < _; omega)).trans ?_
        rw [cell_of_row W5 _ 1 _ _ _ HGW5.out.1, hty]
        rfl
      have c60 : W7.cell? ⟨W6a.heap.size, 0, none⟩ = some (.int .i64 5) := (HBW7.out.cell (p := ⟨W6a.heap.size, 0, none⟩) (by have := HGW6.out.2.2.1; show W6a.heap.size < _; omega)).trans (by rw [cell_of_row W6 _ 0 _ _ _ HGW6.out.1]; rfl)
      obtain ⟨a9, c9, e9, -⟩ := HTW7.out.tl
      have c70 : W7.cell? ⟨W7a.heap.size, 0, none⟩ = some (.int .i64 6) := by rw [cell_of_row W7 _ 0 _ _ _ HGW7.out.1]; rfl
      have c73 : W7.cell? ⟨W7a.heap.size, 3, none⟩ = some (.slice a9 0 c9) := by
        rw [cell_of_row W7 _ 3 _ _ _ HGW7.out.1]
        show some (Value.slice aoW7 qW7 cW7) = _
        rw [e9]
        rfl
      have hqn : ((sb [110, 111, 110, 101]).toList == [110, 111, 110, 101]) = true := by rw [sb_lit]; exact decide_eq_true rfl
      have FIN : Hid (Below w.heap.size w W7) := HUW7.out.2.2
      clear e9 hty HBW5 HBW6 HBW7 HGW5 HGW6 HGW7 HTW5 HTW6 HTW7 HUW5 HUW6 HUW7 HZ
      go_wp2_with (first | (refine wpList_storeR (ty := 30) (x := .tmp 17) (y := .tmp 87) (ad := ⟨W7a.heap.size, 0, none⟩) (v := .agg ((Po.tell 6 [] 0 []).rep aoW7 qW7 cW7)) (w' := W7b) rfl rfl rfl rfl hs1 ?_) | (refine wpList_storeR (ty := 34) (x := .tmp 18) (y := .tmp 88) (ad := ⟨W7a.heap.size + 1, 0, none⟩) (v := .agg ((Po.tell 6 [] 0 []).op)) (w' := W7) rfl rfl rfl rfl hs2 ?_))
      go_ret
      exact ⟨rfl, FIN.out⟩
    · have h0 : typS s ky = 0 := by simpa using HZZ.out
      have HZ : Hid (ofKeyE ky s.L = []) := by
        show _ = _
        rw [← HCM.out.2.1]
        exact type_none HCM.out.1 (by rw [HCM.out.2.1]; exact h0)
      skip
      obtain ⟨s2, hs2'⟩ : ∃ s2, s2 = s := ⟨_, rfl⟩
      obtain ⟨Y2, hY2⟩ : ∃ Y2, Y2 = Y := ⟨_, rfl⟩
      have HU5 : Hid (At22 Y2 g s2 W4 ∧ Tb W4 ∧ Below w.heap.size w W4) := by rw [hs2', hY2]; exact HUW4.out
      rw [← hs2'] at HZ
      clear hs2' hY2
      clear HOP hw4 hw34 h0 HZZ HCM HKY HUW4 HUw3
      have hP := plan_type ky HU5.out.1
      go_wp2_with (first | (refine wpList_storeR (ty := 30) (x := .tmp 7) (y := .tmp 48) (ad := ⟨W4a.heap.size, 0, none⟩) (v := .agg ((Po.dif (!true) 11 ky [] [] 0 0 0).rep aoW4 qW4 cW4)) (w' := W4b) rfl rfl rfl rfl hs1 ?_) | (refine wpList_storeR (ty := 34) (x := .tmp 8) (y := .tmp 49) (ad := ⟨W4a.heap.size + 1, 0, none⟩) (v := .agg ((Po.dif (!true) 11 ky [] [] 0 0 0).op)) (w' := W4) rfl rfl rfl rfl hs2 ?_))
      clear hs1 hs2
      refine Calls.mono hP ?_
      rintro x W5a ⟨aoW5, qW5, cW5, rfl, hT, hb⟩
      obtain ⟨W5b, W5, hs1, hs2, hg1, hg2, hb2, hsz⟩ := two_laid W5a (Po.tell 1 (TYW.getD (typS s2 ky).toNat []) 0 []) aoW5 qW5 cW5
      have hbb : Below W4.heap.size W4 W5 := hb.trans (hb2.mono hb.size)
      have HUW5 : Hid (At22 Y2 g s2 W5 ∧ Tb W5 ∧ Below w.heap.size w W5) := ⟨HU5.out.1.below hbb, HU5.out.2.1.below hbb, HU5.out.2.2.trans (hbb.mono HU5.out.2.2.size)⟩
      have HBW5 : Hid (Below W4.heap.size W4 W5) := hbb
      have HTW5 : Hid (TRow W5 W4.heap.size (.slice aoW5 qW5 cW5) (Po.tell 1 (TYW.getD (typS s2 ky).toNat []) 0 []).L) := hT.below hb2 (Nat.le_refl _)
      have HGW5 : Hid (W5.heap[W5a.heap.size]? = some (.cells ((Po.tell 1 (TYW.getD (typS s2 ky).toNat []) 0 []).rep aoW5 qW5 cW5) 30 (0, 0)) ∧ W5.heap[W5a.heap.size + 1]? = some (.cells (Po.tell 1 (TYW.getD (typS s2 ky).toNat []) 0 []).op 34 (0, 0)) ∧ W5a.heap.size + 2 = W5.heap.size ∧ W4.heap.size ≤ W5a.heap.size) := ⟨hg1, hg2, hsz, hb.size⟩
      clear hP hT hb hb2 hbb hg1 hg2 hsz
      have hP := plan_get0 ky HUW5.out.1 HZ.out
      go_wp2_with (first | (refine wpList_storeR (ty := 30) (x := .tmp 11) (y := .tmp 71) (ad := ⟨W5a.heap.size, 0, none⟩) (v := .agg ((Po.tell 1 (TYW.getD (typS s2 ky).toNat []) 0 []).rep aoW5 qW5 cW5)) (w' := W5b) rfl rfl rfl rfl hs1 ?_) | (refine wpList_storeR (ty := 34) (x := .tmp 12) (y := .tmp 72) (ad := ⟨W5a.heap.size + 1, 0, none⟩) (v := .agg ((Po.tell 1 (TYW.getD (typS s2 ky).toNat []) 0 []).op)) (w' := W5) rfl rfl rfl rfl hs2 ?_))
      clear hs1 hs2
      refine Calls.mono hP ?_
      rintro x W6a ⟨aoW6, qW6, cW6, rfl, hT, hb⟩
      obtain ⟨W6b, W6, hs1, hs2, hg1, hg2, hb2, hsz⟩ := two_laid W6a (Po.tell 5 [] 0 []) aoW6 qW6 cW6
      have hbb : Below W5.heap.size W5 W6 := hb.trans (hb2.mono hb.size)
      have HUW6 : Hid (At22 Y2 g s2 W6 ∧ Tb W6 ∧ Below w.heap.size w W6) := ⟨HUW5.out.1.below hbb, HUW5.out.2.1.below hbb, HUW5.out.2.2.trans (hbb.mono HUW5.out.2.2.size)⟩
      have HBW6 : Hid (Below W5.heap.size W5 W6) := hbb
      have HTW6 : Hid (TRow W6 W5.heap.size (.slice aoW6 qW6 cW6) (Po.tell 5 [] 0 []).L) := hT.below hb2 (Nat.le_refl _)
      have HGW6 : Hid (W6.heap[W6a.heap.size]? = some (.cells ((Po.tell 5 [] 0 []).rep aoW6 qW6 cW6) 30 (0, 0)) ∧ W6.heap[W6a.heap.size + 1]? = some (.cells (Po.tell 5 [] 0 []).op 34 (0, 0)) ∧ W6a.heap.size + 2 = W6.heap.size ∧ W5.heap.size ≤ W6a.heap.size) := ⟨hg1, hg2, hsz, hb.size⟩
      clear hP hT hb hb2 hbb hg1 hg2 hsz
      have hP := plan_lrange0 ky HUW6.out.1 HZ.out
      go_wp2_with (first | (refine wpList_storeR (ty := 30) (x := .tmp 14) (y := .tmp 79) (ad := ⟨W6a.heap.size, 0, none⟩) (v := .agg ((Po.tell 5 [] 0 []).rep aoW6 qW6 cW6)) (w' := W6b) rfl rfl rfl rfl hs1 ?_) | (refine wpList_storeR (ty := 34) (x := .tmp 15) (y := .tmp 80) (ad := ⟨W6a.heap.size + 1, 0, none⟩) (v := .agg ((Po.tell 5 [] 0 []).op)) (w' := W6) rfl rfl rfl rfl hs2 ?_))
      clear hs1 hs2
      refine Calls.mono hP ?_
      rintro x W7a ⟨aoW7, qW7, cW7, rfl, hT, hb⟩
      obtain ⟨W7b, W7, hs1, hs2, hg1, hg2, hb2, hsz⟩ := two_laid W7a (Po.tell 6 [] 0 []) aoW7 qW7 cW7
      have hbb : Below W6.heap.size W6 W7 := hb.trans (hb2.mono hb.size)
      have HUW7 : Hid (At22 Y2 g s2 W7 ∧ Tb W7 ∧ Below w.heap.size w W7) := ⟨HUW6.out.1.below hbb, HUW6.out.2.1.below hbb, HUW6.out.2.2.trans (hbb.mono HUW6.out.2.2.size)⟩
      have HBW7 : Hid (Below W6.heap.size W6 W7) := hbb
      have HTW7 : Hid (TRow W7 W6.heap.size (.slice aoW7 qW7 cW7) (Po.tell 6 [] 0 []).L) := hT.below hb2 (Nat.le_refl _)
      have HGW7 : Hid (W7.heap[W7a.heap.size]? = some (.cells ((Po.tell 6 [] 0 []).rep aoW7 qW7 cW7) 30 (0, 0)) ∧ W7.heap[W7a.heap.size + 1]? = some (.cells (Po.tell 6 [] 0 []).op 34 (0, 0)) ∧ W7a.heap.size + 2 = W7.heap.size ∧ W6.heap.size ≤ W7a.heap.size) := ⟨hg1, hg2, hsz, hb.size⟩
      clear hP hT hb hb2 hbb hg1 hg2 hsz
      have hty : typS s2 ky = 0 := (none_type HZ.out).1
      have c51 : W7.cell? ⟨W5a.heap.size, 1, none⟩ = some (.string (sb [110, 111, 110, 101])) := by
        have hb57 : Below W5.heap.size W5 W7 := HBW6.out.trans (HBW7.out.mono HBW6.out.size)
        refine (hb57.cell (p := ⟨W5a.heap.size, 1, none⟩) (by have := HGW5.out.2.2.1; show W5a.heap.size < _; omega)).trans ?_
        rw [cell_of_row W5 _ 1 _ _ _ HGW5.out.1, hty]
        rfl
      have c60 : W7.cell? ⟨W6a.heap.size, 0, none⟩ = some (.int .i64 5) := (HBW7.out.cell (p := ⟨W6a.heap.size, 0, none⟩) (by have := HGW6.out.2.2.1; show W6a.heap.size < _; omega)).trans (by rw [cell_of_row W6 _ 0 _ _ _ HGW6.out.1]; rfl)
      obtain ⟨a9, c9, e9, -⟩ := HTW7.out.tl
      have c70 : W7.cell? ⟨W7a.heap.size, 0, none⟩ = some (.int .i64 6) := by rw [cell_of_row W7 _ 0 _ _ _ HGW7.out.1]; rfl
      have c73 : W7.cell? ⟨W7a.heap.size, 3, none⟩ = some (.slice a9 0 c9) := by
        rw [cell_of_row W7 _ 3 _ _ _ HGW7.out.1]
        show some (Value.slice aoW7 qW7 cW7) = _
        rw [e9]
        rfl
      have hqn : ((sb [110, 111, 110, 101]).toList == [110, 111, 110, 101]) = true := by rw [sb_lit]; exact decide_eq_true rfl
      have FIN : Hid (Below w.heap.size w W7) := HUW7.out.2.2
      clear e9 hty HBW5 HBW6 HBW7 HGW5 HGW6 HGW7 HTW5 HTW6 HTW7 HUW5 HUW6 HUW7 HZ
      go_wp2_with (first | (refine wpList_storeR (ty := 30) (x := .tmp 17) (y := .tmp 87) (ad := ⟨W7a.heap.size, 0, none⟩) (v := .agg ((Po.tell 6 [] 0 []).rep aoW7 qW7 cW7)) (w' := W7b) rfl rfl rfl rfl hs1 ?_) | (refine wpList_storeR (ty := 34) (x := .tmp 18) (y := .tmp 88) (ad := ⟨W7a.heap.size + 1, 0, none⟩) (v := .agg ((Po.tell 6 [] 0 []).op)) (w' := W7) rfl rfl rfl rfl hs2 ?_))
      go_ret
      exact ⟨rfl, FIN.out⟩
end Go.Proofs.YtmlfekbmbnfkjabGreatDoor

/-
  The rows' condition on the library's variables gives what the walks read of them.
-/
namespace Go.Proofs.YtmlfekbmbnfkjabGreatDoor
set_option maxRecDepth 100000
open Go.RowKit

theorem err_star : "*" ++ "errors.errorString" = "*errors.errorString" := by decide
theorem err_row (u : TypeId) (h : Tryz.prog.typeName? 3 u = some "*errors.errorString") : u = 265 :=
  typeName_ptr_named (nm := "errors.errorString") (by rw [err_star]; kernel_rfl) (by kernel_rfl) (by decide) u (by rw [err_star]; exact h)
theorem tb_of_laid {W : World} (h : laidMetH Tryz.prog [("math/bits.deBruijn32tab", Rows.laid_math_bits_deBruijn32tab), ("math/bits.deBruijn64tab", Rows.laid_math_bits_deBruijn64tab), ("internal/strconv.uint64pow10", Rows.laid_internal_strconv_uint64pow10), ("strconv.ErrRange", Rows.laid_strconv_ErrRange), ("strconv.ErrSyntax", Rows.laid_strconv_ErrSyntax)] W) : Tb W := by
  rw [MakeChecks.laidMetH_plain _ _ _ (by kernel_rfl)] at h
  have h3 := h.tail.tail
  refine ⟨?_, ?_, ?_⟩
  · obtain ⟨ps, ⟨g2, t2, cs2, f2, p2, q2, hg2, ht2, hv2, hd2, _, _⟩, _, _⟩ := h3
    have hg : Tryz.prog.globalNamed "internal/strconv.uint64pow10" = some 2 := by kernel_rfl
    have hty : (Tryz.prog.globals[2]?).map (·.type) = some 269 := by kernel_rfl
    obtain rfl := Option.some.inj (hg.symm.trans hg2)
    obtain rfl := Option.some.inj (hty.symm.trans ht2)
    unfold Tab Lib.TabIs
    rw [hv2, ← Lib.cells_of_tab (n := 20) (e := 236) (k := .u64) (zs := Lib.pow10Tab) Tryz.underlying269 Tryz.underlying236 (by kernel_rfl) (by kernel_rfl) hd2]
  · obtain ⟨a, s, h1, -⟩ := laid_sentinel (te := 267) (ts := 9) h3.tail.tail (show Tryz.prog.globalNamed "strconv.ErrSyntax" = some 0 by kernel_rfl) (by kernel_rfl) Tryz.underlying114 err_row Tryz.underlying265 Tryz.underlying267 rfl rfl Tryz.underlying9 (by kernel_rfl) (by kernel_rfl)
    exact ⟨_, _, h1⟩
  · obtain ⟨a, s, h1, -⟩ := laid_sentinel (te := 267) (ts := 9) h3.tail (show Tryz.prog.globalNamed "strconv.ErrRange" = some 1 by kernel_rfl) (by kernel_rfl) Tryz.underlying114 err_row Tryz.underlying265 Tryz.underlying267 rfl rfl Tryz.underlying9 (by kernel_rfl) (by kernel_rfl)
    exact ⟨_, _, h1⟩
end Go.Proofs.YtmlfekbmbnfkjabGreatDoor

/-
  What the row of CommandEnds takes.
-/
namespace Go.Proofs.YtmlfekbmbnfkjabGreatDoor
set_option maxRecDepth 100000
end Go.Proofs.YtmlfekbmbnfkjabGreatDoor

