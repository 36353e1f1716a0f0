/-
  CommandKeys: of the keys that KEYS tells each has a type, of a key that it doesn't tell TYPE tells none, and DEL does nothing; whatever was seen. For every input.
-/
import Derived.Test.YtmlfekbmbnfkjabGreatDoorQ34
import Derived.Test.YtmlfekbmbnfkjabGreatDoorQ11
import Derived.Test.YtmlfekbmbnfkjabGreatDoorRows
import Derived.Lib.LaidTab
import Derived.LaidMore
import Derived.Stop.LaidErr
namespace Go.Proofs.YtmlfekbmbnfkjabGreatDoor
set_option maxRecDepth 100000
open Go.RowKit

set_option maxHeartbeats 8000000 in
theorem keys_walk (ao : Option Addr) (m c : Nat) (E : List Ev) (kb : ByteArray) (w : World) (hE : Evs w ao m c E) (ht : Tb w) :
    Calls Tryz.prog 3 #[.slice ao m c, .string kb] w fun x w' => x = .returned (.bool true) ∧ Below w.heap.size w w' := by
  obtain ⟨ky, rfl⟩ : ∃ ky, kb = sb ky := ⟨kb.data.toList, by cases kb; simp [sb]⟩
  have hsz : (sb ky).size = ky.length := size_sb ky
  have HE : Aside (Evs w ao m c E ∧ Tb w) := ⟨hE, ht⟩
  have hA := cawake_any w ht
  clear hE ht
  go_enter Tryz.func3, Tryz.ntmps3
  go_wp2_with fail
  refine Calls.mono hA ?_
  rintro x w1 ⟨rfl, hb1⟩
  have HB1 : Hid (Below w.heap.size w w1) := hb1
  have hF := cfew_any ao m c E w1 (HE.out.1.below hb1 (Nat.le_refl _))
  clear hA hb1
  go_wp2_with fail
  refine Calls.mono hF ?_
  rintro x w2 ⟨t, rfl, h60, hb2⟩
  have HB2 : Hid (Below w.heap.size w w2) := HB1.out.trans (hb2.mono HB1.out.size)
  have H60 : Hid (t = true → m ≤ 60) := h60
  have hA2 := cawake_any w2 (HE.out.2.below HB2.out)
  have HL : Hid ((∀ w3, Below w2.heap.size w2 w3 → Below w.heap.size w w3)) := fun w3 hb3 => HB2.out.trans (hb3.mono HB2.out.size)
  obtain ⟨kl, hkl⟩ : ∃ kl, ky.length = kl := ⟨_, rfl⟩
  rw [hkl] at hsz
  clear hF hb2 h60 hkl
  cases t with
  | false =>
    go_wp2_with fail
    refine Calls.mono hA2 ?_
    rintro x w3 ⟨rfl, hb3⟩
    have FIN : Hid (Below w.heap.size w w3) := HL.out w3 hb3
    clear hb3 hA2
    go_wp2
    go_ret
    exact ⟨rfl, FIN.out⟩
  | true =>
    have hm60 := H60.out rfl
    by_cases hk1 : (kl : Int) < 1
    · go_wp2_with fail
      refine Calls.mono hA2 ?_
      rintro x w3 ⟨rfl, hb3⟩
      have FIN : Hid (Below w.heap.size w w3) := HL.out w3 hb3
      clear hb3 hA2
      go_wp2
      go_ret
      exact ⟨rfl, FIN.out⟩
    by_cases hk2 : (64 : Int) < kl
    · go_wp2_with fail
      refine Calls.mono hA2 ?_
      rintro x w3 ⟨rfl, hb3⟩
      have FIN : Hid (Below w.heap.size w w3) := HL.out w3 hb3
      clear hb3 hA2
      go_wp2
      go_ret
      exact ⟨rfl, FIN.out⟩
    clear hA2 HL
    have hC := cseen_any ao m c E w2 (HE.out.1.below HB2.out (Nat.le_refl _)) hm60
    go_wp2_with fail
    refine Calls.mono hC ?_
    rintro x w3 ⟨g, Y, v, l, rfl, hSn, hlm⟩
    have hwb : Below w.heap.size w w3 := HB2.out.trans (hSn.be.mono HB2.out.size)
    have hAt := hSn.at22 (by omega)
    have hsl := hSn.came.short
    obtain ⟨s, hs⟩ : ∃ s, seenS l = s := ⟨_, rfl⟩
    rw [hs] at hAt hsl
    have HUw3 : Hid (At22 Y g s w3 ∧ Tb w3 ∧ Below w.heap.size w w3) := ⟨hAt, HE.out.2.below hwb, hwb⟩
    have HSL : Hid (s.L.length ≤ 60) := by show s.L.length ≤ 60; have := hsl.1; omega
    clear hC hSn hwb hAt hsl hs hlm HB1 HB2 HE H60
    have hP := plan_keys HUw3.out.1
    go_wp2_with fail
    refine Calls.mono hP ?_
    rintro x W4a ⟨aoW4, qW4, cW4, rfl, hT, hb⟩
    obtain ⟨W4b, W4, hs1, hs2, hg1, hg2, hb2, hsz⟩ := two_laid W4a (Po.tell 6 [] 0 (keysS s)) aoW4 qW4 cW4
    have hbb : Below w3.heap.size w3 W4 := hb.trans (hb2.mono hb.size)
    have HUW4 : Hid (At22 Y g s W4 ∧ Tb W4 ∧ Below w.heap.size w W4) := ⟨HUw3.out.1.below hbb, HUw3.out.2.1.below hbb, HUw3.out.2.2.trans (hbb.mono HUw3.out.2.2.size)⟩
    have HBW4 : Hid (Below w3.heap.size w3 W4) := hbb
    have HTW4 : Hid (TRow W4 w3.heap.size (.slice aoW4 qW4 cW4) (Po.tell 6 [] 0 (keysS s)).L) := hT.below hb2 (Nat.le_refl _)
    have HGW4 : Hid (W4.heap[W4a.heap.size]? = some (.cells ((Po.tell 6 [] 0 (keysS s)).rep aoW4 qW4 cW4) 30 (0, 0)) ∧ W4.heap[W4a.heap.size + 1]? = some (.cells (Po.tell 6 [] 0 (keysS s)).op 34 (0, 0)) ∧ W4a.heap.size + 2 = W4.heap.size ∧ w3.heap.size ≤ W4a.heap.size) := ⟨hg1, hg2, hsz, hb.size⟩
    clear hP hT hb hb2 hbb hg1 hg2 hsz
    obtain ⟨N, hN⟩ : ∃ N, (keysS s).length = N := ⟨_, rfl⟩
    have HT0 : Hid (TRow W4 w3.heap.size (.slice aoW4 qW4 cW4) (keysS s)) := HTW4.out
    obtain ⟨a8, c8, e8, hTL⟩ := HT0.out.tl
    simp only [Value.slice.injEq] at e8
    obtain ⟨rfl, e9, rfl⟩ := e8
    rw [hN] at e9
    subst e9
    have HTL : Hid (TL W4 aoW4 (keysS s) ∧ (keysS s).length = qW4 ∧ qW4 ≤ 60) := ⟨hTL, hN, by have := keys_short s; have := HSL.out; omega⟩
    have hq60 : qW4 ≤ 60 := HTL.out.2.2
    have hcl : W4.cell? ⟨W4a.heap.size, 3, none⟩ = some (.slice aoW4 qW4 cW4) := by rw [cell_of_row W4 _ 3 _ _ _ HGW4.out.1]; rfl
    have HR : Hid (∀ W, Below W4.heap.size W4 W → W.cell? ⟨W4a.heap.size, 3, none⟩ = some (.slice aoW4 qW4 cW4) ∧ W.cell? ⟨W4a.heap.size, 0, none⟩ = some (.int .i64 6)) := fun W hb => ⟨(hb.cell (p := ⟨W4a.heap.size, 3, none⟩) (by have := HGW4.out.2.2.1; show W4a.heap.size < _; omega)).trans hcl, (hb.cell (p := ⟨W4a.heap.size, 0, none⟩) (by have := HGW4.out.2.2.1; show W4a.heap.size < _; omega)).trans (by rw [cell_of_row W4 _ 0 _ _ _ HGW4.out.1]; rfl)⟩
    clear hTL hN
    go_wp2_with (first | (refine wpList_storeR (ty := 30) (x := .tmp 7) (y := .tmp 51) (ad := ⟨W4a.heap.size, 0, none⟩) (v := .agg ((Po.tell 6 [] 0 (keysS s)).rep aoW4 qW4 cW4)) (w' := W4b) rfl rfl rfl rfl hs1 ?_) | (refine wpList_storeR (ty := 34) (x := .tmp 8) (y := .tmp 52) (ad := ⟨W4a.heap.size + 1, 0, none⟩) (v := .agg ((Po.tell 6 [] 0 (keysS s)).op)) (w' := W4) rfl rfl rfl rfl hs2 ?_))
    clear hs1 hs2 hcl
    go_loopw [10, 57] (fun vb i wr => ∃ k : Nat, k ≤ qW4 ∧ i = .int .i64 (k : Int) ∧ vb = .bool (decide (ky ∈ (keysS s).take k)) ∧ Hid (Below W4.heap.size W4 wr)) (fun _ i _ => qW4 - (intOf i).toNat)
    case atStart => exact ⟨0, Nat.zero_le _, rfl, rfl, Below.refl _ _⟩
    case round =>
      obtain ⟨k, hk, rfl, rfl, HW⟩ := hrel
      have HUwr : Hid (At22 Y g s wr ∧ Tb wr ∧ Below w.heap.size w wr) := ⟨HUW4.out.1.below HW.out, HUW4.out.2.1.below HW.out, HUW4.out.2.2.trans (HW.out.mono HUW4.out.2.2.size)⟩
      have hcl := (HR.out wr HW.out).1
      by_cases hlt : k < qW4
      · have hlt' : (k : Int) < (qW4 : Int) := by omega
        obtain ⟨u, hu⟩ : ∃ u, (keysS s)[k]? = some u := ⟨_, List.getElem?_eq_getElem (by have := HTL.out.2.1; omega)⟩
        obtain ⟨b, rfl, hce⟩ := HTL.out.1 k u hu
        have hcu : wr.cell? ⟨b, k, none⟩ = some (.string (sb u)) := (HW.out.cell (World.block_lt_of_cell? _ _ hce)).trans hce
        have HU9 : Hid ((keysS s)[k]? = some u) := hu
        have HCE : Hid (W4.cell? ⟨b, k, none⟩ = some (.string (sb u))) := hce
        clear hu hce
        have hP := plan_type u HUwr.out.1
        go_wp2_with fail
        refine Calls.mono hP ?_
        rintro x W5a ⟨aoW5, qW5, cW5, rfl, hT, hb⟩
        obtain ⟨W5b, W5, hs1, hs2, hg1, hg2, hb2, hsz⟩ := two_laid W5a (Po.tell 1 (TYW.getD (typS s u).toNat []) 0 []) aoW5 qW5 cW5
        have hbb : Below wr.heap.size wr W5 := hb.trans (hb2.mono hb.size)
        have HUW5 : Hid (At22 Y g s W5 ∧ Tb W5 ∧ Below w.heap.size w W5) := ⟨HUwr.out.1.below hbb, HUwr.out.2.1.below hbb, HUwr.out.2.2.trans (hbb.mono HUwr.out.2.2.size)⟩
        have HBW5 : Hid (Below wr.heap.size wr W5) := hbb
        have HTW5 : Hid (TRow W5 wr.heap.size (.slice aoW5 qW5 cW5) (Po.tell 1 (TYW.getD (typS s u).toNat []) 0 []).L) := hT.below hb2 (Nat.le_refl _)
        have HGW5 : Hid (W5.heap[W5a.heap.size]? = some (.cells ((Po.tell 1 (TYW.getD (typS s u).toNat []) 0 []).rep aoW5 qW5 cW5) 30 (0, 0)) ∧ W5.heap[W5a.heap.size + 1]? = some (.cells (Po.tell 1 (TYW.getD (typS s u).toNat []) 0 []).op 34 (0, 0)) ∧ W5a.heap.size + 2 = W5.heap.size ∧ wr.heap.size ≤ W5a.heap.size) := ⟨hg1, hg2, hsz, hb.size⟩
        clear hP hT hb hb2 hbb hg1 hg2 hsz
        have hcl5 := (HR.out W5 (HW.out.trans (HBW5.out.mono HW.out.size))).1
        have hcu5 : W5.cell? ⟨b, k, none⟩ = some (.string (sb u)) := (HBW5.out.cell (World.block_lt_of_cell? _ _ hcu)).trans hcu
        clear hcl hcu
        have hP := plan_del u HUW5.out.1
        go_wp2_with (first | (refine wpList_storeR (ty := 30) (x := .tmp 12) (y := .tmp 69) (ad := ⟨W5a.heap.size, 0, none⟩) (v := .agg ((Po.tell 1 (TYW.getD (typS s u).toNat []) 0 []).rep aoW5 qW5 cW5)) (w' := W5b) rfl rfl rfl rfl hs1 ?_) | (refine wpList_storeR (ty := 34) (x := .tmp 13) (y := .tmp 70) (ad := ⟨W5a.heap.size + 1, 0, none⟩) (v := .agg ((Po.tell 1 (TYW.getD (typS s u).toNat []) 0 []).op)) (w' := W5) rfl rfl rfl rfl hs2 ?_))
        clear hs1 hs2
        refine Calls.mono hP ?_
        rintro x W6a ⟨aoW6, qW6, cW6, rfl, hT, hb⟩
        obtain ⟨W6b, W6, hs1, hs2, hg1, hg2, hb2, hsz⟩ := two_laid W6a (Po.dif (!(typS s u == 0)) 11 u [] [] 0 0 0) aoW6 qW6 cW6
        have hbb : Below W5.heap.size W5 W6 := hb.trans (hb2.mono hb.size)
        have HUW6 : Hid (At22 Y g s W6 ∧ Tb W6 ∧ Below w.heap.size w W6) := ⟨HUW5.out.1.below hbb, HUW5.out.2.1.below hbb, HUW5.out.2.2.trans (hbb.mono HUW5.out.2.2.size)⟩
        have HBW6 : Hid (Below W5.heap.size W5 W6) := hbb
        have HTW6 : Hid (TRow W6 W5.heap.size (.slice aoW6 qW6 cW6) (Po.dif (!(typS s u == 0)) 11 u [] [] 0 0 0).L) := hT.below hb2 (Nat.le_refl _)
        have HGW6 : Hid (W6.heap[W6a.heap.size]? = some (.cells ((Po.dif (!(typS s u == 0)) 11 u [] [] 0 0 0).rep aoW6 qW6 cW6) 30 (0, 0)) ∧ W6.heap[W6a.heap.size + 1]? = some (.cells (Po.dif (!(typS s u == 0)) 11 u [] [] 0 0 0).op 34 (0, 0)) ∧ W6a.heap.size + 2 = W6.heap.size ∧ W5.heap.size ≤ W6a.heap.size) := ⟨hg1, hg2, hsz, hb.size⟩
        clear hP hT hb hb2 hbb hg1 hg2 hsz
        have hty : typS s u ≠ 0 := mem_keysS.1 (List.mem_of_getElem? HU9.out)
        obtain ⟨i, hi7, hti⟩ := typS_range s u
        have hi0 : i ≠ 0 := fun e => hty (by rw [hti, e]; rfl)
        have hd0 : (!(typS s u == 0)) = true := by simpa using hty
        have c50 : W6.cell? ⟨W5a.heap.size, 0, none⟩ = some (.int .i64 1) := (HBW6.out.cell (p := ⟨W5a.heap.size, 0, none⟩) (by have := HGW5.out.2.2.1; show W5a.heap.size < _; omega)).trans (by rw [cell_of_row W5 _ 0 _ _ _ HGW5.out.1]; rfl)
        have c51 : W6.cell? ⟨W5a.heap.size, 1, none⟩ = some (.string (sb (TYW.getD (typS s u).toNat []))) := (HBW6.out.cell (p := ⟨W5a.heap.size, 1, none⟩) (by have := HGW5.out.2.2.1; show W5a.heap.size < _; omega)).trans (by rw [cell_of_row W5 _ 1 _ _ _ HGW5.out.1]; rfl)
        have c62 : W6.cell? ⟨W6a.heap.size, 2, none⟩ = some (.int .i64 1) := by
          have h := HGW6.out.1
          have e : Po.dif (!(typS s u == 0)) 11 u [] [] 0 0 0 = ⟨3, [], 1, [], 11, u, [], [], 0, 0, 0, true⟩ := by
            show Po.dif (!(typS s u == 0)) 11 u [] [] 0 0 0 = _
            rw [hd0]
            rfl
          rw [e] at h
          rw [cell_of_row W6 _ 2 _ _ _ h]
          rfl
        have hdb : (Po.dif (!(typS s u == 0)) 11 u [] [] 0 0 0).b = true := by
          show (Po.dif (!(typS s u == 0)) 11 u [] [] 0 0 0).b = true
          rw [hd0]
          rfl
        have hTN : TYW.getD (typS s u).toNat [] ≠ [110, 111, 110, 101] := by
          rw [hti]
          exact fun e => hi0 ((tyw_none hi7).1 e)
        generalize TYW.getD (typS s u).toNat [] = T at *
        have hq1 : ((sb T).toList == [110, 111, 110, 101]) = false := by rw [sb_lit]; exact decide_eq_false hTN
        have hcl6 := (HR.out W6 ((HW.out.trans (HBW5.out.mono HW.out.size)).trans (HBW6.out.mono (HW.out.trans (HBW5.out.mono HW.out.size)).size))).1
        have hcu6 : W6.cell? ⟨b, k, none⟩ = some (.string (sb u)) := (HBW6.out.cell (World.block_lt_of_cell? _ _ hcu5)).trans hcu5
        have hq2 : ((sb u).toList == (sb ky).toList) = decide (u = ky) := sb_beq _ _
        have HNX : Hid (decide (ky ∈ (keysS s).take (k + 1)) = (decide (ky ∈ (keysS s).take k) || decide (u = ky))) := by
          show _ = _
          rw [List.take_add_one, HU9.out, Bool.eq_iff_iff]
          simp only [List.mem_append, Option.toList_some, List.mem_singleton, Bool.or_eq_true, decide_eq_true_eq]
          exact or_congr_right ⟨Eq.symm, Eq.symm⟩
        have HW6 : Hid (Below W4.heap.size W4 W6) := (HW.out.trans (HBW5.out.mono HW.out.size)).trans (HBW6.out.mono (HW.out.trans (HBW5.out.mono HW.out.size)).size)
        clear hcl5 hcu5 hty hti hi0 hi7 hd0 hTN HBW5 HBW6 HGW5 HGW6 HTW5 HTW6 HUwr HUW5 HUW6 HW
        cases hin : decide (ky ∈ (keysS s).take k)
        · generalize decide (u = ky) = z at *
          have HNX : Hid (decide (ky ∈ (keysS s).take (k + 1)) = z) := by
            show _ = _
            have := HNX.out
            rw [hin] at this
            simpa using this
          rw [hdb]
          go_wp2_with (first | (refine wpList_storeR (ty := 30) (x := .tmp 15) (y := .tmp 81) (ad := ⟨W6a.heap.size, 0, none⟩) (v := .agg ((Po.dif (!(typS s u == 0)) 11 u [] [] 0 0 0).rep aoW6 qW6 cW6)) (w' := W6b) rfl rfl rfl rfl hs1 ?_) | (refine wpList_storeR (ty := 34) (x := .tmp 16) (y := .tmp 82) (ad := ⟨W6a.heap.size + 1, 0, none⟩) (v := .agg ((Po.dif (!(typS s u == 0)) 11 u [] [] 0 0 0).op)) (w' := W6) rfl rfl rfl rfl hs2 ?_))
          go_roundw
          case rel => exact ⟨k + 1, by omega, by go_num, by rw [HNX.out], HW6⟩
          case measure => simp [intOf]; omega
        · generalize decide (u = ky) = z at *
          have HNX : Hid (decide (ky ∈ (keysS s).take (k + 1)) = true) := by
            show _ = _
            have := HNX.out
            rw [hin] at this
            simpa using this
          rw [hdb]
          go_wp2_with (first | (refine wpList_storeR (ty := 30) (x := .tmp 15) (y := .tmp 81) (ad := ⟨W6a.heap.size, 0, none⟩) (v := .agg ((Po.dif (!(typS s u == 0)) 11 u [] [] 0 0 0).rep aoW6 qW6 cW6)) (w' := W6b) rfl rfl rfl rfl hs1 ?_) | (refine wpList_storeR (ty := 34) (x := .tmp 16) (y := .tmp 82) (ad := ⟨W6a.heap.size + 1, 0, none⟩) (v := .agg ((Po.dif (!(typS s u == 0)) 11 u [] [] 0 0 0).op)) (w' := W6) rfl rfl rfl rfl hs2 ?_))
          go_roundw
          case rel => exact ⟨k + 1, by omega, by go_num, by rw [HNX.out], HW6⟩
          case measure => simp [intOf]; omega
      · have hlt' : ¬ (k : Int) < (qW4 : Int) := by omega
        have HIN : Hid (decide (ky ∈ (keysS s).take k) = decide (ky ∈ keysS s)) := by
          show _ = _
          rw [List.take_of_length_le (by have := HTL.out.2.1; omega)]
        rw [HIN.out]
        clear hcl
        have hP := plan_type ky HUwr.out.1
        go_wp2_with fail
        refine Calls.mono hP ?_
        rintro x W7a ⟨aoW7, qW7, cW7, rfl, hT, hb⟩
        obtain ⟨W7b, W7, hs1, hs2, hg1, hg2, hb2, hsz⟩ := two_laid W7a (Po.tell 1 (TYW.getD (typS s ky).toNat []) 0 []) aoW7 qW7 cW7
        have hbb : Below wr.heap.size wr W7 := hb.trans (hb2.mono hb.size)
        have HUW7 : Hid (At22 Y g s W7 ∧ Tb W7 ∧ Below w.heap.size w W7) := ⟨HUwr.out.1.below hbb, HUwr.out.2.1.below hbb, HUwr.out.2.2.trans (hbb.mono HUwr.out.2.2.size)⟩
        have HBW7 : Hid (Below wr.heap.size wr W7) := hbb
        have HTW7 : Hid (TRow W7 wr.heap.size (.slice aoW7 qW7 cW7) (Po.tell 1 (TYW.getD (typS s ky).toNat []) 0 []).L) := hT.below hb2 (Nat.le_refl _)
        have HGW7 : Hid (W7.heap[W7a.heap.size]? = some (.cells ((Po.tell 1 (TYW.getD (typS s ky).toNat []) 0 []).rep aoW7 qW7 cW7) 30 (0, 0)) ∧ W7.heap[W7a.heap.size + 1]? = some (.cells (Po.tell 1 (TYW.getD (typS s ky).toNat []) 0 []).op 34 (0, 0)) ∧ W7a.heap.size + 2 = W7.heap.size ∧ wr.heap.size ≤ W7a.heap.size) := ⟨hg1, hg2, hsz, hb.size⟩
        clear hP hT hb hb2 hbb hg1 hg2 hsz
        have hP := plan_del ky HUW7.out.1
        go_wp2_with (first | (refine wpList_storeR (ty := 30) (x := .tmp 18) (y := .tmp 117) (ad := ⟨W7a.heap.size, 0, none⟩) (v := .agg ((Po.tell 1 (TYW.getD (typS s ky).toNat []) 0 []).rep aoW7 qW7 cW7)) (w' := W7b) rfl rfl rfl rfl hs1 ?_) | (refine wpList_storeR (ty := 34) (x := .tmp 19) (y := .tmp 118) (ad := ⟨W7a.heap.size + 1, 0, none⟩) (v := .agg ((Po.tell 1 (TYW.getD (typS s ky).toNat []) 0 []).op)) (w' := W7) rfl rfl rfl rfl hs2 ?_))
        clear hs1 hs2
        refine Calls.mono hP ?_
        rintro x W8a ⟨aoW8, qW8, cW8, rfl, hT, hb⟩
        obtain ⟨W8b, W8, hs1, hs2, hg1, hg2, hb2, hsz⟩ := two_laid W8a (Po.dif (!(typS s ky == 0)) 11 ky [] [] 0 0 0) aoW8 qW8 cW8
        have hbb : Below W7.heap.size W7 W8 := hb.trans (hb2.mono hb.size)
        have HUW8 : Hid (At22 Y g s W8 ∧ Tb W8 ∧ Below w.heap.size w W8) := ⟨HUW7.out.1.below hbb, HUW7.out.2.1.below hbb, HUW7.out.2.2.trans (hbb.mono HUW7.out.2.2.size)⟩
        have HBW8 : Hid (Below W7.heap.size W7 W8) := hbb
        have HTW8 : Hid (TRow W8 W7.heap.size (.slice aoW8 qW8 cW8) (Po.dif (!(typS s ky == 0)) 11 ky [] [] 0 0 0).L) := hT.below hb2 (Nat.le_refl _)
        have HGW8 : Hid (W8.heap[W8a.heap.size]? = some (.cells ((Po.dif (!(typS s ky == 0)) 11 ky [] [] 0 0 0).rep aoW8 qW8 cW8) 30 (0, 0)) ∧ W8.heap[W8a.heap.size + 1]? = some (.cells (Po.dif (!(typS s ky == 0)) 11 ky [] [] 0 0 0).op 34 (0, 0)) ∧ W8a.heap.size + 2 = W8.heap.size ∧ W7.heap.size ≤ W8a.heap.size) := ⟨hg1, hg2, hsz, hb.size⟩
        clear hP hT hb hb2 hbb hg1 hg2 hsz
        have hbr : Below W4.heap.size W4 W8 := (HW.out.trans (HBW7.out.mono HW.out.size)).trans (HBW8.out.mono (HW.out.trans (HBW7.out.mono HW.out.size)).size)
        have c40 := (HR.out W8 hbr).2
        have c71 : W8.cell? ⟨W7a.heap.size, 1, none⟩ = some (.string (sb (TYW.getD (typS s ky).toNat []))) := (HBW8.out.cell (p := ⟨W7a.heap.size, 1, none⟩) (by have := HGW7.out.2.2.1; show W7a.heap.size < _; omega)).trans (by rw [cell_of_row W7 _ 1 _ _ _ HGW7.out.1]; rfl)
        have FIN : Hid (Below w.heap.size w W8) := HUW8.out.2.2
        have hdb : (Po.dif (!(typS s ky == 0)) 11 ky [] [] 0 0 0).b = !(typS s ky == 0) := by
          show (Po.dif (!(typS s ky == 0)) 11 ky [] [] 0 0 0).b = _
          cases (typS s ky == 0) <;> rfl
        rw [hdb]
        have hq1 : ((sb (TYW.getD (typS s ky).toNat [])).toList == [110, 111, 110, 101]) = (typS s ky == 0) := by
          obtain ⟨i, hi7, hti⟩ := typS_range s ky
          rw [sb_lit, hti]
          show decide (TYW.getD i [] = _) = _
          rw [Bool.eq_iff_iff]
          simp only [decide_eq_true_eq, tyw_none hi7, beq_iff_eq]
          omega
        have hmk : decide (ky ∈ keysS s) = !(typS s ky == 0) := by
          rw [Bool.eq_iff_iff]
          simp only [decide_eq_true_eq, mem_keysS, Bool.not_eq_true', beq_eq_false_iff_ne]
        rw [hmk]
        generalize TYW.getD (typS s ky).toNat [] = T at *
        generalize (typS s ky == 0) = z at *
        clear HBW7 HBW8 HGW7 HGW8 HTW7 HTW8 HUwr HUW7 HUW8 hbr HW hdb hmk
        cases z
        · go_wp2_with (first | (refine wpList_storeR (ty := 30) (x := .tmp 21) (y := .tmp 125) (ad := ⟨W8a.heap.size, 0, none⟩) (v := .agg ((Po.dif (!false) 11 ky [] [] 0 0 0).rep aoW8 qW8 cW8)) (w' := W8b) rfl rfl rfl rfl hs1 ?_) | (refine wpList_storeR (ty := 34) (x := .tmp 22) (y := .tmp 126) (ad := ⟨W8a.heap.size + 1, 0, none⟩) (v := .agg ((Po.dif (!false) 11 ky [] [] 0 0 0).op)) (w' := W8) rfl rfl rfl rfl hs2 ?_))
          go_ret
          exact ⟨rfl, FIN.out⟩
        · go_wp2_with (first | (refine wpList_storeR (ty := 30) (x := .tmp 21) (y := .tmp 125) (ad := ⟨W8a.heap.size, 0, none⟩) (v := .agg ((Po.dif (!true) 11 ky [] [] 0 0 0).rep aoW8 qW8 cW8)) (w' := W8b) rfl rfl rfl rfl hs1 ?_) | (refine wpList_storeR (ty := 34) (x := .tmp 22) (y := .tmp 126) (ad := ⟨W8a.heap.size + 1, 0, none⟩) (v := .agg ((Po.dif (!true) 11 ky [] [] 0 0 0).op)) (w' := W8) rfl rfl rfl rfl hs2 ?_))
          go_ret
          exact ⟨rfl, FIN.out⟩
end Go.Proofs.YtmlfekbmbnfkjabGreatDoor

/-
  The rows' condition on the library's variables gives what the walks read of them.
-/
namespace Go.Proofs.YtmlfekbmbnfkjabGreatDoor
set_option maxRecDepth 100000
open Go.RowKit

theorem err_star : "*" ++ "errors.errorString" = "*errors.errorString" := by decide
theorem err_row (u : TypeId) (h : Tryz.prog.typeName? 3 u = some "*errors.errorString") : u = 265 :=
  typeName_ptr_named (nm := "errors.errorString") (by rw [err_star]; kernel_rfl) (by kernel_rfl) (by decide) u (by rw [err_star]; exact h)
theorem tb_of_laid {W : World} (h : laidMetH Tryz.prog [("math/bits.deBruijn32tab", Rows.laid_math_bits_deBruijn32tab), ("math/bits.deBruijn64tab", Rows.laid_math_bits_deBruijn64tab), ("internal/strconv.uint64pow10", Rows.laid_internal_strconv_uint64pow10), ("strconv.ErrRange", Rows.laid_strconv_ErrRange), ("strconv.ErrSyntax", Rows.laid_strconv_ErrSyntax)] W) : Tb W := by
  rw [MakeChecks.laidMetH_plain _ _ _ (by kernel_rfl)] at h
  have h3 := h.tail.tail
  refine ⟨?_, ?_, ?_⟩
  · obtain ⟨ps, ⟨g2, t2, cs2, f2, p2, q2, hg2, ht2, hv2, hd2, _, _⟩, _, _⟩ := h3
    have hg : Tryz.prog.globalNamed "internal/strconv.uint64pow10" = some 2 := by kernel_rfl
    have hty : (Tryz.prog.globals[2]?).map (·.type) = some 269 := by kernel_rfl
    obtain rfl := Option.some.inj (hg.symm.trans hg2)
    obtain rfl := Option.some.inj (hty.symm.trans ht2)
    unfold Tab Lib.TabIs
    rw [hv2, ← Lib.cells_of_tab (n := 20) (e := 236) (k := .u64) (zs := Lib.pow10Tab) Tryz.underlying269 Tryz.underlying236 (by kernel_rfl) (by kernel_rfl) hd2]
  · obtain ⟨a, s, h1, -⟩ := laid_sentinel (te := 267) (ts := 9) h3.tail.tail (show Tryz.prog.globalNamed "strconv.ErrSyntax" = some 0 by kernel_rfl) (by kernel_rfl) Tryz.underlying114 err_row Tryz.underlying265 Tryz.underlying267 rfl rfl Tryz.underlying9 (by kernel_rfl) (by kernel_rfl)
    exact ⟨_, _, h1⟩
  · obtain ⟨a, s, h1, -⟩ := laid_sentinel (te := 267) (ts := 9) h3.tail (show Tryz.prog.globalNamed "strconv.ErrRange" = some 1 by kernel_rfl) (by kernel_rfl) Tryz.underlying114 err_row Tryz.underlying265 Tryz.underlying267 rfl rfl Tryz.underlying9 (by kernel_rfl) (by kernel_rfl)
    exact ⟨_, _, h1⟩
end Go.Proofs.YtmlfekbmbnfkjabGreatDoor

/-
  What the row of CommandKeys takes.
-/
namespace Go.Proofs.YtmlfekbmbnfkjabGreatDoor
set_option maxRecDepth 100000
end Go.Proofs.YtmlfekbmbnfkjabGreatDoor

