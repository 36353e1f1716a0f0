/-
  What see comes to: its walk.
-/
import Derived.Test.YtmlfekbmbnfkjabGreatDoorR22
import Derived.Test.YtmlfekbmbnfkjabGreatDoorProg
import Derived.WalkKit
import Derived.Laws.Bits64b
import Derived.Lib.AppendStr
import Derived.Laws.BytesArg
import Derived.Laws.IdiomStrings
import Derived.Test.YtmlfekbmbnfkjabGreatDoorR01
import Derived.Test.YtmlfekbmbnfkjabGreatDoorR03
import Derived.Test.YtmlfekbmbnfkjabGreatDoorR02
namespace Go.Proofs.YtmlfekbmbnfkjabGreatDoor
set_option maxRecDepth 100000
open Go.RowKit
open Go.ChangeMaps (setBlock)

/-- Behind end and Put: the key's block in hand, the space but for it as it shall be. -/
structure InH (g : Nat) (Y Y' : Lay) (w w' : World) (s : St) (key : Key) (h : Nat) (B : Nat) (e : Ev) : Prop where
  sp : SpK Y' w' g s (some key)
  hd : ∃ m1 m2, Hand Y' w' key h m1 m2 (ofKeyE key s.L) (ofKeyD key s.DL)
  tm : Tm g Y Y' w w'
  ev : LiesE w' B e
  fr : Free Y' g B
theorem Hand.below {Y : Lay} {w w' : World} {key : Key} {h : Nat} {m1 m2 : Option Nat} {L : List Ev} {DL : List Ed} (k : Hand Y w key h m1 m2 L DL) (hb : Below w.heap.size w w') : Hand Y w' key h m1 m2 L DL :=
  ⟨k.ho.below hb (Nat.le_refl _), k.oh, k.o1, k.o2, k.mem⟩
theorem InH.drew {g : Nat} {Y Y' : Lay} {w w' : World} {s : St} {key : Key} {h : Nat} {B : Nat} {e : Ev} (k : InH g Y Y' w w' s key h B e) : InH g Y Y' w w'.drew s key h B e := by
  have hb : Below w'.heap.size w' w'.drew := (Below.refl _ w').drew
  obtain ⟨m1, m2, hd⟩ := k.hd
  exact ⟨k.sp.below hb (Nat.le_refl _), ⟨m1, m2, hd.below hb⟩, k.tm.trans (Tm.of_below _ hb), k.ev, k.fr⟩
theorem SpK.len_le {Y : Lay} {w : World} {g : Nat} {s : St} {x : Option Key} (_h : SpK Y w g s x) (hl : s.L.length ≤ 1048576) (key : Key) : (ofKeyE key s.L).length ≤ 1048576 := Nat.le_trans (List.length_filter_le _ _) hl

set_option maxHeartbeats 2000000 in
theorem see_any (Y : Lay) (w : World) (g : Nat) (s : St) (e : Ev) (hS : SpK Y w g s none) (hI : Inv s) (hr : Rdy s e) (hl : s.L.length ≤ 1048576) :
    Calls Tryz.prog 20 #[.pointer (some ⟨g, 0, none⟩), .agg (evc e)] w fun ex w' => ex = .returned (.tuple #[]) ∧ ∃ Y', SpK Y' w' g (seeE s e) none ∧ Tm g Y Y' w w' := by
  have he16 := hr.wide.1
  have hb0 : Below w.heap.size w (w.alloc (.cells (evc e) 47)) := (Below.refl _ w).alloc (Nat.le_refl _) _
  have hE0 := liesE_new w e
  have hF0 := hS.free
  have hS0 := hS.below hb0 (Nat.le_refl _)
  have T0 : Hid (Tm g Y Y w (w.alloc (.cells (evc e) 47))) := Tm.of_below Y hb0
  have hBl : w.heap.size < (w.alloc (.cells (evc e) 47)).heap.size := by simp
  generalize hW0 : w.alloc (.cells (evc e) 47) = W0 at *
  obtain ⟨B, hB⟩ : ∃ B, w.heap.size = B := ⟨_, rfl⟩
  rw [hB] at hE0 hF0 hBl
  have hOf := sof_any Y W0 g s e.key hS0
  have c20 := hE0.c20
  obtain ⟨hk1, hk2, hk3, hk4, hk5, hk6⟩ := keys1 (e := e) hI
  have HK1 : Hid _ := hk1
  have HK2 : Hid _ := hk2
  have HK3 : Hid _ := hk3
  have HK4 : Hid _ := hk4
  have HK5 : Hid _ := hk5
  have HK6 : Hid _ := hk6
  have HW1 : Hid _ := wide1 (e := e) hS.wl hS.wd
  have HI : Hid _ := hI
  have HR : Hid _ := hr
  obtain ⟨rn, hrn⟩ : ∃ rn : Nat, e.r = (rn : Int) := ⟨e.r.toNat, by have := hr.r0; omega⟩
  have hrn16 : rn < 16 := by have := hr.r1; omega
  have HRN : Hid (e.r.toNat = rn) := by show _ = _; omega
  clear hk1 hk2 hk3 hk4 hk5 hk6 hI hr hS hb0 hS0
  go_enter Tryz.func20, Tryz.ntmps20
  go_wp2_with fail
  refine Calls.mono hOf ?_
  rintro ex w1 ⟨hb, Y1, m1, m2, rfl, hS1, hd1, ht1⟩
  have hE1 := ht1.ev hE0 hF0
  have hF1 := ht1.free hBl hF0
  have hBl1 := Nat.lt_of_lt_of_le hBl ht1.size
  have hEn := hend_any e HR.out.wide hb m1 m2 _ _ w1 hd1.ho (hS1.len_le hl e.key)
  have HS1 : Hid _ := hS1
  have HD1 : Hid _ := hd1
  have HT1 : Hid (Tm g Y Y1 w w1) := T0.out.trans ht1
  clear hOf hE0 c20 hS1 hd1 ht1 T0 hF0
  go_wp2_with (first | refine load_ev rfl rfl rfl hE1 he16 ?_)
  refine Calls.mono hEn ?_
  rintro ex w2 ⟨rfl, m2', hH2, hto2⟩
  obtain ⟨hS2, hd2, ht2⟩ := HS1.out.step HD1.out hto2 hH2
  have hE2 := ht2.ev hE1 hF1
  have hF2 := ht2.free hBl1 hF1
  have hBl2 := Nat.lt_of_lt_of_le hBl1 ht2.size
  have hS2' := hS2.swap (s' := stA s e) rfl rfl HK1.out HK2.out HK3.out HK4.out HW1.out.1 HW1.out.2
  rw [← HK5.out, ← HK6.out] at hd2
  have HI2 : Hid (InH g Y (Y1.more e.key m1 m2') w w2 (stA s e) e.key hb B e) := ⟨hS2', ⟨_, _, hd2⟩, HT1.out.trans ht2, hE2, hF2⟩
  have hAd := adds_any e.kind w2
  have hkc := hE2.c19
  clear hEn hE1 hF1 hBl1 HS1 HD1 HT1 hS2 hS2' hd2 ht2 hH2 hto2 hF2
  generalize Y1.more e.key m1 m2' = Y2 at *
  go_wp2_with fail
  refine Calls.mono hAd ?_
  rintro ex w3 ⟨rfl, hw3⟩
  obtain rfl := hw3.symm
  clear hAd hkc
  go_upto_if 16 with fail
  go_cut [0, 3, 4] from 16 (fun v0 v3 v4 wr => v0 = .pointer (some ⟨g, 0, none⟩) ∧ v3 = .pointer (some ⟨B, 0, none⟩) ∧ v4 = .pointer (some ⟨hb, 0, none⟩) ∧ ∃ Y3, InH g Y Y3 w wr (stB s e) e.key hb B e)
  case first =>
    cases ha : addsE e.kind
    · go_wp2
      go_meet
      case rel => exact ⟨rfl, rfl, rfl, Y2, by rw [s2_none ha]; exact HI2.out⟩
    · have hI3 := HI2.out.drew
      obtain ⟨n1, n2, hd3⟩ := hI3.hd
      have hHs : LiesE w2.drew B e := hI3.ev
      have hP := E.put_any hb 0 #[.map n1, .map n2] 86 n1 _ (eit e) w2.drew hd3.ho.live
      have HP : Hid (Calls Tryz.prog 37 #[.pointer (some ⟨hb, 0, none⟩), .agg (dotc e.r e.n), .agg (evc e)] w2.drew fun ex w' => ex = .returned (.tuple #[]) ∧ LiesE w' B e ∧ ∃ Y3, InH g Y Y3 w w' (stB s e) e.key hb B e) := by
        rw [← evX_c he16]
        refine hP.mono ?_
        rintro ex w' ⟨rfl, m1', hB', ht'⟩
        obtain ⟨hH', hto'⟩ := hd3.ho.putL HR.out.wide hB' ht'
        obtain ⟨hS', hd', htm'⟩ := hI3.sp.step hd3 hto' hH'
        obtain ⟨q1, q2, q3⟩ := keys2 HI.out HR.out ha
        have hsw := hS'.swap (s' := stB s e) rfl rfl q1 (fun _ _ => rfl) q2 HK4.out (fun a ham => by
          unfold stB at ham
          simp only [ha, if_true] at ham
          rcases mem_putE ham with rfl | h1
          · exact HR.out.wide
          · exact HW1.out.1 a h1) HW1.out.2
        rw [← q3] at hd'
        exact ⟨rfl, htm'.ev hI3.ev hI3.fr, _, hsw, ⟨_, _, hd'⟩, hI3.tm.trans htm', htm'.ev hI3.ev hI3.fr, htm'.free hI3.ev.lt hI3.fr⟩
      clear hP hd3 hI3 HI2 hE2
      go_wp2_with fail
      refine wp_region_noPanic ?_
      refine wp_region_held_drew (S := fun W' : World => LiesE W' B e) (by kernel_rfl) hHs (fun hHeld => ?_)
      refine wpAnyH_take (i := 0) (oi := { dst := some 17, op := _, type := _, pos := _, after := _, guard := _ }) (v := .pointer (some ⟨hb, 0, none⟩)) rfl (by kernel_rfl) (by kernel_rfl) (by kernel_rfl) (fun _ _ _ h => h) (Or.inl ⟨by rfl, ?_⟩) (by assumption) ?_
      · intro w9 hSw
        exact y_move rfl rfl
      simp only [Act.put, List.setIfInBounds_toArray, List.set_cons_zero, List.set_cons_succ]
      refine wpAnyH_take (i := 1) (oi := { dst := some 18, op := _, type := _, pos := _, after := _, guard := _ }) (v := .pointer (some ⟨hb, 0, none⟩)) rfl (by kernel_rfl) (by kernel_rfl) (by kernel_rfl) (fun _ _ _ h => h) (Or.inl ⟨by rfl, ?_⟩) (by assumption) ?_
      · intro w9 hSw
        exact y_nil rfl rfl
      simp only [Act.put, List.setIfInBounds_toArray, List.set_cons_zero, List.set_cons_succ]
      refine wpAnyH_take (i := 2) (oi := { dst := some 19, op := _, type := _, pos := _, after := _, guard := _ }) (v := .pointer (some ⟨hb, 0, none⟩)) rfl (by kernel_rfl) (by kernel_rfl) (by kernel_rfl) (fun _ _ _ h => h) (Or.inl ⟨by rfl, ?_⟩) (by assumption) ?_
      · intro w9 hSw
        exact y_field rfl rfl (field_h0 _ _)
      simp only [Act.put, List.setIfInBounds_toArray, List.set_cons_zero, List.set_cons_succ]
      refine wpAnyH_take (i := 3) (oi := { dst := some 20, op := _, type := _, pos := _, after := _, guard := _ }) (v := .pointer (some ⟨B, 0, none⟩)) rfl (by kernel_rfl) (by kernel_rfl) (by kernel_rfl) (fun _ _ _ h => h) (Or.inl ⟨by rfl, ?_⟩) (by assumption) ?_
      · intro w9 hSw
        exact y_field rfl rfl (field_ev0 _ _)
      simp only [Act.put, List.setIfInBounds_toArray, List.set_cons_zero, List.set_cons_succ]
      refine wpAnyH_take (i := 4) (oi := { dst := some 21, op := _, type := _, pos := _, after := _, guard := _ }) (v := .agg (dotc e.r e.n)) rfl (by kernel_rfl) (by kernel_rfl) (by kernel_rfl) (fun _ _ _ h => h) (Or.inl ⟨by rfl, ?_⟩) (by assumption) ?_
      · intro w9 hSw
        exact y_load rfl rfl hSw.dotAt
      simp only [Act.put, List.setIfInBounds_toArray, List.set_cons_zero, List.set_cons_succ]
      refine wpAnyH_take (i := 5) (oi := { dst := some 22, op := _, type := _, pos := _, after := _, guard := _ }) (v := .agg (evc e)) rfl (by kernel_rfl) (by kernel_rfl) (by kernel_rfl) (fun _ _ _ h => h) (Or.inl ⟨by rfl, ?_⟩) (by assumption) ?_
      · intro w9 hSw
        exact y_load rfl rfl (load_evx hSw he16)
      simp only [Act.put, List.setIfInBounds_toArray, List.set_cons_zero, List.set_cons_succ]
      clear hHeld
      refine wpAnyH_ready (rs := [6]) (by kernel_rfl) (by simp) ?_
      refine AllReadyH.cons (o := { dst := some 23, op := _, type := _, pos := _, after := _, guard := _ }) rfl (fun K hK => ?_) AllReadyH.nil
      rw [if_pos (by rfl)]
      refine y_call (f := 37) (xs := [.tmp 19, .tmp 21, .tmp 22]) (vs := [.pointer (some ⟨hb, 0, none⟩), .agg (dotc e.r e.n), .agg (evc e)]) rfl rfl (enters_pute _ _) HP.out ?_
      rintro ex w5 ⟨rfl, hE5, hFIN⟩
      refine ⟨_, rfl, ?_⟩
      have FIN : Hid (∃ Y3, InH g Y Y3 w w5 (stB s e) e.key hb B e) := hFIN
      clear hFIN
      refine hK.out _ _ hE5 (fun hHeld => ?_)
      clear hK K
      simp only [Act.put, List.setIfInBounds_toArray, List.set_cons_zero, List.set_cons_succ]
      refine wpAnyH_done (by kernel_rfl) ?_ _
      refine NoPanic.normal ?_
      clear hHeld
      go_wp2
      go_meet
      case rel => exact ⟨rfl, rfl, rfl, FIN.out⟩
  case rest =>
    obtain ⟨rfl, rfl, rfl, Y3, hI3⟩ := hcut
    clear HI2 hE2 hBl2
    obtain ⟨n1, n2, hd3⟩ := hI3.hd
    have hE3 := hI3.ev
    have c20 := hE3.c20
    have hKe := keep_any Y3 wc g (stB s e) e.key hb n1 n2 hI3.sp hd3
    have HT3 : Hid _ := hI3.tm
    have HF3 : Hid _ := hI3.fr
    clear hI3 hd3
    go_wp2_with fail
    refine Calls.mono hKe ?_
    rintro ex w4 ⟨rfl, Y4, hS4, ht4⟩
    have hE4 := ht4.ev hE3 HF3.out
    have hF4 := ht4.free hE3.lt HF3.out
    have HT4 : Hid (Tm g Y Y4 w w4) := HT3.out.trans ht4
    clear hKe c20 hE3 HT3 HF3 ht4
    obtain ⟨hS5, ht5⟩ := hS4.seenTo (W := w4.drew) rfl rfl rfl rfl hrn16 e.n
    have hE5 := ht5.ev hE4 hF4
    have hF5 := ht5.free hE4.lt hF4
    have hcs : w4.drew.cell? ⟨g, rn, none⟩ = (spc (stB s e) Y4.km)[rn]? := hS4.cell rn
    obtain ⟨u0, hu0⟩ : ∃ u0, w4.drew.cell? ⟨g, rn, none⟩ = some u0 := by
      refine ⟨_, hcs.trans (Array.getElem?_eq_getElem ?_)⟩
      have := hS4.len
      simp [spc, this]
      omega
    have hst6 := store_int e.n hu0 (hS4.fz rn)
    have hHs : LiesE w4.drew B e := hE4
    obtain ⟨W5, hW5⟩ : ∃ W5, w4.drew.setCell ⟨g, rn, none⟩ (.int .i64 e.n) = W5 := ⟨_, rfl⟩
    rw [hW5] at hS5 ht5 hE5 hst6
    have HT5 : Hid (Tm g Y Y4 w W5) := HT4.out.trans ht5
    have HS5 : Hid _ := hS5
    have hx5 : LiesE W5 B e := hE5
    clear hS4 ht5 hcs hu0 HT4 hF4
    go_wp2_with fail
    refine wp_region_noPanic ?_
    refine wp_region_held_drew (S := fun W' : World => LiesE W' B e) (by kernel_rfl) hHs (fun hHeld => ?_)
    refine wpAnyH_take (i := 0) (oi := { dst := some 30, op := _, type := _, pos := _, after := _, guard := _ }) (v := .pointer (some ⟨g, 0, none⟩)) rfl (by kernel_rfl) (by kernel_rfl) (by kernel_rfl) (fun _ _ _ h => h) (Or.inl ⟨by rfl, ?_⟩) (by assumption) ?_
    · intro w9 hSw
      exact y_move rfl rfl
    simp only [Act.put, List.setIfInBounds_toArray, List.set_cons_zero, List.set_cons_succ]
    refine wpAnyH_take (i := 1) (oi := { dst := some 31, op := _, type := _, pos := _, after := _, guard := _ }) (v := .pointer (some ⟨B, 0, none⟩)) rfl (by kernel_rfl) (by kernel_rfl) (by kernel_rfl) (fun _ _ _ h => h) (Or.inl ⟨by rfl, ?_⟩) (by assumption) ?_
    · intro w9 hSw
      exact y_field rfl rfl (field_ev0 _ _)
    simp only [Act.put, List.setIfInBounds_toArray, List.set_cons_zero, List.set_cons_succ]
    refine wpAnyH_take (i := 2) (oi := { dst := some 32, op := _, type := _, pos := _, after := _, guard := _ }) (v := .pointer (some ⟨B, 0, none⟩)) rfl (by kernel_rfl) (by kernel_rfl) (by kernel_rfl) (fun _ _ _ h => h) (Or.inl ⟨by rfl, ?_⟩) (by assumption) ?_
    · intro w9 hSw
      exact y_field rfl rfl (field_d0 _ _)
    simp only [Act.put, List.setIfInBounds_toArray, List.set_cons_zero, List.set_cons_succ]
    refine wpAnyH_take (i := 3) (oi := { dst := some 33, op := _, type := _, pos := _, after := _, guard := _ }) (v := .int .i64 (rn : Int)) rfl (by kernel_rfl) (by kernel_rfl) (by kernel_rfl) (fun _ _ _ h => h) (Or.inl ⟨by rfl, ?_⟩) (by assumption) ?_
    · intro w9 hSw
      exact y_load rfl rfl (load_int (hrn ▸ hSw.c0))
    simp only [Act.put, List.setIfInBounds_toArray, List.set_cons_zero, List.set_cons_succ]
    refine wpAnyH_take (i := 4) (oi := { dst := some 34, op := _, type := _, pos := _, after := _, guard := _ }) (v := .pointer (some ⟨B, 0, none⟩)) rfl (by kernel_rfl) (by kernel_rfl) (by kernel_rfl) (fun _ _ _ h => h) (Or.inl ⟨by rfl, ?_⟩) (by assumption) ?_
    · intro w9 hSw
      exact y_field rfl rfl (field_ev0 _ _)
    simp only [Act.put, List.setIfInBounds_toArray, List.set_cons_zero, List.set_cons_succ]
    refine wpAnyH_take (i := 5) (oi := { dst := some 35, op := _, type := _, pos := _, after := _, guard := _ }) (v := .pointer (some ⟨B, 1, none⟩)) rfl (by kernel_rfl) (by kernel_rfl) (by kernel_rfl) (fun _ _ _ h => h) (Or.inl ⟨by rfl, ?_⟩) (by assumption) ?_
    · intro w9 hSw
      exact y_field rfl rfl (field_d1 _ _)
    simp only [Act.put, List.setIfInBounds_toArray, List.set_cons_zero, List.set_cons_succ]
    refine wpAnyH_take (i := 6) (oi := { dst := some 36, op := _, type := _, pos := _, after := _, guard := _ }) (v := .int .i64 e.n) rfl (by kernel_rfl) (by kernel_rfl) (by kernel_rfl) (fun _ _ _ h => h) (Or.inl ⟨by rfl, ?_⟩) (by assumption) ?_
    · intro w9 hSw
      exact y_load rfl rfl (load_int hSw.c1)
    simp only [Act.put, List.setIfInBounds_toArray, List.set_cons_zero, List.set_cons_succ]
    refine wpAnyH_take (i := 7) (oi := { dst := some 37, op := _, type := _, pos := _, after := _, guard := _ }) (v := .pointer (some ⟨g, 0, none⟩)) rfl (by kernel_rfl) (by kernel_rfl) (by kernel_rfl) (fun _ _ _ h => h) (Or.inl ⟨by rfl, ?_⟩) (by assumption) ?_
    · intro w9 hSw
      exact y_nil rfl rfl
    simp only [Act.put, List.setIfInBounds_toArray, List.set_cons_zero, List.set_cons_succ]
    refine wpAnyH_take (i := 8) (oi := { dst := some 38, op := _, type := _, pos := _, after := _, guard := _ }) (v := .pointer (some ⟨g, 0, none⟩)) rfl (by kernel_rfl) (by kernel_rfl) (by kernel_rfl) (fun _ _ _ h => h) (Or.inl ⟨by rfl, ?_⟩) (by assumption) ?_
    · intro w9 hSw
      exact y_field rfl rfl (field_s0 _ _)
    simp only [Act.put, List.setIfInBounds_toArray, List.set_cons_zero, List.set_cons_succ]
    refine wpAnyH_take (i := 9) (oi := { dst := some 39, op := _, type := _, pos := _, after := _, guard := _ }) (v := .pointer (some ⟨g, rn, none⟩)) rfl (by kernel_rfl) (by kernel_rfl) (by kernel_rfl) (fun _ _ _ h => h) (Or.inl ⟨by rfl, ?_⟩) (by assumption) ?_
    · intro w9 hSw
      exact y_index rfl rfl rfl (by have := index_vv w9 g 0 rn hrn16; rwa [Nat.zero_add] at this)
    simp only [Act.put, List.setIfInBounds_toArray, List.set_cons_zero, List.set_cons_succ]
    clear hHeld
    refine wpAnyH_ready (rs := [10]) (by kernel_rfl) (by simp) ?_
    refine AllReadyH.cons (o := { dst := none, op := _, type := _, pos := _, after := _, guard := _ }) rfl (fun K hK => ?_) AllReadyH.nil
    rw [if_pos (by rfl)]
    refine y_store (ty := 3) (x := .tmp 39) (y := .tmp 36) (ad := ⟨g, rn, none⟩) (v := .int .i64 e.n) (w' := W5) rfl rfl rfl hst6 ?_
    refine hK.out _ _ hx5 (fun hHeld => ?_)
    clear hK K
    simp only [Act.put]
    refine wpAnyH_done (by kernel_rfl) ?_ _
    refine NoPanic.normal ?_
    clear hHeld
    clear hE4 hst6 hHs hW5
    obtain ⟨hS7, ht7⟩ := HS5.out.timeTo (W := W5.drew) rfl rfl rfl rfl (max s.time e.t)
    have hE7 := ht7.ev hE5 hF5
    have hst7 := store_int (max s.time e.t) (w := W5.drew) HS5.out.c16 (HS5.out.fz 16)
    have hHs : LiesE W5.drew B e ∧ W5.drew.cell? ⟨g, 16, none⟩ = some (.int .i64 s.time) := ⟨hE5, HS5.out.c16⟩
    obtain ⟨W7, hW7⟩ : ∃ W7, W5.drew.setCell ⟨g, 16, none⟩ (.int .i64 (max s.time e.t)) = W7 := ⟨_, rfl⟩
    rw [hW7] at hS7 ht7 hE7 hst7
    have FIN : Hid (∃ Y', SpK Y' W7 g (seeE s e) none ∧ Tm g Y Y' w W7) := ⟨Y4, by
      have e1 : seeE s e = { ({ stB s e with seen := s.seen.set rn e.n } : St) with time := max s.time e.t } := by
        unfold seeE stB
        rw [HRN.out]
      rw [e1]
      exact hS7, HT5.out.trans ht7⟩
    clear hS7 ht7 HS5 HT5 hE5 hF5 hx5
    go_wp2_with fail
    refine wp_region_noPanic ?_
    refine wp_region_held_drew (S := fun W' : World => LiesE W' B e) (by kernel_rfl) hHs.1 (fun hHeld => ?_)
    refine wpAnyH_take (i := 0) (oi := { dst := some 40, op := _, type := _, pos := _, after := _, guard := _ }) (v := .pointer (some ⟨g, 0, none⟩)) rfl (by kernel_rfl) (by kernel_rfl) (by kernel_rfl) (fun _ _ _ h => h) (Or.inl ⟨by rfl, ?_⟩) (by assumption) ?_
    · intro w9 hSw
      exact y_move rfl rfl
    simp only [Act.put, List.setIfInBounds_toArray, List.set_cons_zero, List.set_cons_succ]
    refine wpAnyH_take (i := 1) (oi := { dst := some 41, op := _, type := _, pos := _, after := _, guard := _ }) (v := .pointer (some ⟨g, 0, none⟩)) rfl (by kernel_rfl) (by kernel_rfl) (by kernel_rfl) (fun _ _ _ h => h) (Or.inl ⟨by rfl, ?_⟩) (by assumption) ?_
    · intro w9 hSw
      exact y_move rfl rfl
    simp only [Act.put, List.setIfInBounds_toArray, List.set_cons_zero, List.set_cons_succ]
    refine wpAnyH_take (i := 2) (oi := { dst := some 42, op := _, type := _, pos := _, after := _, guard := _ }) (v := .pointer (some ⟨g, 0, none⟩)) rfl (by kernel_rfl) (by kernel_rfl) (by kernel_rfl) (fun _ _ _ h => h) (Or.inl ⟨by rfl, ?_⟩) (by assumption) ?_
    · intro w9 hSw
      exact y_nil rfl rfl
    simp only [Act.put, List.setIfInBounds_toArray, List.set_cons_zero, List.set_cons_succ]
    refine wpAnyH_take (i := 3) (oi := { dst := some 43, op := _, type := _, pos := _, after := _, guard := _ }) (v := .pointer (some ⟨g, 16, none⟩)) rfl (by kernel_rfl) (by kernel_rfl) (by kernel_rfl) (fun _ _ _ h => h) (Or.inl ⟨by rfl, ?_⟩) (by assumption) ?_
    · intro w9 hSw
      exact y_field rfl rfl (field_s1 _ _)
    simp only [Act.put, List.setIfInBounds_toArray, List.set_cons_zero, List.set_cons_succ]
    refine wpAnyH_take (i := 5) (oi := { dst := some 45, op := _, type := _, pos := _, after := _, guard := _ }) (v := .pointer (some ⟨B, 2, none⟩)) rfl (by kernel_rfl) (by kernel_rfl) (by kernel_rfl) (fun _ _ _ h => h) (Or.inl ⟨by rfl, ?_⟩) (by assumption) ?_
    · intro w9 hSw
      exact y_field rfl rfl (field_ev1 _ _)
    simp only [Act.put, List.setIfInBounds_toArray, List.set_cons_zero, List.set_cons_succ]
    refine wpAnyH_take (i := 6) (oi := { dst := some 46, op := _, type := _, pos := _, after := _, guard := _ }) (v := .int .i64 e.t) rfl (by kernel_rfl) (by kernel_rfl) (by kernel_rfl) (fun _ _ _ h => h) (Or.inl ⟨by rfl, ?_⟩) (by assumption) ?_
    · intro w9 hSw
      exact y_load rfl rfl (load_int hSw.c2)
    simp only [Act.put, List.setIfInBounds_toArray, List.set_cons_zero, List.set_cons_succ]
    clear hHeld
    refine wpAnyH_ready (rs := [4]) (by kernel_rfl) (by simp) ?_
    refine AllReadyH.cons (o := { dst := some 44, op := _, type := _, pos := _, after := _, guard := _ }) rfl (fun K hK => ?_) AllReadyH.nil
    rw [if_pos (by rfl)]
    refine y_ex (y_load (ty := 3) (ad := ⟨g, 16, none⟩) rfl rfl (load_int hHs.2)) ?_
    refine hK.out _ _ hHs.1 (fun hHeld => ?_)
    clear hK K
    simp only [Act.put, List.setIfInBounds_toArray, List.set_cons_zero, List.set_cons_succ]
    refine wpAnyH_take (i := 7) (oi := { dst := some 47, op := _, type := _, pos := _, after := _, guard := _ }) (v := .int .i64 (max s.time e.t)) rfl (by kernel_rfl) (by kernel_rfl) (by kernel_rfl) (fun _ _ _ h => h) (Or.inl ⟨by rfl, ?_⟩) (by assumption) ?_
    · intro w9 hSw
      exact y_max rfl rfl rfl
    simp only [Act.put, List.setIfInBounds_toArray, List.set_cons_zero, List.set_cons_succ]
    refine wpAnyH_take (i := 8) (oi := { dst := some 48, op := _, type := _, pos := _, after := _, guard := _ }) (v := .pointer (some ⟨g, 0, none⟩)) rfl (by kernel_rfl) (by kernel_rfl) (by kernel_rfl) (fun _ _ _ h => h) (Or.inl ⟨by rfl, ?_⟩) (by assumption) ?_
    · intro w9 hSw
      exact y_nil rfl rfl
    simp only [Act.put, List.setIfInBounds_toArray, List.set_cons_zero, List.set_cons_succ]
    refine wpAnyH_take (i := 9) (oi := { dst := some 49, op := _, type := _, pos := _, after := _, guard := _ }) (v := .pointer (some ⟨g, 16, none⟩)) rfl (by kernel_rfl) (by kernel_rfl) (by kernel_rfl) (fun _ _ _ h => h) (Or.inl ⟨by rfl, ?_⟩) (by assumption) ?_
    · intro w9 hSw
      exact y_field rfl rfl (field_s1 _ _)
    simp only [Act.put, List.setIfInBounds_toArray, List.set_cons_zero, List.set_cons_succ]
    clear hHeld
    refine wpAnyH_ready (rs := [10]) (by kernel_rfl) (by simp) ?_
    refine AllReadyH.cons (o := { dst := none, op := _, type := _, pos := _, after := _, guard := _ }) rfl (fun K hK => ?_) AllReadyH.nil
    rw [if_pos (by rfl)]
    refine y_store (ty := 3) (x := .tmp 49) (y := .tmp 47) (ad := ⟨g, 16, none⟩) (v := .int .i64 (max s.time e.t)) (w' := W7) rfl rfl rfl hst7 ?_
    refine hK.out _ _ hE7 (fun hHeld => ?_)
    clear hK K
    simp only [Act.put]
    refine wpAnyH_done (by kernel_rfl) ?_ _
    refine NoPanic.normal ?_
    clear hHeld
    go_wp2
    go_end0
    exact ⟨rfl, FIN.out⟩
end Go.Proofs.YtmlfekbmbnfkjabGreatDoor

/-
  Plain facts on numbers and their bytes (groups of seven bits, the highest first), without any program: a number's width, its bytes, that the bytes tell the number, that no other bytes do, and how they stand to one another. No condition but 'below 2^64' where it is written.
-/
namespace Go.Proofs.YtmlfekbmbnfkjabGreatDoor.Vq
set_option maxRecDepth 100000

/-- How many groups a number takes. -/
def wdF : Nat → Nat → Nat
  | 0, _ => 1
  | f + 1, n => if n < 128 then 1 else wdF f (n / 128) + 1
def wd (n : Nat) : Nat := wdF 9 n

/-- The k groups of n above its lowest ones, each with 128 added, the highest first. -/
def hi : Nat → Nat → List UInt8
  | 0, _ => []
  | k + 1, n => hi k (n / 128) ++ [UInt8.ofNat (128 + n % 128)]
/-- A number's bytes. -/
def num (n : Nat) : List UInt8 := hi (wd n - 1) (n / 128) ++ [UInt8.ofNat (n % 128)]

/-- The number that bytes tell. -/
def val (l : List UInt8) : Nat := l.foldl (fun a c => a * 128 + c.toNat % 128) 0
/-- Bytes that are one number's: all but the last one are 128 or more, the last one is below, the first one isn't 128. -/
def Whole (l : List UInt8) : Prop := ∃ i c, l = i ++ [c] ∧ (∀ x ∈ i, 128 ≤ x.toNat) ∧ c.toNat < 128 ∧ l.head? ≠ some 128

end Go.Proofs.YtmlfekbmbnfkjabGreatDoor.Vq

/-
  What vlq.width comes to: a number's count of groups.
-/
namespace Go.Proofs.YtmlfekbmbnfkjabGreatDoor
set_option maxRecDepth 100000
open Go.RowKit

end Go.Proofs.YtmlfekbmbnfkjabGreatDoor

/-
  What vlq.groups comes to: a new list that holds just a number's bytes; nothing that was there has turned.
-/
namespace Go.Proofs.YtmlfekbmbnfkjabGreatDoor
set_option maxRecDepth 100000
open Go.RowKit

/-- Bytes as they lie in memory. -/
def bs (l : List UInt8) : List Value := l.map (fun c => Value.int .u8 (c.toNat : Int))
theorem bs_length (l : List UInt8) : (bs l).length = l.length := by simp [bs]
end Go.Proofs.YtmlfekbmbnfkjabGreatDoor

/-
  What vlq.Put comes to: a new list that holds the bytes that were there and a number's bytes behind; nothing that was there has turned. Asked: that the bytes are fewer than 2^47.
-/
namespace Go.Proofs.YtmlfekbmbnfkjabGreatDoor
set_option maxRecDepth 100000
open Go.RowKit

/-- A list of bytes as a call may be handed it: nil, or an address where they lie. -/
structure Bytes (w : World) (ao : Option Addr) (m c : Nat) (l : List UInt8) : Prop where
  len : l.length = m
  room : m ≤ c
  none : ao = none → m = 0 ∧ c = 0
  cells : ∀ ad, ao = some ad → ∀ j u, (bs l)[j]? = some u → w.cell? (ad.add j) = some u

theorem Bytes.below {w w' : World} {ao : Option Addr} {m c : Nat} {l : List UInt8} {B : Nat} (h : Bytes w ao m c l) (hb : Below B w w') (hB : w.heap.size ≤ B) : Bytes w' ao m c l :=
  ⟨h.len, h.room, h.none, fun ad had j u hu => by
    have hc := h.cells ad had j u hu
    have hlt := World.block_lt_of_cell? w _ hc
    rw [hb.cell (Nat.lt_of_lt_of_le hlt hB)]
    exact hc⟩

theorem Bytes.nil (w : World) : Bytes w .none 0 0 [] := ⟨rfl, Nat.le_refl _, fun _ => ⟨rfl, rfl⟩, fun _ h => by cases h⟩

theorem Bytes.own {w : World} {base g n cap : Nat} {l : List UInt8} (h : w.ownsRow base 5 1 (.slice (some ⟨g, 0, .none⟩) n cap) n (bs l)) : Bytes w (some ⟨g, 0, .none⟩) n cap l :=
  ⟨by have := h.1; rw [bs_length] at this; omega,
   by rcases h.2 with ⟨h', _⟩ | ⟨g', cap', cur, h', _, _, hn, _⟩
      · cases h'
      · simp only [Value.slice.injEq] at h'; omega,
   (fun h => by cases h),
   fun ad had j u hu => by
    obtain rfl := Option.some.inj had
    exact h.cells rfl j u hu⟩

end Go.Proofs.YtmlfekbmbnfkjabGreatDoor

/-
  What vlq.span and vlq.join come to: where the first number's bytes end, and which number bytes tell. They read alone.
-/
namespace Go.Proofs.YtmlfekbmbnfkjabGreatDoor
set_option maxRecDepth 100000
open Go.RowKit

/-- Where bytes lie: nowhere, since there are none; or at an address. -/
theorem Bytes.norm {w : World} {ao : Option Addr} {m c : Nat} {l : List UInt8} (h : Bytes w ao m c l) :
    (m = 0 ∧ l = []) ∨ ∃ b off, ao = some ⟨b, off, .none⟩ ∧ 0 < m ∧ ∀ j, j < m → w.cell? ⟨b, off + j, .none⟩ = some (.int .u8 ((l.getD j 0).toNat : Int)) := by
  by_cases h0 : m = 0
  · exact .inl ⟨h0, List.eq_nil_of_length_eq_zero (h.len.trans h0)⟩
  · right
    cases ao with
    | none => exact absurd (h.none rfl).1 h0
    | some ad =>
      obtain ⟨b, off, spot⟩ := ad
      have hg : ∀ j, j < m → w.cell? ((⟨b, off, spot⟩ : Addr).add j) = some (.int .u8 ((l.getD j 0).toNat : Int)) := by
        intro j hj
        refine h.cells _ rfl j _ ?_
        have hj' : j < l.length := by rw [h.len]; exact hj
        simp [bs, hj']
      have hspot : spot = .none := by simpa [Addr.add] using World.cell?_spot (hg 0 (by omega))
      subst hspot
      exact ⟨b, off, rfl, by omega, fun j hj => by have := hg j hj; rwa [Addr.add_lit] at this⟩

end Go.Proofs.YtmlfekbmbnfkjabGreatDoor

/-
  What vlq.Take comes to. It reads alone.
-/
namespace Go.Proofs.YtmlfekbmbnfkjabGreatDoor
set_option maxRecDepth 100000
open Go.RowKit

theorem Bytes.drop {w : World} {ao : Option Addr} {m c : Nat} {l : List UInt8} (h : Bytes w ao m c l) (a : Nat) (ha : a ≤ m) :
    Bytes w (Option.map (fun x => x.add a) ao) (m - a) (c - a) (l.drop a) :=
  ⟨by rw [List.length_drop, h.len], by have := h.room; omega,
   (fun hn => by
    cases ao with
    | none => have := h.none rfl; omega
    | some ad => cases hn),
   fun ad had j u hu => by
    cases ao with
    | none => cases had
    | some x =>
      obtain rfl := Option.some.inj had
      rw [bs, List.map_drop, List.getElem?_drop] at hu
      have := h.cells x rfl (a + j) u hu
      rwa [Addr.add_add]⟩

theorem Bytes.take {w : World} {ao : Option Addr} {m c : Nat} {l : List UInt8} (h : Bytes w ao m c l) (k : Nat) (hk : k ≤ m) : Bytes w ao k c (l.take k) :=
  ⟨by rw [List.length_take, h.len]; omega, by have := h.room; omega, (fun hn => by have := h.none hn; omega),
   fun ad had j u hu => by
    refine h.cells ad had j u ?_
    rw [bs, List.map_take, List.getElem?_take] at hu
    split at hu
    · exact hu
    · cases hu⟩

end Go.Proofs.YtmlfekbmbnfkjabGreatDoor

/-
  More of what calls come to: a text behind bytes, PutInt, and what Take tells where a number's bytes stand, whole or cut off. Asked: that the bytes are fewer than 2^47.
-/
namespace Go.Proofs.YtmlfekbmbnfkjabGreatDoor
set_option maxRecDepth 100000
open Go.RowKit

end Go.Proofs.YtmlfekbmbnfkjabGreatDoor

/-
  What vlq.TakeInt comes to where a number's bytes stand.
-/
namespace Go.Proofs.YtmlfekbmbnfkjabGreatDoor
set_option maxRecDepth 100000
open Go.RowKit

/-- The number with a sign that one without goes for. -/
def zag (u : Nat) : Int := if u % 2 = 1 then -1 - ((u / 2 : Nat) : Int) else ((u / 2 : Nat) : Int)
end Go.Proofs.YtmlfekbmbnfkjabGreatDoor

/-
  What Take, TakeInt and TakeText come to, as plain functions of the bytes that are left: the number or text, how many bytes it takes, the error's number (0: none). Bytes that are taken are just those of what is told.
-/
namespace Go.Proofs.YtmlfekbmbnfkjabGreatDoor
set_option maxRecDepth 100000
open Go.RowKit

/-- Where the first byte below 128 stands. -/
def fl : List UInt8 → Option Nat
  | [] => none
  | c :: l => if c.toNat < 128 then some 0 else (fl l).map (· + 1)
/-- Take's error, its number, and how many bytes it takes. -/
def tkE (d : List UInt8) : Int :=
  match fl d with
  | none => 2
  | some p => if (d.take (p + 1)).head? = some 128 then 3 else if Vq.val (d.take (p + 1)) < 18446744073709551616 then 0 else 4
def tkV (d : List UInt8) : Nat := if tkE d = 0 then Vq.val (d.take ((fl d).getD 0 + 1)) else 0
def tkW (d : List UInt8) : Nat := if tkE d = 0 then (fl d).getD 0 + 1 else 0

end Go.Proofs.YtmlfekbmbnfkjabGreatDoor

/-
  What TakeText comes to, as a plain function of the bytes that are left.
-/
namespace Go.Proofs.YtmlfekbmbnfkjabGreatDoor
set_option maxRecDepth 100000
open Go.RowKit

/-- TakeText's error, its text, and how many bytes it takes: of at most mo bytes. -/
def txE (mo : Nat) (d : List UInt8) : Int := if tkE d ≠ 0 then tkE d else if mo < tkV d then 4 else if (d.drop (tkW d)).length < tkV d then 2 else 0
def txS (mo : Nat) (d : List UInt8) : List UInt8 := if txE mo d = 0 then (d.drop (tkW d)).take (tkV d) else []
def txW (mo : Nat) (d : List UInt8) : Nat := if txE mo d = 0 then tkW d + tkV d else 0

end Go.Proofs.YtmlfekbmbnfkjabGreatDoor

/-
  Events as plain data: which fields a kind uses, an event's bytes, and a reader that reads from the left up to the first error. What is read without an error is just the event's bytes; and an event's bytes are read as it.
-/
namespace Go.Proofs.YtmlfekbmbnfkjabGreatDoor
set_option maxRecDepth 100000
open Go.RowKit

/-- What a kind uses. -/
def usesF (k : Int) : Bool := decide (3 ≤ k ∧ k ≤ 8)
def usesV (k : Int) : Bool := decide (k = 1 ∨ k = 5 ∨ k = 9)
def usesN (k : Int) : Bool := decide (k = 2 ∨ k = 7)
def usesR (k : Int) : Bool := decide (k = 9 ∨ k = 10)

/-- Numbers and texts as bytes. -/
def nm (x : Int) : List UInt8 := Vq.num x.toNat
def tm (s : List UInt8) : List UInt8 := Vq.num s.length ++ s
/-- A number that bytes without a sign may tell. -/
def Nn (x : Int) : Prop := 0 ≤ x ∧ x ≤ 4611686018427387904
def I64 (x : Int) : Prop := -9223372036854775808 ≤ x ∧ x ≤ 9223372036854775807

/-- What an event's bytes can hold; what isn't used is zero. -/
structure Fits (e : Ev) : Prop where
  r : Nn e.r
  n : Nn e.n
  t : Nn e.t
  len : e.deps.length = 16
  deps : ∀ x ∈ e.deps, Nn x
  kind : 1 ≤ e.kind ∧ e.kind ≤ 11
  key : e.key.length ≤ 64
  field : e.field.length ≤ 64 ∧ (usesF e.kind = false → e.field = [])
  value : e.value.length ≤ 64 ∧ (usesV e.kind = false → e.value = [])
  num : I64 e.num ∧ (usesN e.kind = false → e.num = 0)
  ref : Nn e.rr ∧ Nn e.rn ∧ (usesR e.kind = false → e.rr = 0 ∧ e.rn = 0)

/-- A reader: what is left, the first error. -/
structure Rd where
  d : List UInt8
  e : Int

def nmE (d : List UInt8) : Int := if tkE d ≠ 0 then tkE d else if 4611686018427387904 < tkV d then 3 else 0
def rdN (s : Rd) : Int × Rd := if s.e ≠ 0 then (0, s) else if nmE s.d ≠ 0 then (0, ⟨s.d, nmE s.d⟩) else ((tkV s.d : Nat), ⟨s.d.drop (tkW s.d), 0⟩)
def rdI (s : Rd) : Int × Rd := if s.e ≠ 0 then (0, s) else if tkE s.d ≠ 0 then (0, ⟨s.d, tkE s.d⟩) else (zag (tkV s.d), ⟨s.d.drop (tkW s.d), 0⟩)
def rdT (s : Rd) : List UInt8 × Rd := if s.e ≠ 0 then ([], s) else if txE 64 s.d ≠ 0 then ([], ⟨s.d, txE 64 s.d⟩) else (txS 64 s.d, ⟨s.d.drop (txW 64 s.d), 0⟩)
def rdNs : Nat → Rd → List Int × Rd
  | 0, s => ([], s)
  | k + 1, s => ((rdN s).1 :: (rdNs k (rdN s).2).1, (rdNs k (rdN s).2).2)

/-- What is read only where it is used. -/
def whenT (c : Bool) (s : Rd) : List UInt8 × Rd := if c then rdT s else ([], s)
def whenI (c : Bool) (s : Rd) : Int × Rd := if c then rdI s else (0, s)
def whenN (c : Bool) (s : Rd) : Int × Rd := if c then rdN s else (0, s)
/-- A kind that is none is an error. -/
def known (k : Int) (s : Rd) : Rd := if s.e = 0 ∧ (k < 1 ∨ 11 < k) then ⟨s.d, 3⟩ else s

/-- The reader's ways through an event, one behind the other. -/
def s1 (l : List UInt8) : Int × Rd := rdN ⟨l, 0⟩
def s2 (l : List UInt8) : Int × Rd := rdN (s1 l).2
def s3 (l : List UInt8) : Int × Rd := rdN (s2 l).2
def s4 (l : List UInt8) : List Int × Rd := rdNs 16 (s3 l).2
def s5 (l : List UInt8) : Int × Rd := ((rdN (s4 l).2).1, known (rdN (s4 l).2).1 (rdN (s4 l).2).2)
def s6 (l : List UInt8) : List UInt8 × Rd := rdT (s5 l).2
def s7 (l : List UInt8) : List UInt8 × Rd := whenT (usesF (s5 l).1) (s6 l).2
def s8 (l : List UInt8) : List UInt8 × Rd := whenT (usesV (s5 l).1) (s7 l).2
def s9 (l : List UInt8) : Int × Rd := whenI (usesN (s5 l).1) (s8 l).2
def s10 (l : List UInt8) : Int × Rd := whenN (usesR (s5 l).1) (s9 l).2
def s11 (l : List UInt8) : Int × Rd := whenN (usesR (s5 l).1) (s10 l).2
end Go.Proofs.YtmlfekbmbnfkjabGreatDoor

/-
  What a kind uses, whether it is one, whether it adds; whether a number may be: the program's answers and the reference's.
-/
namespace Go.Proofs.YtmlfekbmbnfkjabGreatDoor
set_option maxRecDepth 100000
open Go.RowKit

def iskindE (k : Int) : Bool := decide (1 ≤ k ∧ k ≤ 11)
def numE (n : Int) : Bool := decide (-1099511627776 ≤ n ∧ n ≤ 1099511627776)

section
variable (k : Int) (w : World)
set_option maxHeartbeats 400000 in
theorem usesfield_any : Calls Tryz.prog 92 #[.int .i64 k] w fun e w' => e = .returned (.bool (usesF k)) ∧ w' = w := by
  go_enter Tryz.func92, Tryz.ntmps92
  go_wp2
  all_goals
    go_ret
    refine ⟨congrArg (fun b => Ending.returned (.bool b)) (?_ : _ = usesF k), rfl⟩
    simp only [beq_iff_eq, beq_eq_false_iff_ne, ne_eq] at *
    unfold usesF
    first
    | exact (decide_eq_true (by omega)).symm
    | exact (decide_eq_false (by omega)).symm
set_option maxHeartbeats 400000 in
theorem usesvalue_any : Calls Tryz.prog 93 #[.int .i64 k] w fun e w' => e = .returned (.bool (usesV k)) ∧ w' = w := by
  go_enter Tryz.func93, Tryz.ntmps93
  go_wp2
  all_goals
    go_ret
    refine ⟨congrArg (fun b => Ending.returned (.bool b)) (?_ : _ = usesV k), rfl⟩
    simp only [beq_iff_eq, beq_eq_false_iff_ne, ne_eq] at *
    unfold usesV
    first
    | exact (decide_eq_true (by omega)).symm
    | exact (decide_eq_false (by omega)).symm
set_option maxHeartbeats 400000 in
theorem usesnum_any : Calls Tryz.prog 94 #[.int .i64 k] w fun e w' => e = .returned (.bool (usesN k)) ∧ w' = w := by
  go_enter Tryz.func94, Tryz.ntmps94
  go_wp2
  all_goals
    go_ret
    refine ⟨congrArg (fun b => Ending.returned (.bool b)) (?_ : _ = usesN k), rfl⟩
    simp only [beq_iff_eq, beq_eq_false_iff_ne, ne_eq] at *
    unfold usesN
    first
    | exact (decide_eq_true (by omega)).symm
    | exact (decide_eq_false (by omega)).symm
set_option maxHeartbeats 400000 in
theorem usesref_any : Calls Tryz.prog 95 #[.int .i64 k] w fun e w' => e = .returned (.bool (usesR k)) ∧ w' = w := by
  go_enter Tryz.func95, Tryz.ntmps95
  go_wp2
  all_goals
    go_ret
    refine ⟨congrArg (fun b => Ending.returned (.bool b)) (?_ : _ = usesR k), rfl⟩
    simp only [beq_iff_eq, beq_eq_false_iff_ne, ne_eq] at *
    unfold usesR
    first
    | exact (decide_eq_true (by omega)).symm
    | exact (decide_eq_false (by omega)).symm
set_option maxHeartbeats 400000 in
theorem iskind_any : Calls Tryz.prog 46 #[.int .i64 k] w fun e w' => e = .returned (.bool (iskindE k)) ∧ w' = w := by
  by_cases h0 : 1 ≤ k
  · by_cases h1 : k ≤ 11
    · rw [show iskindE k = true from decide_eq_true ⟨h0, h1⟩]
      go_enter Tryz.func46, Tryz.ntmps46
      go_wp2
      go_ret
      exact ⟨by simp, rfl⟩
    · rw [show iskindE k = false from decide_eq_false (by omega)]
      go_enter Tryz.func46, Tryz.ntmps46
      go_wp2
      go_ret
      exact ⟨by simp, rfl⟩
  · rw [show iskindE k = false from decide_eq_false (by omega)]
    go_enter Tryz.func46, Tryz.ntmps46
    go_wp2
    go_ret
    exact ⟨rfl, rfl⟩
set_option maxHeartbeats 400000 in
theorem rightnum_any : Calls Tryz.prog 48 #[.int .i64 k] w fun e w' => e = .returned (.bool (numE k)) ∧ w' = w := by
  by_cases h0 : -1099511627776 ≤ k
  · by_cases h1 : k ≤ 1099511627776
    · rw [show numE k = true from decide_eq_true ⟨h0, h1⟩]
      go_enter Tryz.func48, Tryz.ntmps48
      go_wp2
      go_ret
      exact ⟨by simp, rfl⟩
    · rw [show numE k = false from decide_eq_false (by omega)]
      go_enter Tryz.func48, Tryz.ntmps48
      go_wp2
      go_ret
      exact ⟨by simp, rfl⟩
  · rw [show numE k = false from decide_eq_false (by omega)]
    go_enter Tryz.func48, Tryz.ntmps48
    go_wp2
    go_ret
    exact ⟨rfl, rfl⟩
end

end Go.Proofs.YtmlfekbmbnfkjabGreatDoor

