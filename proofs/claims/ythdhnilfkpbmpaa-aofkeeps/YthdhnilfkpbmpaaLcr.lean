/-
  AofCrashes, walked.
-/
import Derived.Test.YthdhnilfkpbmpaaLgn
namespace Go.Proofs.Ythdhnilfkpbmpaa
set_option maxRecDepth 100000
set_option linter.unusedVariables false
open Go.RowKit

theorem rd_take {l : List UInt8} {b : Bool} {s : List UInt8} {E : List Ev} {n : Nat} (h : rd l = ⟨b, s, E, n⟩) : Fine b s E ∧ l.take n = file b s E ∧ n = (file b s E).length := by
  obtain ⟨b', s', E', h1, h2, h3, h4⟩ := rd_bytes l
  rw [h] at h1
  simp only [St.mk.injEq] at h1
  obtain ⟨rfl, rfl, rfl, rfl⟩ := h1
  exact ⟨h2, h4, rfl⟩
/-- What Open finds behind a crash. -/
theorem found {b : Bool} {s : List UInt8} {E : List Ev} {k : Nat} (h : Fine b s E) (hk : k ≤ E.length) (x y z : Int) :
    ∃ i, k ≤ i ∧ i ≤ E.length ∧ rd (Dk.crash (file b s E) (file b s (E.take k)).length x y z) = ⟨b, s, E.take i, (file b s (E.take i)).length⟩ ∧
      (Dk.crash (file b s E) (file b s (E.take k)).length x y z).take (file b s (E.take i)).length = file b s (E.take i) := by
  obtain ⟨j, hj⟩ := rd_crash (b := b) (s := s) (E := E.take k) (F := E.drop k) (by rw [List.take_append_drop]; exact h) x y z
  rw [List.take_append_drop] at hj
  have e1 : E.take k ++ (E.drop k).take j = E.take (min (k + j) E.length) := by
    rw [← List.take_add]
    by_cases hc : k + j ≤ E.length
    · rw [Nat.min_eq_left hc]
    · rw [Nat.min_eq_right (by omega), List.take_of_length_le (by omega), List.take_length]
  rw [e1] at hj
  exact ⟨min (k + j) E.length, by omega, by omega, hj, (rd_take hj).2.1⟩
theorem Evs.take {w : World} {ao : Option Addr} {m c : Nat} {E : List Ev} (h : Evs w ao m c E) {i : Nat} (hi : i ≤ m) : Evs w ao i c (E.take i) := by
  have hl := h.len
  have hr := h.room
  refine ⟨by rw [List.length_take]; omega, by omega, h.top, fun e => ⟨by have := (h.zero e).1; omega, (h.zero e).2⟩, fun ad ha j u hu => ?_, fun e he => h.wide e (List.mem_of_mem_take he)⟩
  refine h.cells ad ha j u ?_
  have e1 : evs E = evs (E.take i) ++ evs (E.drop i) := by rw [← evs_append, List.take_append_drop]
  rw [e1, List.getElem?_append_left ((List.getElem?_eq_some_iff.1 hu).1)]
  exact hu
/-- A row that shares nothing with a log and its disk. -/
theorem row_off' {w w' : World} {B base g gd : Nat} {v vE vd vE' vd' : Value} {L : List Ev} {b : Bool} {s : List UInt8} {E : List Ev} {k : Nat} {l : List UInt8} {f r : Nat} (h : Row w B v L) (hb : Both w base g gd vE vd b s E k l f r) (hg : g < B) (hgd : gd < B) (hE : ∀ j, vE.ownBlock = some j → j < B) (hD : ∀ j, vd.ownBlock = some j → j < B) (hm : Mv g gd vE vd vE' vd' w w') : Row w' B v L :=
  own_same h (fun j hj => by
    have h1 := h.lt j hj
    exact hm.block j h1.2 (by omega) (by omega) (fun e => by have := hE j e; omega) (fun e => by have := hD j e; omega))

theorem row_offs {w : World} {B g gd m c : Nat} {ao : Option Addr} {vE vd : Value} {L : List Ev} (h : Row w B (.slice ao m c) L) (hg : g < B) (hgd : gd < B) (hE : ∀ j, vE.ownBlock = some j → j < B) (hD : ∀ j, vd.ownBlock = some j → j < B) : Off ao m g gd vE vd w := fun _ ad ha => by
  have h1 := h.lt ad.block (by rw [ha]; rfl)
  exact ⟨h1.2, by omega, by omega, fun e => by have := hE _ e; omega, fun e => by have := hD _ e; omega⟩
set_option maxHeartbeats 8000000 in
theorem crashes_walk (a : Option Addr) (m c : Nat) (O : Nat → Cl) (x y z : Int) (ev : Ev) (w : World) (hO : IsCls w a m O) (hev : Wide ev) :
    Calls Try.prog 3 #[.slice a m c, .int .i64 x, .int .i64 y, .int .i64 z, .agg (evc ev)] w fun e w' => e = .returned (.bool true) ∧ Below w.heap.size w w' := by
  obtain ⟨hX, hb0⟩ := boxedE w ev
  have hO0 := hO.below hb0 (Nat.le_refl _)
  have hl16 := hev.1
  clear hO
  go_enter Try.func3, Try.ntmps3
  go_wp2_with fail
  refine (awake_any _).mono ?_
  rintro e w1 ⟨rfl, hb1⟩
  have hO1 := hO0.below hb1 (Nat.le_refl _)
  have hX1 := hX.below hb1 hX.lt
  have B1 : Hid (Below w.heap.size w w1) := hb0.trans (hb1.mono hb0.size)
  clear hO0 hX hb0 hb1
  go_wp2_with fail
  refine (few_any _ _ _ _ _ hO1).mono ?_
  rintro e w2 ⟨hw2, hcase⟩
  obtain rfl := hw2.symm
  rcases hcase with ⟨rfl, hfew⟩ | rfl
  rotate_left
  · go_wp2_with fail
    refine (awake_any _).mono ?_
    rintro e w3 ⟨rfl, hb3⟩
    go_wp2
    go_ret
    exact ⟨rfl, B1.out.trans (hb3.mono B1.out.size)⟩
  have hm100 := hfew.1
  go_wp2_with fail
  refine (kept_begun _).mono ?_
  rintro e w3 ⟨g, gd, vE, vd, rfl, hK, hb3⟩
  go_wp2_with fail
  go_loopw [42] (fun i wr => ∃ (k : Nat) (vE vd : Value) (b : Bool) (t : List UInt8) (E : List Ev) (f : Nat), k ≤ m ∧ i = .int .i64 (k : Int) ∧ Kept wr w1.heap.size g gd vE vd b t E f ∧ Below w1.heap.size w1 wr) (fun i _ => m - (intOf i).toNat)
  case atStart => exact ⟨0, vE, vd, _, _, _, _, Nat.zero_le _, rfl, hK, hb3⟩
  case round =>
    obtain ⟨k, vE, vd, b, t, E, f, hk, rfl, hK, hB⟩ := hrel
    by_cases hkm : k < m
    · have hOr := hO1.below hB (Nat.le_refl _)
      rcases hOr.2 with h0 | ⟨bo, off, rfl, hbo, hall⟩
      · omega
      obtain ⟨hr, hcl⟩ := hall k hkm
      obtain ⟨hsF, hlF⟩ := hfew.2 k hkm
      have hwe := hcl.e
      have hwe16 := hwe.1
      obtain ⟨o, ho⟩ : ∃ o, O k = o := ⟨_, rfl⟩
      rw [ho] at hr hcl hsF hlF hwe hwe16
      have hz := liesC_new wr Cl.none
      have hC := hz.row o
      have hbb : Below wr.heap.size wr ((wr.alloc (.cells (clc Cl.none) 39)).setRow wr.heap.size (clc o)) := below_setRow ((Below.refl _ _).alloc (Nat.le_refl _) _) (Nat.le_refl _) _
      have hK2 := hK.below hbb (Nat.le_refl _)
      have hcl2 := hcl.below hbb (Nat.le_refl _)
      have HBb : Hid (Below w1.heap.size w1 ((wr.alloc (.cells (clc Cl.none) 39)).setRow wr.heap.size (clc o))) := hB.trans (hbb.mono hB.size)
      have hcl0 := (hO1.2.resolve_left (by omega))
      have hnw := none_wide
      obtain ⟨b1, off1, hoa, hbo1, hall1⟩ := hcl0
      have hc1 := (hall1 k hkm).2
      rw [ho] at hc1
      have hoff := off_of hc1.L hK2 (Nat.le_refl _) HBb.out.size
      rw [none_cells] at hz hC hK2 hcl2 HBb hoff
      clear hOr hall hall1 hcl hK hB hc1 hbb ho hoa
      go_upto_region 10 with (first | refine load_cl rfl rfl rfl hr hwe ?_ | refine store_cl (c := o) (c' := Cl.none) rfl rfl rfl rfl hz hwe hnw ?_)
      clear hz hr
      generalize ((wr.alloc (.cells #[.int .i64 0, .int .i64 0, .int .i64 0, .int .i64 0, .int .i64 0, .int .i64 0, .int .i64 0, .int .i64 0, .int .i64 0, .int .i64 0, .int .i64 0, .int .i64 0, .int .i64 0, .int .i64 0, .int .i64 0, .int .i64 0, .int .i64 0, .int .i64 0, .int .i64 0, .int .i64 0, .int .i64 0, .int .i64 0, .int .i64 0, .int .i64 0, .string ⟨#[]⟩, .string ⟨#[]⟩, .string ⟨#[]⟩, .int .i64 0, .int .i64 0, .int .i64 0, .string ⟨#[]⟩, .slice none 0 0] 39)).setRow wr.heap.size (clc o)) = W at *
      have ck := hC.k
      by_cases hk1 : o.kind = 1
      · rw [hk1] at ck
        have re := hC.ev hwe
        have HA : Hid _ := hK2.add HBb.out.size o.e hwe
        clear hC
        go_wp2_with (refine load_ev_mid rfl rfl rfl re hwe16 ?_)
        refine Calls.mono HA.out ?_
        rintro e w4 ⟨err, rfl, vE', vd', b', t', E', f', hK4, hM4⟩
        have HB4 : Hid (Below w1.heap.size w1 w4) := HBb.out.trans (hK2.both.moved hM4 HBb.out.size)
        clear HA ck re hK2 hM4 HBb
        go_wp2
        go_roundw
        case rel => exact ⟨k + 1, vE', vd', b', t', E', f', by omega, by go_num, hK4, HB4.out⟩
        case measure => simp [intOf]; omega
      · by_cases hk2 : o.kind = 2
        · rw [hk2] at ck
          have HA : Hid _ := hK2.sync
          clear hC
          go_wp2_with fail
          refine Calls.mono HA.out ?_
          rintro e w4 ⟨rfl, hK4, hM4⟩
          have HB4 : Hid (Below w1.heap.size w1 w4) := HBb.out.trans (hK2.both.moved hM4 HBb.out.size)
          clear HA ck hK2 hM4 HBb
          go_wp2
          go_roundw
          case rel => exact ⟨k + 1, vE, vd, b, t, E, _, by omega, by go_num, hK4, HB4.out⟩
          case measure => simp [intOf]; omega
        · by_cases hk3 : o.kind = 3
          · rw [hk3] at ck
            have cs := hC.s hwe
            have cl := hC.l hwe
            have HA : Hid _ := hK2.rewrite HBb.out.size o.s o.la o.lm o.lc o.L hcl2.L hoff hsF hlF
            clear hC
            go_wp2_with fail
            refine Calls.mono HA.out ?_
            rintro e w4 ⟨err, rfl, vE', vd', b', t', E', f', hK4, hM4⟩
            have HB4 : Hid (Below w1.heap.size w1 w4) := HBb.out.trans (hK2.both.moved hM4 HBb.out.size)
            clear HA ck cs cl hK2 hM4 HBb
            go_wp2
            go_roundw
            case rel => exact ⟨k + 1, vE', vd', b', t', E', f', by omega, by go_num, hK4, HB4.out⟩
            case measure => simp [intOf]; omega
          · have e1 : (o.kind == 1) = false := by simpa using hk1
            have e2 : (o.kind == 2) = false := by simpa using hk2
            have e3 : (o.kind == 3) = false := by simpa using hk3
            clear hC
            generalize o.kind = kd at *
            go_wp2
            go_roundw
            case rel => exact ⟨k + 1, vE, vd, b, t, E, f, by omega, by go_num, hK2, HBb.out⟩
            case measure => simp [intOf]; omega
    · obtain rfl : k = m := by omega
      clear hO1 hfew
      have hfE := hK.both.log.fast
      have hfewE := hK.few
      obtain ⟨i, hi1, hi2, hrd, htk⟩ := found hK.fine hfE x y z
      have hfine := hK.fine
      go_wp2_with fail
      refine (events_any _ _ _ _ _ _ _ _ _ _ _ (lorz_some g _) hK.both.log).mono ?_
      rintro e w4 ⟨v4, rfl, hr4, hb4⟩
      have hK4 := hK.below hb4 (Nat.le_refl _)
      have B4 := hB.trans (hb4.mono hB.size)
      have hglt := hK.both.log.lt
      have hdlt := hK.both.dsk.lt
      have hElt := fun j hj => (hK.both.log.own j hj).2.1
      have hDlt := fun j hj => (hK.both.dsk.own j hj).2.1
      clear hK hB hb4
      go_wp2_with fail
      refine (lfast_any _ _ _ _ _ _ _ _ _ _ _ (lorz_some g _) hK4.both.log).mono ?_
      rintro e w5 ⟨rfl, hw5⟩
      obtain rfl := hw5.symm
      go_wp2_with fail
      refine (snapshot_any _ _ _ _ _ _ _ _ _ _ _ (lorz_some g _) hK4.both.log).mono ?_
      rintro e w6 ⟨rfl, hb6⟩
      have hK6 := hK4.below hb6 (Nat.le_refl _)
      have hr6 := Row.below hr4 hb6 (Nat.le_refl _)
      have B6 := B4.trans (hb6.mono B4.size)
      clear hK4 hr4 hb6 B4
      have HC : Hid _ := crash_any (some ⟨gd, 0, none⟩) x y z _ gd _ _ _ _ w6 w6 (orz_some gd _) hK6.both.dsk (by
        have e1 : file b t E = file b t (E.take f) ++ Fr.frames ((E.drop f).map eb) := by rw [← file_app, List.take_append_drop]
        rw [e1, List.length_append]; omega)
      go_wp2_with fail
      refine Calls.mono HC.out ?_
      rintro e w7 ⟨rfl, vd7, hD7, hS7⟩
      have hr7 : Row w7 wr.heap.size v4 E := row_off' hr6 hK6.both hglt hdlt hElt hDlt (Mv.disk hS7)
      have B7 := B6.trans (hK6.both.dsk.stepBelow hS7 B6.size)
      have HOp : Hid _ := open_any hD7 B7.size
      have hall7 : ∀ j, v4.ownBlock = some j → wr.heap.size ≤ j ∧ j < w6.heap.size := fun j hj => ⟨(hr6.lt j hj).1, (hr6.lt j hj).2⟩
      have hD7 := hD7
      clear HC hr6
      go_wp2_with fail
      refine Calls.mono HOp.out ?_
      rintro e w8 ⟨gm, vm, vd8, rfl, hgm, hvm, hL8, hD8, hS8⟩
      rw [hrd] at hL8 hD8
      simp only [] at hL8 hD8
      rw [htk] at hD8
      have hr8 : Row w8 wr.heap.size v4 E := own_same hr7 (fun j hj => by
        have h1 := hall7 j hj
        refine hS8.block j (hr7.lt j hj).2 (by omega) (fun e => ?_)
        rcases hS7.own j e with h2 | h2
        · have := hDlt j h2; omega
        · omega)
      have B8 := B7.trans (hD7.stepBelow hS8 B7.size)
      have hi3 : (E.take i).length = i := by rw [List.length_take]; omega
      have hf1 : Fine b t (E.take i) := hfine.take i
      obtain ⟨E1, hE1⟩ : ∃ E1, E.take i = E1 := ⟨_, rfl⟩
      rw [hE1] at hL8 hD8 hi3 hf1
      rw [hi3] at hL8
      have hK8 : Kept w8 w1.heap.size gm gd vm vd8 b t E1 i := ⟨⟨hL8, by rw [List.take_of_length_le (by omega)]; exact hD8⟩, hf1⟩
      have hX8 := hX1.below B8 hX1.lt
      clear HOp hr7 hall7 hS8 hS7 hD7 hL8 hD8 B7 hK6 hvm hrd htk hElt hDlt hglt hdlt B6
      go_wp2_with fail
      refine (events_any _ _ _ _ _ _ _ _ _ _ _ (lorz_some gm _) hK8.both.log).mono ?_
      rintro e w9 ⟨v9, rfl, hr9, hb9⟩
      have hK9 := hK8.below hb9 (Nat.le_refl _)
      have hA9 := Row.below hr8 hb9 (Nat.le_refl _)
      have B9 := B8.trans (hb9.mono B8.size)
      have hglt := hK8.both.log.lt
      have hdlt := hK8.both.dsk.lt
      have hElt := fun j hj => (hK8.both.log.own j hj).2.1
      have hDlt := fun j hj => (hK8.both.dsk.own j hj).2.1
      have hb8w0 := hb9
      clear hK8 hr8 hb9 B8
      go_wp2_with fail
      refine (snapshot_any _ _ _ _ _ _ _ _ _ _ _ (lorz_some gm _) hK9.both.log).mono ?_
      rintro e w10 ⟨rfl, hb10⟩
      have hK10 := hK9.below hb10 (Nat.le_refl _)
      have hA10 := Row.below hA9 hb10 (Nat.le_refl _)
      have hr10 := Row.below hr9 hb10 (Nat.le_refl _)
      have B10 := B9.trans (hb10.mono B9.size)
      have hwE : ∀ e ∈ E, Wide e := fun e he => (hfine.good e he).wide
      have hwE1 : ∀ e ∈ E1, Wide e := fun e he => (hf1.good e he).wide
      obtain ⟨aA, cA, rfl, hEA⟩ := Row.evs hA10 hwE
      obtain ⟨aL, cL, rfl, hEL⟩ := Row.evs hr10 hwE1
      have hET := hEA.take hi2
      rw [hE1] at hET
      have hEL' : Evs w10 aL i cL E1 := by rw [← hi3]; exact hEL
      have hr10' : Row w10 w8.heap.size (.slice aL i cL) E1 := by have := hr10; rw [hi3] at this; exact this
      have hb8w : Below w8.heap.size w8 w10 := hb8w0.trans (hb10.mono hb8w0.size)
      have hcA := hEA.room
      have hcA2 := hEA.top
      unfold maxLen at hcA2
      have HS : Hid _ := same_yes aL aA i cL cA E1 w10 hEL' hET (by omega)
      obtain ⟨n, hn⟩ : ∃ n, E.length = n := ⟨_, rfl⟩
      rw [hn] at hi2 hcA hfE hfewE ⊢
      rw [hi3]
      clear hK9 hA9 hr9 hb10 B9 hEA hET hEL hA10 hwE hb8w0 hr10
      have hlt1 : ¬ (i : Int) < (f : Int) := by omega
      have hlt2 : ¬ (n : Int) < (i : Int) := by omega
      go_wp2_with fail
      refine Calls.mono HS.out ?_
      rintro e w11 ⟨rfl, hb11⟩
      have hK11 := hK10.below hb11 (Nat.le_refl _)
      have hr11 : Row w11 w8.heap.size (.slice aL i cL) E1 := Row.below hr10' hb11 (Nat.le_refl _)
      have hEL11 := hEL'.below hb11 (Nat.le_refl _)
      have B11 := B10.trans (hb11.mono B10.size)
      have hX11 := hX8.below (hb8w.trans (hb11.mono hb8w.size)) hX8.lt
      have hoff : Off aL i gm gd vm vd8 w11 := row_offs hr11 hglt hdlt hElt hDlt
      clear HS hK10 hb11 B10 hr10' hr11 hEL' hX8 hb8w
      go_wp2_with fail
      refine (lfast_any _ _ _ _ _ _ _ _ _ _ _ (lorz_some gm _) hK11.both.log).mono ?_
      rintro e w12 ⟨rfl, hw12⟩
      obtain rfl := hw12.symm
      have HA : Hid _ := add_any ev hK11.both B11.size hev hK11.few
      go_wp2_with (refine load_ev rfl rfl rfl hX11 hl16 ?_)
      refine Calls.mono HA.out ?_
      rintro e w12 (⟨err, herr, rfl, hB12, hM12⟩ | ⟨rfl, hgood, vE12, vd12, hB12, hM12⟩)
      · have HB : Hid (Below w.heap.size w w12) := B1.out.trans ((B11.trans (hK11.both.moved hM12 B11.size)).mono B1.out.size)
        have he1 : (err != 0) = true := by simpa using herr
        have he2 : (err == 0) = false := by simpa using herr
        clear HA hK11 hM12 hB12 hX11 hoff hEL11 B11
        go_wp2
        go_ret
        exact ⟨rfl, HB.out⟩
      have B12 := B11.trans (hK11.both.moved hM12 B11.size)
      have hX12 := hX1.below B12 hX1.lt
      have hEL12 := hEL11.mv hoff hM12
      have hoff12 := hoff.mv hM12
      have hK12 : Kept w12 w1.heap.size gm gd vE12 vd12 b t (E1 ++ [ev]) i := ⟨by
        rw [List.take_append_of_le_length (by omega), file_add]
        exact hB12, hf1.add hgood⟩
      clear HA hK11 hM12 hB12 hX11 hoff hEL11 B11
      go_wp2_with fail
      refine hK12.sync.mono ?_
      rintro e w13 ⟨rfl, hK13, hM13⟩
      have B13 := B12.trans (hK12.both.moved hM13 B12.size)
      have hEL13 := hEL12.mv hoff12 hM13
      have hoff13 := hoff12.mv hM13
      have HOp : Hid _ := open_any hK13.both.dsk B13.size
      clear hK12 hM13 hEL12 hoff12 B12 hX12
      go_wp2_with fail
      refine Calls.mono HOp.out ?_
      rintro e w14 ⟨gn, vn, vd14, rfl, hgn, hvn, hL14, hD14, hS14⟩
      rw [rd_file hK13.fine] at hL14
      simp only [] at hL14
      have hEL14 := hEL13.mv hoff13 (Mv.disk hS14)
      have B14 := B13.trans (hK13.both.dsk.stepBelow hS14 B13.size)
      have hX14 := hX1.below B14 hX1.lt
      have hwF : ∀ e ∈ E1 ++ [ev], Wide e := fun e he => (hK13.fine.good e he).wide
      have HB14 : Hid (Below w.heap.size w w14) := B1.out.trans (B14.mono B1.out.size)
      have hlF : (E1 ++ [ev]).length = i + 1 := by rw [List.length_append, hi3]; rfl
      clear HOp hEL13 hoff13 hS14 hK13 hD14 B13 hvn hgn
      go_upto_region 34 with (fail)
      rename_i KK hKK
      have hEnd : ∀ (A : Act) (W : World), A.defers = [] → A.eval (.tmp 10) = .bool true → Below w.heap.size w W → KK A W := fun A W h1 h2 h3 => by
        have hp : bodyPost Try.prog Try.f3 (fun e w' => e = .returned (.bool true) ∧ Below w.heap.size w w') .ret A W := bodyPost_ret (results_tmp (t := 10) rfl _ _ _) h1 ⟨congrArg Ending.returned h2, h3⟩
        refine hKK _ _ ?_
        go_wp2
        exact hp
      refine wp_region_noPanic ?_
      have sB0 : Below w14.heap.size w14 w14.drew := (Below.refl _ _).drew
      refine wp_region_held_drew (S := fun W' : World => Below w14.heap.size w14 W') (by kernel_rfl) sB0 (fun hHeld => ?_)
      refine wpAnyH_gen (n := 165) (L := [(9, .pointer (some ⟨w.heap.size, 0, none⟩)), (21, .slice aL i cL), (24, .pointer (some ⟨gn, 0, none⟩))]) ⟨rfl, rfl, rfl, rfl, rfl, trivial⟩ (fun A hs => ?_)
      refine wpAnyH_take (i := 0) (oi := { dst := some 156, op := _, type := _, pos := _, after := _, guard := _ }) (v := .pointer (some ⟨gn, 0, none⟩)) rfl (by kernel_rfl) (by kernel_rfl) (by kernel_rfl) (fun _ _ _ h => h) (Or.inl ⟨by rfl, ?_⟩) (by assumption) ?_
      · intro w9 hSw
        exact exec_move rfl (hs.get 2 rfl)
      refine wpAnyH_gen (hs.put 156 (.pointer (some ⟨gn, 0, none⟩)) (by decide) rfl) (fun A hs => ?_)
      refine wpAnyH_take (i := 3) (oi := { dst := some 159, op := _, type := _, pos := _, after := _, guard := _ }) (v := .slice aL i cL) rfl (by kernel_rfl) (by kernel_rfl) (by kernel_rfl) (fun _ _ _ h => h) (Or.inl ⟨by rfl, ?_⟩) (by assumption) ?_
      · intro w9 hSw
        exact exec_move rfl (hs.get 2 rfl)
      refine wpAnyH_gen (hs.put 159 (.slice aL i cL) (by decide) rfl) (fun A hs => ?_)
      refine wpAnyH_take (i := 5) (oi := { dst := some 161, op := _, type := _, pos := _, after := _, guard := _ }) (v := .agg (evc ev)) rfl (by kernel_rfl) (by kernel_rfl) (by kernel_rfl) (fun _ _ _ h => h) (Or.inl ⟨by rfl, ?_⟩) (by assumption) ?_
      · intro w9 hSw
        exact exec_load (ad := ⟨w.heap.size, 0, none⟩) rfl (hs.get 2 rfl) (load_whole (hX14.below hSw hX14.lt) hl16)
      refine wpAnyH_gen (hs.put 161 (.agg (evc ev)) (by decide) rfl) (fun A hs => ?_)
      clear hHeld
      generalize w14.drew = W0 at *
      refine wpAnyH_ready (rs := [1, 2, 6]) (by kernel_rfl) (by simp) ?_
      refine AllReadyH.cons (o := { dst := some 157, op := _, type := _, pos := _, after := _, guard := _ }) rfl (fun K hK => ?_) ?_
      · rw [if_pos (by rfl)]
        refine wp_callL (xs := [.tmp 156]) (vs := [.pointer (some ⟨gn, 0, none⟩)]) rfl (by rw [List.map_cons, List.map_nil, (hs.get 2 rfl)]) (enters_events _ _) (events_any _ _ _ _ _ _ _ _ _ _ _ (lorz_some gn _) (hL14.below sB0 (Nat.le_refl _))) ?_
        rintro e W1 ⟨vA, rfl, hq1, hb1⟩
        refine ⟨vA, rfl, ?_⟩
        have sB1 : Below w14.heap.size w14 W1 := sB0.trans (hb1.mono sB0.size)
        have hA1 : Row W1 w14.heap.size vA (E1 ++ [ev]) := Row.lower hq1 sB0.size
        clear hq1
        refine hK.out _ _ sB1 (fun _ => ?_)
        clear hK K
        refine wpAnyH_gen (hs.put 157 (vA) (by decide) rfl) (fun A hs => ?_)
        refine wpAnyH_ready (rs := [2, 6]) (by kernel_rfl) (by simp) ?_
        refine AllReadyH.cons (o := { dst := some 158, op := _, type := _, pos := _, after := _, guard := _ }) rfl (fun K hK => ?_) ?_
        · rw [if_pos (by rfl)]
          refine wp_build0 rfl (run_build0 _) ?_
          have hb2 : Below W1.heap.size W1 (W1.alloc (.cells #[] 30)) := (Below.refl _ _).alloc (Nat.le_refl _) _
          have hZ2 := row_empty W1 w14.heap.size sB1.size
          have d12 : vA.ownBlock ≠ some W1.heap.size := fun e => by have h1 := (hA1.lt _ e).2; omega
          generalize W1.alloc (.cells #[] 30) = W2 at *
          have sB2 : Below w14.heap.size w14 W2 := sB1.trans (hb2.mono sB1.size)
          have hA2 : Row W2 w14.heap.size vA (E1 ++ [ev]) := Row.below hA1 hb2 (Nat.le_refl _)
          refine hK.out _ _ sB2 (fun _ => ?_)
          clear hK K
          refine wpAnyH_gen (hs.put 158 (.slice (some ⟨W1.heap.size, 0, none⟩) 0 0) (by decide) rfl) (fun A hs => ?_)
          clear sB1 hA1
          refine wpAnyH_ready (rs := [4, 6]) (by kernel_rfl) (by simp) ?_
          refine AllReadyH.cons (o := { dst := some 160, op := _, type := _, pos := _, after := _, guard := _ }) rfl (fun K hK => ?_) ?_
          · rw [if_pos (by rfl)]
            obtain ⟨vL, W3, hr3, h2, h3, h4⟩ := run_appE (w := W2) 37 w14.heap.size _ [] hZ2 aL i cL E1 (hEL14.below sB2 (Nat.le_refl _)) (by simp only [List.length_nil]; omega) sB2.size
            refine wp_app1 rfl (hs.get 0 rfl) (hs.get 3 rfl) hr3 ?_
            have sB3 : Below w14.heap.size w14 W3 := sB2.grown h3 sB2.size (fun j hj => (hZ2.lt j hj).1)
            have hL3 : Row W3 w14.heap.size vL E1 := h2
            have hA3 : Row W3 w14.heap.size vA (E1 ++ [ev]) := own_same hA2 (fun j hj => h3.block j (hA2.lt j hj).2 (fun e => d12 (by rw [hj]; exact e)))
            have d14 : ∀ j, vA.ownBlock = some j → vL.ownBlock ≠ some j := fun j hj e => by
              rcases h4 j e with h5 | h5
              · exact d12 (by rw [hj]; exact h5.symm)
              · have := (hA2.lt j hj).2; omega
            clear h2 h3 h4 hr3 d12
            refine hK.out _ _ sB3 (fun _ => ?_)
            clear hK K
            refine wpAnyH_gen (hs.put 160 (vL) (by decide) rfl) (fun A hs => ?_)
            clear sB2 hA2 hZ2
            refine wpAnyH_ready (rs := [6]) (by kernel_rfl) (by simp) ?_
            refine AllReadyH.cons (o := { dst := some 162, op := _, type := _, pos := _, after := _, guard := _ }) rfl (fun K hK => ?_) AllReadyH.nil
            rw [if_pos (by rfl)]
            refine wp_buildS rfl (hs.get 3 rfl) (run_build1 _ ev hl16) ?_
            have hb4 : Below W3.heap.size W3 (W3.alloc (.cells (evc ev) 30)) := (Below.refl _ _).alloc (Nat.le_refl _) _
            have hU4 := liesE_new W3 ev
            generalize W3.alloc (.cells (evc ev) 30) = W4 at *
            have sB4 : Below w14.heap.size w14 W4 := sB3.trans (hb4.mono sB3.size)
            have hA4 : Row W4 w14.heap.size vA (E1 ++ [ev]) := Row.below hA3 hb4 (Nat.le_refl _)
            have hL4 : Row W4 w14.heap.size vL E1 := Row.below hL3 hb4 (Nat.le_refl _)
            refine hK.out _ _ sB4 (fun _ => ?_)
            clear hK K
            refine wpAnyH_gen (hs.put 162 (.slice (some ⟨W3.heap.size, 0, none⟩) 1 1) (by decide) rfl) (fun A hs => ?_)
            clear sB3 hA3 hL3
            refine wpAnyH_ready (rs := [7]) (by kernel_rfl) (by simp) ?_
            refine AllReadyH.cons (o := { dst := some 163, op := _, type := _, pos := _, after := _, guard := _ }) rfl (fun K hK => ?_) AllReadyH.nil
            rw [if_pos (by rfl)]
            obtain ⟨vF, W5, hr5, h2, h3, h4⟩ := run_appE (w := W4) 37 w14.heap.size _ E1 hL4 _ 1 1 [ev] (evs_single W4 _ ev hev hU4) (by omega) sB4.size
            refine wp_app1 rfl (hs.get 1 rfl) (hs.get 0 rfl) hr5 ?_
            have sB5 : Below w14.heap.size w14 W5 := sB4.grown h3 sB4.size (fun j hj => (hL4.lt j hj).1)
            have hF5 : Row W5 w14.heap.size vF (E1 ++ [ev]) := h2
            have hA5 : Row W5 w14.heap.size vA (E1 ++ [ev]) := own_same hA4 (fun j hj => h3.block j (hA4.lt j hj).2 (fun e => d14 j hj e.symm))
            clear h2 h3 h4 hr5 d14
            refine hK.out _ _ sB5 (fun _ => ?_)
            clear hK K
            refine wpAnyH_gen (hs.put 163 (vF) (by decide) rfl) (fun A hs => ?_)
            clear sB4 hA4 hU4 hL4
            refine wpAnyH_ready (rs := [8]) (by kernel_rfl) (by simp) ?_
            refine AllReadyH.cons (o := { dst := some 164, op := _, type := _, pos := _, after := _, guard := _ }) rfl (fun K hK => ?_) AllReadyH.nil
            rw [if_pos (by rfl)]
            obtain ⟨aa, ca, hva, hEa⟩ := Row.evs hA5 hwF
            obtain ⟨af, cf, hvf, hEf⟩ := Row.evs hF5 hwF
            refine wp_callL (xs := [.tmp 157, .tmp 163]) (vs := [.slice aa _ ca, .slice af _ cf]) rfl (by rw [List.map_cons, List.map_cons, List.map_nil, (hs.get 4 rfl), (hs.get 0 rfl), hva, hvf]) (enters_same _ _) (same_yes aa af _ ca cf _ W5 hEa hEf (by omega)) ?_
            rintro e W6 ⟨rfl, hb6⟩
            refine ⟨.bool true, rfl, ?_⟩
            have sB6 : Below w14.heap.size w14 W6 := sB5.trans (hb6.mono sB5.size)
            refine hK.out _ _ sB6 (fun _ => ?_)
            clear hK K
            refine wpAnyH_gen (hs.put 164 (.bool true) (by decide) rfl) (fun A hs => ?_)
            clear sB5
            refine wpAnyH_take (i := 9) (oi := { dst := some 10, op := _, type := _, pos := _, after := _, guard := _ }) (v := .bool true) rfl (by kernel_rfl) (by kernel_rfl) (by kernel_rfl) (fun _ _ _ h => h) (Or.inl ⟨by rfl, ?_⟩) (by assumption) ?_
            · intro w9 hSw
              exact exec_assign rfl (hs.get 0 rfl)
            refine wpAnyH_gen (hs.put 10 (.bool true) (by decide) rfl) (fun A hs => ?_)
            refine wpAnyH_done (by kernel_rfl) ?_ _
            refine NoPanic.normal ?_
            exact hEnd _ _ hs.defers (hs.get 0 rfl) (HB14.out.trans (sB6.mono HB14.out.size))
          refine AllReadyH.cons (o := { dst := some 162, op := _, type := _, pos := _, after := _, guard := _ }) rfl (fun K hK => ?_) AllReadyH.nil
          rw [if_pos (by rfl)]
          refine wp_buildS rfl (hs.get 2 rfl) (run_build1 _ ev hl16) ?_
          have hb3 : Below W2.heap.size W2 (W2.alloc (.cells (evc ev) 30)) := (Below.refl _ _).alloc (Nat.le_refl _) _
          have hU3 := liesE_new W2 ev
          have d26 : W2.heap.size ≠ W1.heap.size := by have := (hZ2.lt (W1.heap.size) rfl).2; omega
          generalize W2.alloc (.cells (evc ev) 30) = W3 at *
          have sB3 : Below w14.heap.size w14 W3 := sB2.trans (hb3.mono sB2.size)
          have hA3 : Row W3 w14.heap.size vA (E1 ++ [ev]) := Row.below hA2 hb3 (Nat.le_refl _)
          have hZ3 : Row W3 w14.heap.size (.slice (some ⟨W1.heap.size, 0, none⟩) 0 0) [] := Row.below hZ2 hb3 (Nat.le_refl _)
          refine hK.out _ _ sB3 (fun _ => ?_)
          clear hK K
          refine wpAnyH_gen (hs.put 162 (.slice (some ⟨W2.heap.size, 0, none⟩) 1 1) (by decide) rfl) (fun A hs => ?_)
          clear sB2 hA2 hZ2
          refine wpAnyH_ready (rs := [4]) (by kernel_rfl) (by simp) ?_
          refine AllReadyH.cons (o := { dst := some 160, op := _, type := _, pos := _, after := _, guard := _ }) rfl (fun K hK => ?_) AllReadyH.nil
          rw [if_pos (by rfl)]
          obtain ⟨vL, W4, hr4, h2, h3, h4⟩ := run_appE (w := W3) 37 w14.heap.size _ [] hZ3 aL i cL E1 (hEL14.below sB3 (Nat.le_refl _)) (by simp only [List.length_nil]; omega) sB3.size
          refine wp_app1 rfl (hs.get 1 rfl) (hs.get 4 rfl) hr4 ?_
          have sB4 : Below w14.heap.size w14 W4 := sB3.grown h3 sB3.size (fun j hj => (hZ3.lt j hj).1)
          have hL4 : Row W4 w14.heap.size vL E1 := h2
          have hA4 : Row W4 w14.heap.size vA (E1 ++ [ev]) := own_same hA3 (fun j hj => h3.block j (hA3.lt j hj).2 (fun e => d12 (by rw [hj]; exact e)))
          have d14 : ∀ j, vA.ownBlock = some j → vL.ownBlock ≠ some j := fun j hj e => by
            rcases h4 j e with h5 | h5
            · exact d12 (by rw [hj]; exact h5.symm)
            · have := (hA3.lt j hj).2; omega
          have hU4 : LiesE W4 W2.heap.size ev := by rw [LiesE, h3.block _ hU3.lt (fun e => d26 (Option.some.inj e))]; exact hU3
          clear h2 h3 h4 hr4 d12
          refine hK.out _ _ sB4 (fun _ => ?_)
          clear hK K
          refine wpAnyH_gen (hs.put 160 (vL) (by decide) rfl) (fun A hs => ?_)
          clear sB3 hA3 hZ3 hU3
          refine wpAnyH_ready (rs := [7]) (by kernel_rfl) (by simp) ?_
          refine AllReadyH.cons (o := { dst := some 163, op := _, type := _, pos := _, after := _, guard := _ }) rfl (fun K hK => ?_) AllReadyH.nil
          rw [if_pos (by rfl)]
          obtain ⟨vF, W5, hr5, h2, h3, h4⟩ := run_appE (w := W4) 37 w14.heap.size _ E1 hL4 _ 1 1 [ev] (evs_single W4 _ ev hev hU4) (by omega) sB4.size
          refine wp_app1 rfl (hs.get 0 rfl) (hs.get 1 rfl) hr5 ?_
          have sB5 : Below w14.heap.size w14 W5 := sB4.grown h3 sB4.size (fun j hj => (hL4.lt j hj).1)
          have hF5 : Row W5 w14.heap.size vF (E1 ++ [ev]) := h2
          have hA5 : Row W5 w14.heap.size vA (E1 ++ [ev]) := own_same hA4 (fun j hj => h3.block j (hA4.lt j hj).2 (fun e => d14 j hj e.symm))
          clear h2 h3 h4 hr5 d14
          refine hK.out _ _ sB5 (fun _ => ?_)
          clear hK K
          refine wpAnyH_gen (hs.put 163 (vF) (by decide) rfl) (fun A hs => ?_)
          clear sB4 hA4 hU4 hL4
          refine wpAnyH_ready (rs := [8]) (by kernel_rfl) (by simp) ?_
          refine AllReadyH.cons (o := { dst := some 164, op := _, type := _, pos := _, after := _, guard := _ }) rfl (fun K hK => ?_) AllReadyH.nil
          rw [if_pos (by rfl)]
          obtain ⟨aa, ca, hva, hEa⟩ := Row.evs hA5 hwF
          obtain ⟨af, cf, hvf, hEf⟩ := Row.evs hF5 hwF
          refine wp_callL (xs := [.tmp 157, .tmp 163]) (vs := [.slice aa _ ca, .slice af _ cf]) rfl (by rw [List.map_cons, List.map_cons, List.map_nil, (hs.get 4 rfl), (hs.get 0 rfl), hva, hvf]) (enters_same _ _) (same_yes aa af _ ca cf _ W5 hEa hEf (by omega)) ?_
          rintro e W6 ⟨rfl, hb6⟩
          refine ⟨.bool true, rfl, ?_⟩
          have sB6 : Below w14.heap.size w14 W6 := sB5.trans (hb6.mono sB5.size)
          refine hK.out _ _ sB6 (fun _ => ?_)
          clear hK K
          refine wpAnyH_gen (hs.put 164 (.bool true) (by decide) rfl) (fun A hs => ?_)
          clear sB5
          refine wpAnyH_take (i := 9) (oi := { dst := some 10, op := _, type := _, pos := _, after := _, guard := _ }) (v := .bool true) rfl (by kernel_rfl) (by kernel_rfl) (by kernel_rfl) (fun _ _ _ h => h) (Or.inl ⟨by rfl, ?_⟩) (by assumption) ?_
          · intro w9 hSw
            exact exec_assign rfl (hs.get 0 rfl)
          refine wpAnyH_gen (hs.put 10 (.bool true) (by decide) rfl) (fun A hs => ?_)
          refine wpAnyH_done (by kernel_rfl) ?_ _
          refine NoPanic.normal ?_
          exact hEnd _ _ hs.defers (hs.get 0 rfl) (HB14.out.trans (sB6.mono HB14.out.size))
        refine AllReadyH.cons (o := { dst := some 162, op := _, type := _, pos := _, after := _, guard := _ }) rfl (fun K hK => ?_) AllReadyH.nil
        rw [if_pos (by rfl)]
        refine wp_buildS rfl (hs.get 1 rfl) (run_build1 _ ev hl16) ?_
        have hb2 : Below W1.heap.size W1 (W1.alloc (.cells (evc ev) 30)) := (Below.refl _ _).alloc (Nat.le_refl _) _
        have hU2 := liesE_new W1 ev
        generalize W1.alloc (.cells (evc ev) 30) = W2 at *
        have sB2 : Below w14.heap.size w14 W2 := sB1.trans (hb2.mono sB1.size)
        have hA2 : Row W2 w14.heap.size vA (E1 ++ [ev]) := Row.below hA1 hb2 (Nat.le_refl _)
        refine hK.out _ _ sB2 (fun _ => ?_)
        clear hK K
        refine wpAnyH_gen (hs.put 162 (.slice (some ⟨W1.heap.size, 0, none⟩) 1 1) (by decide) rfl) (fun A hs => ?_)
        clear sB1 hA1
        refine wpAnyH_ready (rs := [2]) (by kernel_rfl) (by simp) ?_
        refine AllReadyH.cons (o := { dst := some 158, op := _, type := _, pos := _, after := _, guard := _ }) rfl (fun K hK => ?_) AllReadyH.nil
        rw [if_pos (by rfl)]
        refine wp_build0 rfl (run_build0 _) ?_
        have hb3 : Below W2.heap.size W2 (W2.alloc (.cells #[] 30)) := (Below.refl _ _).alloc (Nat.le_refl _) _
        have hZ3 := row_empty W2 w14.heap.size sB2.size
        have d12 : vA.ownBlock ≠ some W2.heap.size := fun e => by have h1 := (hA2.lt _ e).2; omega
        have d26 : W1.heap.size ≠ W2.heap.size := by have := hU2.lt; omega
        generalize W2.alloc (.cells #[] 30) = W3 at *
        have sB3 : Below w14.heap.size w14 W3 := sB2.trans (hb3.mono sB2.size)
        have hA3 : Row W3 w14.heap.size vA (E1 ++ [ev]) := Row.below hA2 hb3 (Nat.le_refl _)
        have hU3 : LiesE W3 W1.heap.size ev := hU2.below hb3 hU2.lt
        refine hK.out _ _ sB3 (fun _ => ?_)
        clear hK K
        refine wpAnyH_gen (hs.put 158 (.slice (some ⟨W2.heap.size, 0, none⟩) 0 0) (by decide) rfl) (fun A hs => ?_)
        clear sB2 hA2 hU2
        refine wpAnyH_ready (rs := [4]) (by kernel_rfl) (by simp) ?_
        refine AllReadyH.cons (o := { dst := some 160, op := _, type := _, pos := _, after := _, guard := _ }) rfl (fun K hK => ?_) AllReadyH.nil
        rw [if_pos (by rfl)]
        obtain ⟨vL, W4, hr4, h2, h3, h4⟩ := run_appE (w := W3) 37 w14.heap.size _ [] hZ3 aL i cL E1 (hEL14.below sB3 (Nat.le_refl _)) (by simp only [List.length_nil]; omega) sB3.size
        refine wp_app1 rfl (hs.get 0 rfl) (hs.get 4 rfl) hr4 ?_
        have sB4 : Below w14.heap.size w14 W4 := sB3.grown h3 sB3.size (fun j hj => (hZ3.lt j hj).1)
        have hL4 : Row W4 w14.heap.size vL E1 := h2
        have hA4 : Row W4 w14.heap.size vA (E1 ++ [ev]) := own_same hA3 (fun j hj => h3.block j (hA3.lt j hj).2 (fun e => d12 (by rw [hj]; exact e)))
        have d14 : ∀ j, vA.ownBlock = some j → vL.ownBlock ≠ some j := fun j hj e => by
          rcases h4 j e with h5 | h5
          · exact d12 (by rw [hj]; exact h5.symm)
          · have := (hA3.lt j hj).2; omega
        have hU4 : LiesE W4 W1.heap.size ev := by rw [LiesE, h3.block _ hU3.lt (fun e => d26 (Option.some.inj e))]; exact hU3
        clear h2 h3 h4 hr4 d12
        refine hK.out _ _ sB4 (fun _ => ?_)
        clear hK K
        refine wpAnyH_gen (hs.put 160 (vL) (by decide) rfl) (fun A hs => ?_)
        clear sB3 hA3 hZ3 hU3
        refine wpAnyH_ready (rs := [7]) (by kernel_rfl) (by simp) ?_
        refine AllReadyH.cons (o := { dst := some 163, op := _, type := _, pos := _, after := _, guard := _ }) rfl (fun K hK => ?_) AllReadyH.nil
        rw [if_pos (by rfl)]
        obtain ⟨vF, W5, hr5, h2, h3, h4⟩ := run_appE (w := W4) 37 w14.heap.size _ E1 hL4 _ 1 1 [ev] (evs_single W4 _ ev hev hU4) (by omega) sB4.size
        refine wp_app1 rfl (hs.get 0 rfl) (hs.get 2 rfl) hr5 ?_
        have sB5 : Below w14.heap.size w14 W5 := sB4.grown h3 sB4.size (fun j hj => (hL4.lt j hj).1)
        have hF5 : Row W5 w14.heap.size vF (E1 ++ [ev]) := h2
        have hA5 : Row W5 w14.heap.size vA (E1 ++ [ev]) := own_same hA4 (fun j hj => h3.block j (hA4.lt j hj).2 (fun e => d14 j hj e.symm))
        clear h2 h3 h4 hr5 d14
        refine hK.out _ _ sB5 (fun _ => ?_)
        clear hK K
        refine wpAnyH_gen (hs.put 163 (vF) (by decide) rfl) (fun A hs => ?_)
        clear sB4 hA4 hU4 hL4
        refine wpAnyH_ready (rs := [8]) (by kernel_rfl) (by simp) ?_
        refine AllReadyH.cons (o := { dst := some 164, op := _, type := _, pos := _, after := _, guard := _ }) rfl (fun K hK => ?_) AllReadyH.nil
        rw [if_pos (by rfl)]
        obtain ⟨aa, ca, hva, hEa⟩ := Row.evs hA5 hwF
        obtain ⟨af, cf, hvf, hEf⟩ := Row.evs hF5 hwF
        refine wp_callL (xs := [.tmp 157, .tmp 163]) (vs := [.slice aa _ ca, .slice af _ cf]) rfl (by rw [List.map_cons, List.map_cons, List.map_nil, (hs.get 4 rfl), (hs.get 0 rfl), hva, hvf]) (enters_same _ _) (same_yes aa af _ ca cf _ W5 hEa hEf (by omega)) ?_
        rintro e W6 ⟨rfl, hb6⟩
        refine ⟨.bool true, rfl, ?_⟩
        have sB6 : Below w14.heap.size w14 W6 := sB5.trans (hb6.mono sB5.size)
        refine hK.out _ _ sB6 (fun _ => ?_)
        clear hK K
        refine wpAnyH_gen (hs.put 164 (.bool true) (by decide) rfl) (fun A hs => ?_)
        clear sB5
        refine wpAnyH_take (i := 9) (oi := { dst := some 10, op := _, type := _, pos := _, after := _, guard := _ }) (v := .bool true) rfl (by kernel_rfl) (by kernel_rfl) (by kernel_rfl) (fun _ _ _ h => h) (Or.inl ⟨by rfl, ?_⟩) (by assumption) ?_
        · intro w9 hSw
          exact exec_assign rfl (hs.get 0 rfl)
        refine wpAnyH_gen (hs.put 10 (.bool true) (by decide) rfl) (fun A hs => ?_)
        refine wpAnyH_done (by kernel_rfl) ?_ _
        refine NoPanic.normal ?_
        exact hEnd _ _ hs.defers (hs.get 0 rfl) (HB14.out.trans (sB6.mono HB14.out.size))
      refine AllReadyH.cons (o := { dst := some 158, op := _, type := _, pos := _, after := _, guard := _ }) rfl (fun K hK => ?_) ?_
      · rw [if_pos (by rfl)]
        refine wp_build0 rfl (run_build0 _) ?_
        have hb1 : Below W0.heap.size W0 (W0.alloc (.cells #[] 30)) := (Below.refl _ _).alloc (Nat.le_refl _) _
        have hZ1 := row_empty W0 w14.heap.size sB0.size
        generalize W0.alloc (.cells #[] 30) = W1 at *
        have sB1 : Below w14.heap.size w14 W1 := sB0.trans (hb1.mono sB0.size)
        refine hK.out _ _ sB1 (fun _ => ?_)
        clear hK K
        refine wpAnyH_gen (hs.put 158 (.slice (some ⟨W0.heap.size, 0, none⟩) 0 0) (by decide) rfl) (fun A hs => ?_)
        refine wpAnyH_ready (rs := [1, 6]) (by kernel_rfl) (by simp) ?_
        refine AllReadyH.cons (o := { dst := some 157, op := _, type := _, pos := _, after := _, guard := _ }) rfl (fun K hK => ?_) ?_
        · rw [if_pos (by rfl)]
          refine wp_callL (xs := [.tmp 156]) (vs := [.pointer (some ⟨gn, 0, none⟩)]) rfl (by rw [List.map_cons, List.map_nil, (hs.get 3 rfl)]) (enters_events _ _) (events_any _ _ _ _ _ _ _ _ _ _ _ (lorz_some gn _) (hL14.below sB1 (Nat.le_refl _))) ?_
          rintro e W2 ⟨vA, rfl, hq2, hb2⟩
          refine ⟨vA, rfl, ?_⟩
          have sB2 : Below w14.heap.size w14 W2 := sB1.trans (hb2.mono sB1.size)
          have hZ2 : Row W2 w14.heap.size (.slice (some ⟨W0.heap.size, 0, none⟩) 0 0) [] := Row.below hZ1 hb2 (Nat.le_refl _)
          have hA2 : Row W2 w14.heap.size vA (E1 ++ [ev]) := Row.lower hq2 sB1.size
          have d12 : vA.ownBlock ≠ some W0.heap.size := fun e => by have h1 := (hq2.lt _ e).1; have h2 := (hZ1.lt (W0.heap.size) rfl).2; omega
          clear hq2
          refine hK.out _ _ sB2 (fun _ => ?_)
          clear hK K
          refine wpAnyH_gen (hs.put 157 (vA) (by decide) rfl) (fun A hs => ?_)
          clear sB1 hZ1
          refine wpAnyH_ready (rs := [4, 6]) (by kernel_rfl) (by simp) ?_
          refine AllReadyH.cons (o := { dst := some 160, op := _, type := _, pos := _, after := _, guard := _ }) rfl (fun K hK => ?_) ?_
          · rw [if_pos (by rfl)]
            obtain ⟨vL, W3, hr3, h2, h3, h4⟩ := run_appE (w := W2) 37 w14.heap.size _ [] hZ2 aL i cL E1 (hEL14.below sB2 (Nat.le_refl _)) (by simp only [List.length_nil]; omega) sB2.size
            refine wp_app1 rfl (hs.get 1 rfl) (hs.get 3 rfl) hr3 ?_
            have sB3 : Below w14.heap.size w14 W3 := sB2.grown h3 sB2.size (fun j hj => (hZ2.lt j hj).1)
            have hL3 : Row W3 w14.heap.size vL E1 := h2
            have hA3 : Row W3 w14.heap.size vA (E1 ++ [ev]) := own_same hA2 (fun j hj => h3.block j (hA2.lt j hj).2 (fun e => d12 (by rw [hj]; exact e)))
            have d14 : ∀ j, vA.ownBlock = some j → vL.ownBlock ≠ some j := fun j hj e => by
              rcases h4 j e with h5 | h5
              · exact d12 (by rw [hj]; exact h5.symm)
              · have := (hA2.lt j hj).2; omega
            clear h2 h3 h4 hr3 d12
            refine hK.out _ _ sB3 (fun _ => ?_)
            clear hK K
            refine wpAnyH_gen (hs.put 160 (vL) (by decide) rfl) (fun A hs => ?_)
            clear sB2 hA2 hZ2
            refine wpAnyH_ready (rs := [6]) (by kernel_rfl) (by simp) ?_
            refine AllReadyH.cons (o := { dst := some 162, op := _, type := _, pos := _, after := _, guard := _ }) rfl (fun K hK => ?_) AllReadyH.nil
            rw [if_pos (by rfl)]
            refine wp_buildS rfl (hs.get 3 rfl) (run_build1 _ ev hl16) ?_
            have hb4 : Below W3.heap.size W3 (W3.alloc (.cells (evc ev) 30)) := (Below.refl _ _).alloc (Nat.le_refl _) _
            have hU4 := liesE_new W3 ev
            generalize W3.alloc (.cells (evc ev) 30) = W4 at *
            have sB4 : Below w14.heap.size w14 W4 := sB3.trans (hb4.mono sB3.size)
            have hA4 : Row W4 w14.heap.size vA (E1 ++ [ev]) := Row.below hA3 hb4 (Nat.le_refl _)
            have hL4 : Row W4 w14.heap.size vL E1 := Row.below hL3 hb4 (Nat.le_refl _)
            refine hK.out _ _ sB4 (fun _ => ?_)
            clear hK K
            refine wpAnyH_gen (hs.put 162 (.slice (some ⟨W3.heap.size, 0, none⟩) 1 1) (by decide) rfl) (fun A hs => ?_)
            clear sB3 hA3 hL3
            refine wpAnyH_ready (rs := [7]) (by kernel_rfl) (by simp) ?_
            refine AllReadyH.cons (o := { dst := some 163, op := _, type := _, pos := _, after := _, guard := _ }) rfl (fun K hK => ?_) AllReadyH.nil
            rw [if_pos (by rfl)]
            obtain ⟨vF, W5, hr5, h2, h3, h4⟩ := run_appE (w := W4) 37 w14.heap.size _ E1 hL4 _ 1 1 [ev] (evs_single W4 _ ev hev hU4) (by omega) sB4.size
            refine wp_app1 rfl (hs.get 1 rfl) (hs.get 0 rfl) hr5 ?_
            have sB5 : Below w14.heap.size w14 W5 := sB4.grown h3 sB4.size (fun j hj => (hL4.lt j hj).1)
            have hF5 : Row W5 w14.heap.size vF (E1 ++ [ev]) := h2
            have hA5 : Row W5 w14.heap.size vA (E1 ++ [ev]) := own_same hA4 (fun j hj => h3.block j (hA4.lt j hj).2 (fun e => d14 j hj e.symm))
            clear h2 h3 h4 hr5 d14
            refine hK.out _ _ sB5 (fun _ => ?_)
            clear hK K
            refine wpAnyH_gen (hs.put 163 (vF) (by decide) rfl) (fun A hs => ?_)
            clear sB4 hA4 hU4 hL4
            refine wpAnyH_ready (rs := [8]) (by kernel_rfl) (by simp) ?_
            refine AllReadyH.cons (o := { dst := some 164, op := _, type := _, pos := _, after := _, guard := _ }) rfl (fun K hK => ?_) AllReadyH.nil
            rw [if_pos (by rfl)]
            obtain ⟨aa, ca, hva, hEa⟩ := Row.evs hA5 hwF
            obtain ⟨af, cf, hvf, hEf⟩ := Row.evs hF5 hwF
            refine wp_callL (xs := [.tmp 157, .tmp 163]) (vs := [.slice aa _ ca, .slice af _ cf]) rfl (by rw [List.map_cons, List.map_cons, List.map_nil, (hs.get 3 rfl), (hs.get 0 rfl), hva, hvf]) (enters_same _ _) (same_yes aa af _ ca cf _ W5 hEa hEf (by omega)) ?_
            rintro e W6 ⟨rfl, hb6⟩
            refine ⟨.bool true, rfl, ?_⟩
            have sB6 : Below w14.heap.size w14 W6 := sB5.trans (hb6.mono sB5.size)
            refine hK.out _ _ sB6 (fun _ => ?_)
            clear hK K
            refine wpAnyH_gen (hs.put 164 (.bool true) (by decide) rfl) (fun A hs => ?_)
            clear sB5
            refine wpAnyH_take (i := 9) (oi := { dst := some 10, op := _, type := _, pos := _, after := _, guard := _ }) (v := .bool true) rfl (by kernel_rfl) (by kernel_rfl) (by kernel_rfl) (fun _ _ _ h => h) (Or.inl ⟨by rfl, ?_⟩) (by assumption) ?_
            · intro w9 hSw
              exact exec_assign rfl (hs.get 0 rfl)
            refine wpAnyH_gen (hs.put 10 (.bool true) (by decide) rfl) (fun A hs => ?_)
            refine wpAnyH_done (by kernel_rfl) ?_ _
            refine NoPanic.normal ?_
            exact hEnd _ _ hs.defers (hs.get 0 rfl) (HB14.out.trans (sB6.mono HB14.out.size))
          refine AllReadyH.cons (o := { dst := some 162, op := _, type := _, pos := _, after := _, guard := _ }) rfl (fun K hK => ?_) AllReadyH.nil
          rw [if_pos (by rfl)]
          refine wp_buildS rfl (hs.get 2 rfl) (run_build1 _ ev hl16) ?_
          have hb3 : Below W2.heap.size W2 (W2.alloc (.cells (evc ev) 30)) := (Below.refl _ _).alloc (Nat.le_refl _) _
          have hU3 := liesE_new W2 ev
          have d26 : W2.heap.size ≠ W0.heap.size := by have := (hZ2.lt (W0.heap.size) rfl).2; omega
          generalize W2.alloc (.cells (evc ev) 30) = W3 at *
          have sB3 : Below w14.heap.size w14 W3 := sB2.trans (hb3.mono sB2.size)
          have hA3 : Row W3 w14.heap.size vA (E1 ++ [ev]) := Row.below hA2 hb3 (Nat.le_refl _)
          have hZ3 : Row W3 w14.heap.size (.slice (some ⟨W0.heap.size, 0, none⟩) 0 0) [] := Row.below hZ2 hb3 (Nat.le_refl _)
          refine hK.out _ _ sB3 (fun _ => ?_)
          clear hK K
          refine wpAnyH_gen (hs.put 162 (.slice (some ⟨W2.heap.size, 0, none⟩) 1 1) (by decide) rfl) (fun A hs => ?_)
          clear sB2 hA2 hZ2
          refine wpAnyH_ready (rs := [4]) (by kernel_rfl) (by simp) ?_
          refine AllReadyH.cons (o := { dst := some 160, op := _, type := _, pos := _, after := _, guard := _ }) rfl (fun K hK => ?_) AllReadyH.nil
          rw [if_pos (by rfl)]
          obtain ⟨vL, W4, hr4, h2, h3, h4⟩ := run_appE (w := W3) 37 w14.heap.size _ [] hZ3 aL i cL E1 (hEL14.below sB3 (Nat.le_refl _)) (by simp only [List.length_nil]; omega) sB3.size
          refine wp_app1 rfl (hs.get 2 rfl) (hs.get 4 rfl) hr4 ?_
          have sB4 : Below w14.heap.size w14 W4 := sB3.grown h3 sB3.size (fun j hj => (hZ3.lt j hj).1)
          have hL4 : Row W4 w14.heap.size vL E1 := h2
          have hA4 : Row W4 w14.heap.size vA (E1 ++ [ev]) := own_same hA3 (fun j hj => h3.block j (hA3.lt j hj).2 (fun e => d12 (by rw [hj]; exact e)))
          have d14 : ∀ j, vA.ownBlock = some j → vL.ownBlock ≠ some j := fun j hj e => by
            rcases h4 j e with h5 | h5
            · exact d12 (by rw [hj]; exact h5.symm)
            · have := (hA3.lt j hj).2; omega
          have hU4 : LiesE W4 W2.heap.size ev := by rw [LiesE, h3.block _ hU3.lt (fun e => d26 (Option.some.inj e))]; exact hU3
          clear h2 h3 h4 hr4 d12
          refine hK.out _ _ sB4 (fun _ => ?_)
          clear hK K
          refine wpAnyH_gen (hs.put 160 (vL) (by decide) rfl) (fun A hs => ?_)
          clear sB3 hA3 hZ3 hU3
          refine wpAnyH_ready (rs := [7]) (by kernel_rfl) (by simp) ?_
          refine AllReadyH.cons (o := { dst := some 163, op := _, type := _, pos := _, after := _, guard := _ }) rfl (fun K hK => ?_) AllReadyH.nil
          rw [if_pos (by rfl)]
          obtain ⟨vF, W5, hr5, h2, h3, h4⟩ := run_appE (w := W4) 37 w14.heap.size _ E1 hL4 _ 1 1 [ev] (evs_single W4 _ ev hev hU4) (by omega) sB4.size
          refine wp_app1 rfl (hs.get 0 rfl) (hs.get 1 rfl) hr5 ?_
          have sB5 : Below w14.heap.size w14 W5 := sB4.grown h3 sB4.size (fun j hj => (hL4.lt j hj).1)
          have hF5 : Row W5 w14.heap.size vF (E1 ++ [ev]) := h2
          have hA5 : Row W5 w14.heap.size vA (E1 ++ [ev]) := own_same hA4 (fun j hj => h3.block j (hA4.lt j hj).2 (fun e => d14 j hj e.symm))
          clear h2 h3 h4 hr5 d14
          refine hK.out _ _ sB5 (fun _ => ?_)
          clear hK K
          refine wpAnyH_gen (hs.put 163 (vF) (by decide) rfl) (fun A hs => ?_)
          clear sB4 hA4 hU4 hL4
          refine wpAnyH_ready (rs := [8]) (by kernel_rfl) (by simp) ?_
          refine AllReadyH.cons (o := { dst := some 164, op := _, type := _, pos := _, after := _, guard := _ }) rfl (fun K hK => ?_) AllReadyH.nil
          rw [if_pos (by rfl)]
          obtain ⟨aa, ca, hva, hEa⟩ := Row.evs hA5 hwF
          obtain ⟨af, cf, hvf, hEf⟩ := Row.evs hF5 hwF
          refine wp_callL (xs := [.tmp 157, .tmp 163]) (vs := [.slice aa _ ca, .slice af _ cf]) rfl (by rw [List.map_cons, List.map_cons, List.map_nil, (hs.get 3 rfl), (hs.get 0 rfl), hva, hvf]) (enters_same _ _) (same_yes aa af _ ca cf _ W5 hEa hEf (by omega)) ?_
          rintro e W6 ⟨rfl, hb6⟩
          refine ⟨.bool true, rfl, ?_⟩
          have sB6 : Below w14.heap.size w14 W6 := sB5.trans (hb6.mono sB5.size)
          refine hK.out _ _ sB6 (fun _ => ?_)
          clear hK K
          refine wpAnyH_gen (hs.put 164 (.bool true) (by decide) rfl) (fun A hs => ?_)
          clear sB5
          refine wpAnyH_take (i := 9) (oi := { dst := some 10, op := _, type := _, pos := _, after := _, guard := _ }) (v := .bool true) rfl (by kernel_rfl) (by kernel_rfl) (by kernel_rfl) (fun _ _ _ h => h) (Or.inl ⟨by rfl, ?_⟩) (by assumption) ?_
          · intro w9 hSw
            exact exec_assign rfl (hs.get 0 rfl)
          refine wpAnyH_gen (hs.put 10 (.bool true) (by decide) rfl) (fun A hs => ?_)
          refine wpAnyH_done (by kernel_rfl) ?_ _
          refine NoPanic.normal ?_
          exact hEnd _ _ hs.defers (hs.get 0 rfl) (HB14.out.trans (sB6.mono HB14.out.size))
        refine AllReadyH.cons (o := { dst := some 162, op := _, type := _, pos := _, after := _, guard := _ }) rfl (fun K hK => ?_) AllReadyH.nil
        rw [if_pos (by rfl)]
        refine wp_buildS rfl (hs.get 1 rfl) (run_build1 _ ev hl16) ?_
        have hb2 : Below W1.heap.size W1 (W1.alloc (.cells (evc ev) 30)) := (Below.refl _ _).alloc (Nat.le_refl _) _
        have hU2 := liesE_new W1 ev
        have d26 : W1.heap.size ≠ W0.heap.size := by have := (hZ1.lt (W0.heap.size) rfl).2; omega
        generalize W1.alloc (.cells (evc ev) 30) = W2 at *
        have sB2 : Below w14.heap.size w14 W2 := sB1.trans (hb2.mono sB1.size)
        have hZ2 : Row W2 w14.heap.size (.slice (some ⟨W0.heap.size, 0, none⟩) 0 0) [] := Row.below hZ1 hb2 (Nat.le_refl _)
        refine hK.out _ _ sB2 (fun _ => ?_)
        clear hK K
        refine wpAnyH_gen (hs.put 162 (.slice (some ⟨W1.heap.size, 0, none⟩) 1 1) (by decide) rfl) (fun A hs => ?_)
        clear sB1 hZ1
        refine wpAnyH_ready (rs := [1]) (by kernel_rfl) (by simp) ?_
        refine AllReadyH.cons (o := { dst := some 157, op := _, type := _, pos := _, after := _, guard := _ }) rfl (fun K hK => ?_) AllReadyH.nil
        rw [if_pos (by rfl)]
        refine wp_callL (xs := [.tmp 156]) (vs := [.pointer (some ⟨gn, 0, none⟩)]) rfl (by rw [List.map_cons, List.map_nil, (hs.get 4 rfl)]) (enters_events _ _) (events_any _ _ _ _ _ _ _ _ _ _ _ (lorz_some gn _) (hL14.below sB2 (Nat.le_refl _))) ?_
        rintro e W3 ⟨vA, rfl, hq3, hb3⟩
        refine ⟨vA, rfl, ?_⟩
        have sB3 : Below w14.heap.size w14 W3 := sB2.trans (hb3.mono sB2.size)
        have hZ3 : Row W3 w14.heap.size (.slice (some ⟨W0.heap.size, 0, none⟩) 0 0) [] := Row.below hZ2 hb3 (Nat.le_refl _)
        have hU3 : LiesE W3 W1.heap.size ev := hU2.below hb3 hU2.lt
        have hA3 : Row W3 w14.heap.size vA (E1 ++ [ev]) := Row.lower hq3 sB2.size
        have d12 : vA.ownBlock ≠ some W0.heap.size := fun e => by have h1 := (hq3.lt _ e).1; have h2 := (hZ2.lt (W0.heap.size) rfl).2; omega
        clear hq3
        refine hK.out _ _ sB3 (fun _ => ?_)
        clear hK K
        refine wpAnyH_gen (hs.put 157 (vA) (by decide) rfl) (fun A hs => ?_)
        clear sB2 hZ2 hU2
        refine wpAnyH_ready (rs := [4]) (by kernel_rfl) (by simp) ?_
        refine AllReadyH.cons (o := { dst := some 160, op := _, type := _, pos := _, after := _, guard := _ }) rfl (fun K hK => ?_) AllReadyH.nil
        rw [if_pos (by rfl)]
        obtain ⟨vL, W4, hr4, h2, h3, h4⟩ := run_appE (w := W3) 37 w14.heap.size _ [] hZ3 aL i cL E1 (hEL14.below sB3 (Nat.le_refl _)) (by simp only [List.length_nil]; omega) sB3.size
        refine wp_app1 rfl (hs.get 2 rfl) (hs.get 4 rfl) hr4 ?_
        have sB4 : Below w14.heap.size w14 W4 := sB3.grown h3 sB3.size (fun j hj => (hZ3.lt j hj).1)
        have hL4 : Row W4 w14.heap.size vL E1 := h2
        have hA4 : Row W4 w14.heap.size vA (E1 ++ [ev]) := own_same hA3 (fun j hj => h3.block j (hA3.lt j hj).2 (fun e => d12 (by rw [hj]; exact e)))
        have d14 : ∀ j, vA.ownBlock = some j → vL.ownBlock ≠ some j := fun j hj e => by
          rcases h4 j e with h5 | h5
          · exact d12 (by rw [hj]; exact h5.symm)
          · have := (hA3.lt j hj).2; omega
        have hU4 : LiesE W4 W1.heap.size ev := by rw [LiesE, h3.block _ hU3.lt (fun e => d26 (Option.some.inj e))]; exact hU3
        clear h2 h3 h4 hr4 d12
        refine hK.out _ _ sB4 (fun _ => ?_)
        clear hK K
        refine wpAnyH_gen (hs.put 160 (vL) (by decide) rfl) (fun A hs => ?_)
        clear sB3 hA3 hZ3 hU3
        refine wpAnyH_ready (rs := [7]) (by kernel_rfl) (by simp) ?_
        refine AllReadyH.cons (o := { dst := some 163, op := _, type := _, pos := _, after := _, guard := _ }) rfl (fun K hK => ?_) AllReadyH.nil
        rw [if_pos (by rfl)]
        obtain ⟨vF, W5, hr5, h2, h3, h4⟩ := run_appE (w := W4) 37 w14.heap.size _ E1 hL4 _ 1 1 [ev] (evs_single W4 _ ev hev hU4) (by omega) sB4.size
        refine wp_app1 rfl (hs.get 0 rfl) (hs.get 2 rfl) hr5 ?_
        have sB5 : Below w14.heap.size w14 W5 := sB4.grown h3 sB4.size (fun j hj => (hL4.lt j hj).1)
        have hF5 : Row W5 w14.heap.size vF (E1 ++ [ev]) := h2
        have hA5 : Row W5 w14.heap.size vA (E1 ++ [ev]) := own_same hA4 (fun j hj => h3.block j (hA4.lt j hj).2 (fun e => d14 j hj e.symm))
        clear h2 h3 h4 hr5 d14
        refine hK.out _ _ sB5 (fun _ => ?_)
        clear hK K
        refine wpAnyH_gen (hs.put 163 (vF) (by decide) rfl) (fun A hs => ?_)
        clear sB4 hA4 hU4 hL4
        refine wpAnyH_ready (rs := [8]) (by kernel_rfl) (by simp) ?_
        refine AllReadyH.cons (o := { dst := some 164, op := _, type := _, pos := _, after := _, guard := _ }) rfl (fun K hK => ?_) AllReadyH.nil
        rw [if_pos (by rfl)]
        obtain ⟨aa, ca, hva, hEa⟩ := Row.evs hA5 hwF
        obtain ⟨af, cf, hvf, hEf⟩ := Row.evs hF5 hwF
        refine wp_callL (xs := [.tmp 157, .tmp 163]) (vs := [.slice aa _ ca, .slice af _ cf]) rfl (by rw [List.map_cons, List.map_cons, List.map_nil, (hs.get 2 rfl), (hs.get 0 rfl), hva, hvf]) (enters_same _ _) (same_yes aa af _ ca cf _ W5 hEa hEf (by omega)) ?_
        rintro e W6 ⟨rfl, hb6⟩
        refine ⟨.bool true, rfl, ?_⟩
        have sB6 : Below w14.heap.size w14 W6 := sB5.trans (hb6.mono sB5.size)
        refine hK.out _ _ sB6 (fun _ => ?_)
        clear hK K
        refine wpAnyH_gen (hs.put 164 (.bool true) (by decide) rfl) (fun A hs => ?_)
        clear sB5
        refine wpAnyH_take (i := 9) (oi := { dst := some 10, op := _, type := _, pos := _, after := _, guard := _ }) (v := .bool true) rfl (by kernel_rfl) (by kernel_rfl) (by kernel_rfl) (fun _ _ _ h => h) (Or.inl ⟨by rfl, ?_⟩) (by assumption) ?_
        · intro w9 hSw
          exact exec_assign rfl (hs.get 0 rfl)
        refine wpAnyH_gen (hs.put 10 (.bool true) (by decide) rfl) (fun A hs => ?_)
        refine wpAnyH_done (by kernel_rfl) ?_ _
        refine NoPanic.normal ?_
        exact hEnd _ _ hs.defers (hs.get 0 rfl) (HB14.out.trans (sB6.mono HB14.out.size))
      refine AllReadyH.cons (o := { dst := some 162, op := _, type := _, pos := _, after := _, guard := _ }) rfl (fun K hK => ?_) AllReadyH.nil
      rw [if_pos (by rfl)]
      refine wp_buildS rfl (hs.get 0 rfl) (run_build1 _ ev hl16) ?_
      have hb1 : Below W0.heap.size W0 (W0.alloc (.cells (evc ev) 30)) := (Below.refl _ _).alloc (Nat.le_refl _) _
      have hU1 := liesE_new W0 ev
      generalize W0.alloc (.cells (evc ev) 30) = W1 at *
      have sB1 : Below w14.heap.size w14 W1 := sB0.trans (hb1.mono sB0.size)
      refine hK.out _ _ sB1 (fun _ => ?_)
      clear hK K
      refine wpAnyH_gen (hs.put 162 (.slice (some ⟨W0.heap.size, 0, none⟩) 1 1) (by decide) rfl) (fun A hs => ?_)
      refine wpAnyH_ready (rs := [1, 2]) (by kernel_rfl) (by simp) ?_
      refine AllReadyH.cons (o := { dst := some 157, op := _, type := _, pos := _, after := _, guard := _ }) rfl (fun K hK => ?_) ?_
      · rw [if_pos (by rfl)]
        refine wp_callL (xs := [.tmp 156]) (vs := [.pointer (some ⟨gn, 0, none⟩)]) rfl (by rw [List.map_cons, List.map_nil, (hs.get 3 rfl)]) (enters_events _ _) (events_any _ _ _ _ _ _ _ _ _ _ _ (lorz_some gn _) (hL14.below sB1 (Nat.le_refl _))) ?_
        rintro e W2 ⟨vA, rfl, hq2, hb2⟩
        refine ⟨vA, rfl, ?_⟩
        have sB2 : Below w14.heap.size w14 W2 := sB1.trans (hb2.mono sB1.size)
        have hU2 : LiesE W2 W0.heap.size ev := hU1.below hb2 hU1.lt
        have hA2 : Row W2 w14.heap.size vA (E1 ++ [ev]) := Row.lower hq2 sB1.size
        clear hq2
        refine hK.out _ _ sB2 (fun _ => ?_)
        clear hK K
        refine wpAnyH_gen (hs.put 157 (vA) (by decide) rfl) (fun A hs => ?_)
        clear sB1 hU1
        refine wpAnyH_ready (rs := [2]) (by kernel_rfl) (by simp) ?_
        refine AllReadyH.cons (o := { dst := some 158, op := _, type := _, pos := _, after := _, guard := _ }) rfl (fun K hK => ?_) AllReadyH.nil
        rw [if_pos (by rfl)]
        refine wp_build0 rfl (run_build0 _) ?_
        have hb3 : Below W2.heap.size W2 (W2.alloc (.cells #[] 30)) := (Below.refl _ _).alloc (Nat.le_refl _) _
        have hZ3 := row_empty W2 w14.heap.size sB2.size
        have d12 : vA.ownBlock ≠ some W2.heap.size := fun e => by have h1 := (hA2.lt _ e).2; omega
        have d26 : W0.heap.size ≠ W2.heap.size := by have := hU2.lt; omega
        generalize W2.alloc (.cells #[] 30) = W3 at *
        have sB3 : Below w14.heap.size w14 W3 := sB2.trans (hb3.mono sB2.size)
        have hA3 : Row W3 w14.heap.size vA (E1 ++ [ev]) := Row.below hA2 hb3 (Nat.le_refl _)
        have hU3 : LiesE W3 W0.heap.size ev := hU2.below hb3 hU2.lt
        refine hK.out _ _ sB3 (fun _ => ?_)
        clear hK K
        refine wpAnyH_gen (hs.put 158 (.slice (some ⟨W2.heap.size, 0, none⟩) 0 0) (by decide) rfl) (fun A hs => ?_)
        clear sB2 hA2 hU2
        refine wpAnyH_ready (rs := [4]) (by kernel_rfl) (by simp) ?_
        refine AllReadyH.cons (o := { dst := some 160, op := _, type := _, pos := _, after := _, guard := _ }) rfl (fun K hK => ?_) AllReadyH.nil
        rw [if_pos (by rfl)]
        obtain ⟨vL, W4, hr4, h2, h3, h4⟩ := run_appE (w := W3) 37 w14.heap.size _ [] hZ3 aL i cL E1 (hEL14.below sB3 (Nat.le_refl _)) (by simp only [List.length_nil]; omega) sB3.size
        refine wp_app1 rfl (hs.get 0 rfl) (hs.get 4 rfl) hr4 ?_
        have sB4 : Below w14.heap.size w14 W4 := sB3.grown h3 sB3.size (fun j hj => (hZ3.lt j hj).1)
        have hL4 : Row W4 w14.heap.size vL E1 := h2
        have hA4 : Row W4 w14.heap.size vA (E1 ++ [ev]) := own_same hA3 (fun j hj => h3.block j (hA3.lt j hj).2 (fun e => d12 (by rw [hj]; exact e)))
        have d14 : ∀ j, vA.ownBlock = some j → vL.ownBlock ≠ some j := fun j hj e => by
          rcases h4 j e with h5 | h5
          · exact d12 (by rw [hj]; exact h5.symm)
          · have := (hA3.lt j hj).2; omega
        have hU4 : LiesE W4 W0.heap.size ev := by rw [LiesE, h3.block _ hU3.lt (fun e => d26 (Option.some.inj e))]; exact hU3
        clear h2 h3 h4 hr4 d12
        refine hK.out _ _ sB4 (fun _ => ?_)
        clear hK K
        refine wpAnyH_gen (hs.put 160 (vL) (by decide) rfl) (fun A hs => ?_)
        clear sB3 hA3 hZ3 hU3
        refine wpAnyH_ready (rs := [7]) (by kernel_rfl) (by simp) ?_
        refine AllReadyH.cons (o := { dst := some 163, op := _, type := _, pos := _, after := _, guard := _ }) rfl (fun K hK => ?_) AllReadyH.nil
        rw [if_pos (by rfl)]
        obtain ⟨vF, W5, hr5, h2, h3, h4⟩ := run_appE (w := W4) 37 w14.heap.size _ E1 hL4 _ 1 1 [ev] (evs_single W4 _ ev hev hU4) (by omega) sB4.size
        refine wp_app1 rfl (hs.get 0 rfl) (hs.get 3 rfl) hr5 ?_
        have sB5 : Below w14.heap.size w14 W5 := sB4.grown h3 sB4.size (fun j hj => (hL4.lt j hj).1)
        have hF5 : Row W5 w14.heap.size vF (E1 ++ [ev]) := h2
        have hA5 : Row W5 w14.heap.size vA (E1 ++ [ev]) := own_same hA4 (fun j hj => h3.block j (hA4.lt j hj).2 (fun e => d14 j hj e.symm))
        clear h2 h3 h4 hr5 d14
        refine hK.out _ _ sB5 (fun _ => ?_)
        clear hK K
        refine wpAnyH_gen (hs.put 163 (vF) (by decide) rfl) (fun A hs => ?_)
        clear sB4 hA4 hU4 hL4
        refine wpAnyH_ready (rs := [8]) (by kernel_rfl) (by simp) ?_
        refine AllReadyH.cons (o := { dst := some 164, op := _, type := _, pos := _, after := _, guard := _ }) rfl (fun K hK => ?_) AllReadyH.nil
        rw [if_pos (by rfl)]
        obtain ⟨aa, ca, hva, hEa⟩ := Row.evs hA5 hwF
        obtain ⟨af, cf, hvf, hEf⟩ := Row.evs hF5 hwF
        refine wp_callL (xs := [.tmp 157, .tmp 163]) (vs := [.slice aa _ ca, .slice af _ cf]) rfl (by rw [List.map_cons, List.map_cons, List.map_nil, (hs.get 3 rfl), (hs.get 0 rfl), hva, hvf]) (enters_same _ _) (same_yes aa af _ ca cf _ W5 hEa hEf (by omega)) ?_
        rintro e W6 ⟨rfl, hb6⟩
        refine ⟨.bool true, rfl, ?_⟩
        have sB6 : Below w14.heap.size w14 W6 := sB5.trans (hb6.mono sB5.size)
        refine hK.out _ _ sB6 (fun _ => ?_)
        clear hK K
        refine wpAnyH_gen (hs.put 164 (.bool true) (by decide) rfl) (fun A hs => ?_)
        clear sB5
        refine wpAnyH_take (i := 9) (oi := { dst := some 10, op := _, type := _, pos := _, after := _, guard := _ }) (v := .bool true) rfl (by kernel_rfl) (by kernel_rfl) (by kernel_rfl) (fun _ _ _ h => h) (Or.inl ⟨by rfl, ?_⟩) (by assumption) ?_
        · intro w9 hSw
          exact exec_assign rfl (hs.get 0 rfl)
        refine wpAnyH_gen (hs.put 10 (.bool true) (by decide) rfl) (fun A hs => ?_)
        refine wpAnyH_done (by kernel_rfl) ?_ _
        refine NoPanic.normal ?_
        exact hEnd _ _ hs.defers (hs.get 0 rfl) (HB14.out.trans (sB6.mono HB14.out.size))
      refine AllReadyH.cons (o := { dst := some 158, op := _, type := _, pos := _, after := _, guard := _ }) rfl (fun K hK => ?_) AllReadyH.nil
      rw [if_pos (by rfl)]
      refine wp_build0 rfl (run_build0 _) ?_
      have hb2 : Below W1.heap.size W1 (W1.alloc (.cells #[] 30)) := (Below.refl _ _).alloc (Nat.le_refl _) _
      have hZ2 := row_empty W1 w14.heap.size sB1.size
      have d26 : W0.heap.size ≠ W1.heap.size := by have := hU1.lt; omega
      generalize W1.alloc (.cells #[] 30) = W2 at *
      have sB2 : Below w14.heap.size w14 W2 := sB1.trans (hb2.mono sB1.size)
      have hU2 : LiesE W2 W0.heap.size ev := hU1.below hb2 hU1.lt
      refine hK.out _ _ sB2 (fun _ => ?_)
      clear hK K
      refine wpAnyH_gen (hs.put 158 (.slice (some ⟨W1.heap.size, 0, none⟩) 0 0) (by decide) rfl) (fun A hs => ?_)
      clear sB1 hU1
      refine wpAnyH_ready (rs := [1]) (by kernel_rfl) (by simp) ?_
      refine AllReadyH.cons (o := { dst := some 157, op := _, type := _, pos := _, after := _, guard := _ }) rfl (fun K hK => ?_) AllReadyH.nil
      rw [if_pos (by rfl)]
      refine wp_callL (xs := [.tmp 156]) (vs := [.pointer (some ⟨gn, 0, none⟩)]) rfl (by rw [List.map_cons, List.map_nil, (hs.get 4 rfl)]) (enters_events _ _) (events_any _ _ _ _ _ _ _ _ _ _ _ (lorz_some gn _) (hL14.below sB2 (Nat.le_refl _))) ?_
      rintro e W3 ⟨vA, rfl, hq3, hb3⟩
      refine ⟨vA, rfl, ?_⟩
      have sB3 : Below w14.heap.size w14 W3 := sB2.trans (hb3.mono sB2.size)
      have hZ3 : Row W3 w14.heap.size (.slice (some ⟨W1.heap.size, 0, none⟩) 0 0) [] := Row.below hZ2 hb3 (Nat.le_refl _)
      have hU3 : LiesE W3 W0.heap.size ev := hU2.below hb3 hU2.lt
      have hA3 : Row W3 w14.heap.size vA (E1 ++ [ev]) := Row.lower hq3 sB2.size
      have d12 : vA.ownBlock ≠ some W1.heap.size := fun e => by have h1 := (hq3.lt _ e).1; have h2 := (hZ2.lt (W1.heap.size) rfl).2; omega
      clear hq3
      refine hK.out _ _ sB3 (fun _ => ?_)
      clear hK K
      refine wpAnyH_gen (hs.put 157 (vA) (by decide) rfl) (fun A hs => ?_)
      clear sB2 hZ2 hU2
      refine wpAnyH_ready (rs := [4]) (by kernel_rfl) (by simp) ?_
      refine AllReadyH.cons (o := { dst := some 160, op := _, type := _, pos := _, after := _, guard := _ }) rfl (fun K hK => ?_) AllReadyH.nil
      rw [if_pos (by rfl)]
      obtain ⟨vL, W4, hr4, h2, h3, h4⟩ := run_appE (w := W3) 37 w14.heap.size _ [] hZ3 aL i cL E1 (hEL14.below sB3 (Nat.le_refl _)) (by simp only [List.length_nil]; omega) sB3.size
      refine wp_app1 rfl (hs.get 1 rfl) (hs.get 4 rfl) hr4 ?_
      have sB4 : Below w14.heap.size w14 W4 := sB3.grown h3 sB3.size (fun j hj => (hZ3.lt j hj).1)
      have hL4 : Row W4 w14.heap.size vL E1 := h2
      have hA4 : Row W4 w14.heap.size vA (E1 ++ [ev]) := own_same hA3 (fun j hj => h3.block j (hA3.lt j hj).2 (fun e => d12 (by rw [hj]; exact e)))
      have d14 : ∀ j, vA.ownBlock = some j → vL.ownBlock ≠ some j := fun j hj e => by
        rcases h4 j e with h5 | h5
        · exact d12 (by rw [hj]; exact h5.symm)
        · have := (hA3.lt j hj).2; omega
      have hU4 : LiesE W4 W0.heap.size ev := by rw [LiesE, h3.block _ hU3.lt (fun e => d26 (Option.some.inj e))]; exact hU3
      clear h2 h3 h4 hr4 d12
      refine hK.out _ _ sB4 (fun _ => ?_)
      clear hK K
      refine wpAnyH_gen (hs.put 160 (vL) (by decide) rfl) (fun A hs => ?_)
      clear sB3 hA3 hZ3 hU3
      refine wpAnyH_ready (rs := [7]) (by kernel_rfl) (by simp) ?_
      refine AllReadyH.cons (o := { dst := some 163, op := _, type := _, pos := _, after := _, guard := _ }) rfl (fun K hK => ?_) AllReadyH.nil
      rw [if_pos (by rfl)]
      obtain ⟨vF, W5, hr5, h2, h3, h4⟩ := run_appE (w := W4) 37 w14.heap.size _ E1 hL4 _ 1 1 [ev] (evs_single W4 _ ev hev hU4) (by omega) sB4.size
      refine wp_app1 rfl (hs.get 0 rfl) (hs.get 3 rfl) hr5 ?_
      have sB5 : Below w14.heap.size w14 W5 := sB4.grown h3 sB4.size (fun j hj => (hL4.lt j hj).1)
      have hF5 : Row W5 w14.heap.size vF (E1 ++ [ev]) := h2
      have hA5 : Row W5 w14.heap.size vA (E1 ++ [ev]) := own_same hA4 (fun j hj => h3.block j (hA4.lt j hj).2 (fun e => d14 j hj e.symm))
      clear h2 h3 h4 hr5 d14
      refine hK.out _ _ sB5 (fun _ => ?_)
      clear hK K
      refine wpAnyH_gen (hs.put 163 (vF) (by decide) rfl) (fun A hs => ?_)
      clear sB4 hA4 hU4 hL4
      refine wpAnyH_ready (rs := [8]) (by kernel_rfl) (by simp) ?_
      refine AllReadyH.cons (o := { dst := some 164, op := _, type := _, pos := _, after := _, guard := _ }) rfl (fun K hK => ?_) AllReadyH.nil
      rw [if_pos (by rfl)]
      obtain ⟨aa, ca, hva, hEa⟩ := Row.evs hA5 hwF
      obtain ⟨af, cf, hvf, hEf⟩ := Row.evs hF5 hwF
      refine wp_callL (xs := [.tmp 157, .tmp 163]) (vs := [.slice aa _ ca, .slice af _ cf]) rfl (by rw [List.map_cons, List.map_cons, List.map_nil, (hs.get 2 rfl), (hs.get 0 rfl), hva, hvf]) (enters_same _ _) (same_yes aa af _ ca cf _ W5 hEa hEf (by omega)) ?_
      rintro e W6 ⟨rfl, hb6⟩
      refine ⟨.bool true, rfl, ?_⟩
      have sB6 : Below w14.heap.size w14 W6 := sB5.trans (hb6.mono sB5.size)
      refine hK.out _ _ sB6 (fun _ => ?_)
      clear hK K
      refine wpAnyH_gen (hs.put 164 (.bool true) (by decide) rfl) (fun A hs => ?_)
      clear sB5
      refine wpAnyH_take (i := 9) (oi := { dst := some 10, op := _, type := _, pos := _, after := _, guard := _ }) (v := .bool true) rfl (by kernel_rfl) (by kernel_rfl) (by kernel_rfl) (fun _ _ _ h => h) (Or.inl ⟨by rfl, ?_⟩) (by assumption) ?_
      · intro w9 hSw
        exact exec_assign rfl (hs.get 0 rfl)
      refine wpAnyH_gen (hs.put 10 (.bool true) (by decide) rfl) (fun A hs => ?_)
      refine wpAnyH_done (by kernel_rfl) ?_ _
      refine NoPanic.normal ?_
      exact hEnd _ _ hs.defers (hs.get 0 rfl) (HB14.out.trans (sB6.mono HB14.out.size))
end Go.Proofs.Ythdhnilfkpbmpaa
