/-
  RgaRemoves: what takes an item away takes just that one away.
-/
import Derived.Test.YtagjgamigldjnabKxe
namespace Go.Proofs.Ytagjgamigldjnab
set_option maxRecDepth 100000
open Go.RowKit

theorem add_oneK (W : World) (q : Nat) (hq : q ≤ 1048576) : (binOp .add 3 (.int .i64 (q : Int)) (.int .i64 1)).run Try.prog W = .ok (.int .i64 ((q + 1 : Nat) : Int)) W := by
  have hw : IntKind.i64.wrap ((q : Int) + 1) = (q : Int) + 1 := by simp [IntKind.wrap, IntKind.signed, IntKind.bits]; omega
  simp only [go_sem, hw]
  rfl
set_option maxHeartbeats 8000000 in
theorem kremoves_walk (ao : Option Addr) (m c : Nat) (E : List Ev) (key : List UInt8) (hkey : key.length ≤ 9223372036854775807) (cut : Int) (hcut : (Lit.int .u64 cut).wf = true) (w : World) (hE : Evs w ao m c E) :
    Calls Try.prog 3 #[.slice ao m c, .string (sb key), .int .u64 cut] w fun e w' => e = .returned (.bool true) ∧ Below w.heap.size w w' := by
  have hcut' : Hid ((Lit.int .u64 cut).wf = true) := hcut
  have hkey' : Hid (key.length ≤ 9223372036854775807) := hkey
  clear hcut hkey
  have HE : Aside (Evs w ao m c E) := hE
  have hwide : Hid (∀ e ∈ E, Wide e) := hE.wide
  have hlen := hE.len
  clear hE
  go_enter Try.func3, Try.ntmps3
  go_wp2_with fail
  refine (awake_any w).mono ?_
  rintro e w1 ⟨rfl, hb1⟩
  have hE1 := HE.out.below hb1 (Nat.le_refl _)
  have HB1 : Hid (Below w.heap.size w w1) := hb1
  clear hb1 HE
  go_wp2_with fail
  refine (few_any ao m c E w1 hE1).mono ?_
  rintro e w2 ⟨t, rfl, hfew, hw2⟩
  obtain rfl := hw2.symm
  clear hw2
  cases t with
  | false =>
    go_wp2_with fail
    refine (awake_any w1).mono ?_
    rintro e w3 ⟨rfl, hb3⟩
    have HB3 : Hid (Below w.heap.size w w3) := HB1.out.trans (hb3.mono HB1.out.size)
    clear hb3
    go_wp2
    go_ret
    exact ⟨rfl, HB3.out⟩
  | true =>
    have hm : m ≤ 60 := hfew rfl
    clear hfew
    go_wp2_with fail
    refine (unlike_any ao m c E w1 hE1 (by omega)).mono ?_
    rintro e w2 ⟨t, rfl, hun, hb2⟩
    have HE1 : Aside (Evs w2 ao m c E) := hE1.below hb2 (Nat.le_refl _)
    have HB2 : Hid (Below w.heap.size w w2) := HB1.out.trans (hb2.mono HB1.out.size)
    clear hb2 hE1 HB1
    cases t with
    | false =>
      go_wp2_with fail
      refine (awake_any w2).mono ?_
      rintro e w3 ⟨rfl, hb3⟩
      have HB3 : Hid (Below w.heap.size w w3) := HB2.out.trans (hb3.mono HB2.out.size)
      clear hb3
      go_wp2
      go_ret
      exact ⟨rfl, HB3.out⟩
    | true =>
      have HU : Hid (Unlike E) := hun rfl
      clear hun
      go_wp2_with fail
      refine (items_any ao m c E key w2 HE1.out (by omega)).mono ?_
      rintro e w3 ⟨v3, rfl, hR3, hb3⟩
      have HWI : Hid (∀ e ∈ itemsE key E, Wide e) := fun e he => hwide.out e (mem_items.1 he).1.1
      obtain ⟨a3, c3, hv3, hE3⟩ := hR3.evs HWI.out
      subst hv3
      have HS3 : Aside (Evs w3 ao m c E ∧ Evs w3 a3 (itemsE key E).length c3 (itemsE key E) ∧ Below w.heap.size w w3) := ⟨HE1.out.below hb3 (Nat.le_refl _), hE3, HB2.out.trans (hb3.mono HB2.out.size)⟩
      have hil := items_len key E
      have HD : Hid (∀ k p X, (itemsE key E)[k]? = some p → X.kind = 10 → X.key = key → (X.rr = p.r ∧ X.rn = p.n) → coversE X p = true → itemsE key (E ++ [X]) = (itemsE key E).take k ++ (itemsE key E).drop (k + 1)) := fun k p X hp h1 h2 h3 h4 => items_drop HU.out h1 h2 h3 h4 hp
      clear hR3 hb3 hE3 HE1 HB2
      generalize hI : itemsE key E = I at *
      clear hI
      generalize hq9 : I.length = q at *
      by_cases hq0 : q = 0
      · have hq0z : (q : Int) = 0 := by omega
        have HB9 : Hid (Below w.heap.size w w3) := HS3.out.2.2
        clear HS3
        go_wp2
        go_ret
        exact ⟨rfl, HB9.out⟩
      · have hq0z : ¬ (q : Int) = 0 := by omega
        have hq0b : ((q : Int) == 0) = false := beq_false_of_ne hq0z
        obtain ⟨k, hk, hkq⟩ := cut_rem' cut q (by omega) hcut'.out
        obtain ⟨b, off, p, rfl, hpk, hp, hrp, hbp⟩ := HS3.out.2.1.at hkq
        have hix := fun W : World => index_ev W (b := b) (off := off) (k := k) (m := q) (c := c3) hkq
        have hld := load_dt hrp
        simp only [Nat.add_zero] at hld
        have hZ : LiesE (w3.alloc (.cells (evc zv) 34)) w3.heap.size zv := liesE_new _ _
        have hz0 : depTo 0 = zeros := rfl
        have H0 : Aside (LiesE ((w3.alloc (.cells (evc zv) 34)).setRow w3.heap.size (evc (remv key p.r p.n zeros))) w3.heap.size (remv key p.r p.n (depTo 0)) ∧ Below w3.heap.size w3 ((w3.alloc (.cells (evc zv) 34)).setRow w3.heap.size (evc (remv key p.r p.n zeros)))) := ⟨hZ.row _, below_setRow ((Below.refl _ _).alloc (Nat.le_refl _) _) (Nat.le_refl _) _⟩
        have HPK : Hid (I[k]? = some p) := hpk
        have HRP : Hid (w3.rangeAt b (off + k * 26) (evl p) ∧ b < w3.heap.size) := ⟨hrp, hbp⟩
        clear hz0 hrp hpk hcut' hp hbp
        have d0 : w3.cell? ⟨b, off + k * 26, none⟩ = some (.int .i64 p.r) := HRP.out.1 0 (.int .i64 p.r) rfl
        have d1 : w3.cell? ⟨b, off + k * 26 + 1, none⟩ = some (.int .i64 p.n) := HRP.out.1 1 (.int .i64 p.n) rfl
        clear hld
        go_wp2_with (first | refine wpl_exK rfl (exec_b3 (x := .const (.int .i64 10)) (y := .tmp 38) (z := .tmp 43) (ty := 32) (i := 0) (j := 1) (k := 5) (p := .int .i64 10) (q := .string (sb key)) (r := .agg (dotc p.r p.n)) (v := .agg (opc (remv key p.r p.n zeros))) rfl rfl rfl rfl (build_rop key p.r p.n _)) ?_ | refine wpl_exK rfl (exec_b1 (x := .tmp 44) (ty := 34) (i := 3) (p := .agg (opc (remv key p.r p.n zeros))) (v := .agg (evc (remv key p.r p.n zeros))) rfl rfl (build_rev key p.r p.n _)) ?_ | (refine store_ev (x := .tmp 9) (y := .tmp 45) (g := w3.heap.size) (e := remv key p.r p.n zeros) (e' := zv) rfl ?ho ?hx ?hy ?hg rfl rfl ?_; (case ho => exact rfl); (case hx => exact rfl); (case hy => exact rfl); (case hg => exact hZ)))
        change Code.wp _ _ _ _ ((w3.alloc (.cells (evc zv) 34)).setRow w3.heap.size (evc (remv key p.r p.n zeros)))
        generalize (w3.alloc (.cells (evc zv) 34)).setRow w3.heap.size (evc (remv key p.r p.n zeros)) = W4 at H0 ⊢
        clear hZ d0 d1
        go_loopg [46] 16 (fun kx s46 wr => ∃ i : Nat, s46 = .int .i64 i ∧ i ≤ 16 ∧ 16 - i ≤ kx ∧ Aside (LiesE wr w3.heap.size (remv key p.r p.n (depTo i)) ∧ Below w3.heap.size w3 wr))
        case atStart => exact ⟨0, rfl, Nat.zero_le _, by omega, H0⟩
        case round =>
          clear H0
          obtain ⟨i, rfl, hi16, hkx, HS⟩ := hrel
          by_cases hlt : i < 16
          · have hltz : (i : Int) < 16 := by omega
            have hc := HS.out.1.cd (j := i) (depTo_len hi16) hlt
            have hf := HS.out.1.frozen (k := 3 + i)
            have hia := fun W : World => run_indexAt_dep W w3.heap.size 3 i hlt
            have HS4 : Aside (LiesE (wr.setCell ⟨w3.heap.size, 3 + i, none⟩ (.int .i64 1048576)) w3.heap.size (remv key p.r p.n (depTo (i + 1))) ∧ Below w3.heap.size w3 (wr.setCell ⟨w3.heap.size, 3 + i, none⟩ (.int .i64 1048576))) := ⟨by rw [← depTo_set hlt]; exact HS.out.1.setDep i (depTo_len hi16) hlt 1048576, HS.out.2.setCell (Nat.le_refl _) _⟩
            generalize (remv key p.r p.n (depTo i)).deps.getD i 0 = y at hc
            clear HS
            go_wp2
            go_roundg (16 - (i + 1))
            case measure => omega
            case rel => exact ⟨i + 1, by go_num, by omega, Nat.le_refl _, HS4⟩
          · obtain rfl : i = 16 := by omega
            obtain ⟨w4, hw4⟩ : ∃ y : World, y = wr := ⟨_, rfl⟩
            subst hw4
            have d0 : w4.cell? ⟨b, off + k * 26, none⟩ = some (.int .i64 p.r) := (range_below HRP.out.1 HS.out.2 HRP.out.2) 0 (.int .i64 p.r) rfl
            have d1 : w4.cell? ⟨b, off + k * 26 + 1, none⟩ = some (.int .i64 p.n) := (range_below HRP.out.1 HS.out.2 HRP.out.2) 1 (.int .i64 p.n) rfl
            have hZD : LiesD (w4.alloc (.cells (dotc 0 0) 28)) w4.heap.size 0 0 := heap_alloc_new w4 _
            have hD : LiesD ((w4.alloc (.cells (dotc 0 0) 28)).setRow w4.heap.size (dotc p.r p.n)) w4.heap.size p.r p.n := hZD.row _ _
            have hb5 : Below w4.heap.size w4 ((w4.alloc (.cells (dotc 0 0) 28)).setRow w4.heap.size (dotc p.r p.n)) := below_setRow ((Below.refl _ _).alloc (Nat.le_refl _) _) (Nat.le_refl _) _
            obtain ⟨gx, hgx9⟩ : ∃ g : Nat, g = w3.heap.size := ⟨_, rfl⟩
            have HS5 : Aside (Evs ((w4.alloc (.cells (dotc 0 0) 28)).setRow w4.heap.size (dotc p.r p.n)) ao m c E ∧ Evs ((w4.alloc (.cells (dotc 0 0) 28)).setRow w4.heap.size (dotc p.r p.n)) (some ⟨b, off, none⟩) q c3 I ∧ LiesE ((w4.alloc (.cells (dotc 0 0) 28)).setRow w4.heap.size (dotc p.r p.n)) gx (remv key p.r p.n (depTo 16)) ∧ Below w.heap.size w ((w4.alloc (.cells (dotc 0 0) 28)).setRow w4.heap.size (dotc p.r p.n))) :=
              ⟨(HS3.out.1.below HS.out.2 (Nat.le_refl _)).below hb5 (Nat.le_refl _), (HS3.out.2.1.below HS.out.2 (Nat.le_refl _)).below hb5 (Nat.le_refl _), by rw [hgx9]; exact HS.out.1.below hb5 HS.out.1.lt, HS3.out.2.2.trans ((HS.out.2.trans (hb5.mono HS.out.2.size)).mono HS3.out.2.2.size)⟩
            clear HS hb5 hkx
            go_upto_region 14 with (refine store_dot (x := .tmp 11) (y := .tmp 57) (g := w4.heap.size) (r := p.r) (n := p.n) (r' := 0) (n' := 0) rfl ?ho ?hx ?hy ?hg ?_; (case ho => exact rfl); (case hx => exact rfl); (case hy => exact rfl); (case hg => exact hZD))
            rw [← hgx9]
            change Code.wp _ _ _ _ ((w4.alloc (.cells (dotc 0 0) 28)).setRow w4.heap.size (dotc p.r p.n))
            generalize (w4.alloc (.cells (dotc 0 0) 28)).setRow w4.heap.size (dotc p.r p.n) = W5 at hD HS5 ⊢
            have hc0 : W5.cell? ⟨w4.heap.size, 0, none⟩ = some (.int .i64 p.r) := LiesD.range hD 0 (.int .i64 p.r) rfl
            have hc1 : W5.cell? ⟨w4.heap.size, 1, none⟩ = some (.int .i64 p.n) := LiesD.range hD 1 (.int .i64 p.n) rfl
            have HB5 : Hid (Below w.heap.size w W5) := HS5.out.2.2.2
            clear hZD d0 d1 hD HRP HS3 hgx9
            by_cases h1 : p.r < 0
            · clear HS5
              go_wp2
              go_ret
              exact ⟨rfl, HB5.out⟩
            · by_cases h2 : 16 ≤ p.r
              · clear HS5
                go_wp2
                go_ret
                exact ⟨rfl, HB5.out⟩
              · by_cases h3 : p.n < 1
                · clear HS5
                  go_wp2
                  go_ret
                  exact ⟨rfl, HB5.out⟩
                · by_cases h4 : 1048576 < p.n
                  · clear HS5
                    go_wp2
                    go_ret
                    exact ⟨rfl, HB5.out⟩
                  · have HLI : Hid (itemsE key (E ++ [remv key p.r p.n (depTo 16)]) = I.take k ++ I.drop (k + 1)) := HD.out k p _ HPK.out rfl rfl ⟨rfl, rfl⟩ (rem_covers (by omega))
                    have hX := HS5.out.2.2.1
                    have hgx : gx < W5.heap.size := hX.lt
                    have X16 : (remv key p.r p.n (depTo 16)).deps.length = 16 := depTo_len (Nat.le_refl _)
                    have hXw : Wide (remv key p.r p.n (depTo 16)) := rem_wide (depTo_len (Nat.le_refl _)) hkey'.out
                    have HWX : Hid (∀ e ∈ E ++ [remv key p.r p.n (depTo 16)], Wide e) := fun e he => (List.mem_append.1 he).elim (hwide.out e) (fun h => by rw [List.mem_singleton.1 h]; exact hXw)
                    have HWL : Hid (∀ e ∈ I.take k ++ I.drop (k + 1), Wide e) := fun e he => (List.mem_append.1 he).elim (fun h => HWI.out e (List.mem_of_mem_take h)) (fun h => HWI.out e (List.mem_of_mem_drop h))
                    have hE5 := HS5.out.1
                    go_upto_region 16 with (fail)
                    clear hc0 hc1
                    go_cut [12] from 76 (fun s12 wx => Aside (Row wx W5.heap.size s12 (I.take k ++ I.drop (k + 1)) ∧ Below W5.heap.size W5 wx))
                    case first =>
                      refine wp_region_noPanic ?_
                      refine wp_region_held_drew (S := fun W' : World => LiesE W' gx (remv key p.r p.n (depTo 16))) (by kernel_rfl) (hX.below (Below.refl _ _).drew hgx) (fun hHeld => ?_)
                      refine wpAnyH_take (i := 1) (oi := { dst := some 77, op := _, type := _, pos := _, after := _, guard := _ }) (v := .slice ao m c) rfl (by kernel_rfl) (by kernel_rfl) (by kernel_rfl) (fun _ _ _ h => h) (Or.inl ⟨by rfl, ?_⟩) (by assumption) ?_
                      · intro w9 hSw
                        exact exec_move rfl rfl
                      simp only [Act.put, List.setIfInBounds_toArray, List.set_cons_zero, List.set_cons_succ]
                      refine wpAnyH_take (i := 3) (oi := { dst := some 79, op := _, type := _, pos := _, after := _, guard := _ }) (v := .agg (evc (remv key p.r p.n (depTo 16)))) rfl (by kernel_rfl) (by kernel_rfl) (by kernel_rfl) (fun _ _ _ h => h) (Or.inl ⟨by rfl, ?_⟩) (by assumption) ?_
                      · intro w9 hSw
                        exact exec_load (ad := ⟨gx, 0, none⟩) rfl rfl (load_ev_run hSw X16)
                      simp only [Act.put, List.setIfInBounds_toArray, List.set_cons_zero, List.set_cons_succ]
                      refine wpAnyH_take (i := 6) (oi := { dst := some 82, op := _, type := _, pos := _, after := _, guard := _ }) (v := .string (sb key)) rfl (by kernel_rfl) (by kernel_rfl) (by kernel_rfl) (fun _ _ _ h => h) (Or.inl ⟨by rfl, ?_⟩) (by assumption) ?_
                      · intro w9 hSw
                        exact exec_move rfl rfl
                      simp only [Act.put, List.setIfInBounds_toArray, List.set_cons_zero, List.set_cons_succ]
                      clear hHeld
                      have hbd : Below W5.heap.size W5 W5.drew := (Below.refl _ _).drew
                      generalize W5.drew = W0 at hbd ⊢
                      refine wpAnyH_ready (rs := [0, 4]) (by kernel_rfl) (by simp) ?_
                      refine AllReadyH.cons (o := { dst := some 76, op := _, type := _, pos := _, after := _, guard := _ }) rfl (fun K hK => ?_) ?_
                      · rw [if_pos (by rfl)]
                        have hb1 : Below W5.heap.size W5 (W0.alloc (.cells #[] 34)) := hbd.alloc hbd.size _
                        have hrow1 := row_empty W0 W5.heap.size hbd.size
                        refine wp_build0 rfl (run_build0 W0) ?_
                        refine hK.out _ _ (hX.below hb1 hgx) (fun hHeld => ?_)
                        clear hK K
                        simp only [Act.put, List.setIfInBounds_toArray, List.set_cons_zero, List.set_cons_succ]
                        clear hHeld
                        refine wpAnyH_ready (rs := [2, 4]) (by kernel_rfl) (by simp) ?_
                        refine AllReadyH.cons (o := { dst := some 78, op := _, type := _, pos := _, after := _, guard := _ }) rfl (fun K hK => ?_) ?_
                        · rw [if_pos (by rfl)]
                          refine wp_appE _ _ rfl W5.heap.size (.slice (some ⟨W0.heap.size, 0, none⟩) 0 0) [] rfl hrow1 _ _ _ E rfl (hE5.below hb1 (Nat.le_refl _)) (by simp; omega) hb1.size ?_
                          intro v2 w2 hR2 hg2 hw2
                          have hb2 : Below W5.heap.size W5 w2 := hb1.grown hg2 hb1.size hrow1.own
                          refine hK.out _ _ (hX.below hb2 hgx) (fun hHeld => ?_)
                          clear hK K
                          simp only [Act.put, List.setIfInBounds_toArray, List.set_cons_zero, List.set_cons_succ]
                          clear hHeld
                          rw [List.nil_append] at hR2
                          refine wpAnyH_ready (rs := [4]) (by kernel_rfl) (by simp) ?_
                          refine AllReadyH.cons (o := { dst := some 80, op := _, type := _, pos := _, after := _, guard := _ }) rfl (fun K hK => ?_) AllReadyH.nil
                          rw [if_pos (by rfl)]
                          have hb3 : Below W5.heap.size W5 (w2.alloc (.cells (evc (remv key p.r p.n (depTo 16))) 34)) := hb2.alloc hb2.size _
                          have ho3 : LiesE (w2.alloc (.cells (evc (remv key p.r p.n (depTo 16))) 34)) w2.heap.size (remv key p.r p.n (depTo 16)) := liesE_new w2 (remv key p.r p.n (depTo 16))
                          refine wp_buildK rfl rfl (run_build1 w2 (remv key p.r p.n (depTo 16)) X16) ?_
                          refine hK.out _ _ (hX.below hb3 hgx) (fun hHeld => ?_)
                          clear hK K
                          simp only [Act.put, List.setIfInBounds_toArray, List.set_cons_zero, List.set_cons_succ]
                          clear hHeld
                          have hrow3 := hR2.below ((Below.refl _ w2).alloc (Nat.le_refl _) (.cells (evc (remv key p.r p.n (depTo 16))) 34)) (Nat.le_refl _)
                          refine wpAnyH_ready (rs := [5]) (by kernel_rfl) (by simp) ?_
                          refine AllReadyH.cons (o := { dst := some 81, op := _, type := _, pos := _, after := _, guard := _ }) rfl (fun K hK => ?_) AllReadyH.nil
                          rw [if_pos (by rfl)]
                          refine wp_appE _ _ rfl W5.heap.size v2 E rfl hrow3 _ _ _ [(remv key p.r p.n (depTo 16))] rfl (evs_single _ _ (remv key p.r p.n (depTo 16)) hXw ho3) (by omega) hb3.size ?_
                          intro v4 w4 hR4 hg4 hw4
                          have hb4 : Below W5.heap.size W5 w4 := hb3.grown hg4 hb3.size hrow3.own
                          refine hK.out _ _ (hX.below hb4 hgx) (fun hHeld => ?_)
                          clear hK K
                          simp only [Act.put, List.setIfInBounds_toArray, List.set_cons_zero, List.set_cons_succ]
                          clear hHeld
                          obtain ⟨a6, c6, hv6, hE6⟩ := hR4.evs HWX.out
                          subst hv6
                          refine wpAnyH_ready (rs := [7]) (by kernel_rfl) (by simp) ?_
                          refine AllReadyH.cons (o := { dst := some 83, op := _, type := _, pos := _, after := _, guard := _ }) rfl (fun K hK => ?_) AllReadyH.nil
                          rw [if_pos (by rfl)]
                          refine wp_callL (xs := [.tmp 81, .tmp 82]) (vs := [.slice a6 (E ++ [(remv key p.r p.n (depTo 16))]).length c6, .string (sb key)]) rfl rfl (enters_items _ _) (items_any _ _ _ (E ++ [(remv key p.r p.n (depTo 16))]) key w4 hE6 (by simp only [List.length_append, List.length_singleton]; omega)) ?_
                          rintro e w70 ⟨v70, rfl, hR70, hb70⟩
                          refine ⟨_, rfl, ?_⟩
                          have hb80 : Below W5.heap.size W5 w70 := hb4.trans (hb70.mono hb4.size)
                          refine hK.out _ _ (hX.below hb80 hgx) (fun hHeld => ?_)
                          clear hK K
                          simp only [Act.put, List.setIfInBounds_toArray, List.set_cons_zero, List.set_cons_succ]
                          have HF : Aside (Row w70 W5.heap.size v70 (I.take k ++ I.drop (k + 1)) ∧ Below W5.heap.size W5 w70) := ⟨by rw [HLI.out] at hR70; exact hR70.lower hb4.size, hb80⟩
                          refine wpAnyH_take (i := 8) (oi := { dst := some 12, op := _, type := _, pos := _, after := _, guard := _ }) (v := v70) rfl (by kernel_rfl) (by kernel_rfl) (by kernel_rfl) (fun _ _ _ h => h) (Or.inl ⟨by rfl, ?_⟩) (by assumption) ?_
                          · intro w9 hSw
                            exact exec_assign rfl rfl
                          simp only [Act.put, List.setIfInBounds_toArray, List.set_cons_zero, List.set_cons_succ]
                          refine wpAnyH_done (by kernel_rfl) ?_ _
                          refine NoPanic.normal ?_
                          clear hHeld
                          go_wp2
                          go_meet
                          case rel => exact HF
                        · refine AllReadyH.cons (o := { dst := some 80, op := _, type := _, pos := _, after := _, guard := _ }) rfl (fun K hK => ?_) AllReadyH.nil
                          rw [if_pos (by rfl)]
                          have hb5 : Below W5.heap.size W5 ((W0.alloc (.cells #[] 34)).alloc (.cells (evc (remv key p.r p.n (depTo 16))) 34)) := hb1.alloc hb1.size _
                          have ho5 : LiesE ((W0.alloc (.cells #[] 34)).alloc (.cells (evc (remv key p.r p.n (depTo 16))) 34)) (W0.alloc (.cells #[] 34)).heap.size (remv key p.r p.n (depTo 16)) := liesE_new (W0.alloc (.cells #[] 34)) (remv key p.r p.n (depTo 16))
                          refine wp_buildK rfl rfl (run_build1 (W0.alloc (.cells #[] 34)) (remv key p.r p.n (depTo 16)) X16) ?_
                          refine hK.out _ _ (hX.below hb5 hgx) (fun hHeld => ?_)
                          clear hK K
                          simp only [Act.put, List.setIfInBounds_toArray, List.set_cons_zero, List.set_cons_succ]
                          clear hHeld
                          have hrow5 := hrow1.below ((Below.refl _ (W0.alloc (.cells #[] 34))).alloc (Nat.le_refl _) (.cells (evc (remv key p.r p.n (depTo 16))) 34)) (Nat.le_refl _)
                          refine wpAnyH_ready (rs := [2]) (by kernel_rfl) (by simp) ?_
                          refine AllReadyH.cons (o := { dst := some 78, op := _, type := _, pos := _, after := _, guard := _ }) rfl (fun K hK => ?_) AllReadyH.nil
                          rw [if_pos (by rfl)]
                          refine wp_appE _ _ rfl W5.heap.size (.slice (some ⟨W0.heap.size, 0, none⟩) 0 0) [] rfl hrow5 _ _ _ E rfl (hE5.below hb5 (Nat.le_refl _)) (by simp; omega) hb5.size ?_
                          intro v6 w6 hR6 hg6 hw6
                          have hb6 : Below W5.heap.size W5 w6 := hb5.grown hg6 hb5.size hrow5.own
                          refine hK.out _ _ (hX.below hb6 hgx) (fun hHeld => ?_)
                          clear hK K
                          simp only [Act.put, List.setIfInBounds_toArray, List.set_cons_zero, List.set_cons_succ]
                          clear hHeld
                          rw [List.nil_append] at hR6
                          have ho6 := ho5.keptK (hg6.block _ ho5.lt (fun e => by have e2 := Option.some.inj e; simp at e2))
                          refine wpAnyH_ready (rs := [5]) (by kernel_rfl) (by simp) ?_
                          refine AllReadyH.cons (o := { dst := some 81, op := _, type := _, pos := _, after := _, guard := _ }) rfl (fun K hK => ?_) AllReadyH.nil
                          rw [if_pos (by rfl)]
                          refine wp_appE _ _ rfl W5.heap.size v6 E rfl hR6 _ _ _ [(remv key p.r p.n (depTo 16))] rfl (evs_single _ _ (remv key p.r p.n (depTo 16)) hXw ho6) (by omega) hb6.size ?_
                          intro v7 w7 hR7 hg7 hw7
                          have hb7 : Below W5.heap.size W5 w7 := hb6.grown hg7 hb6.size hR6.own
                          refine hK.out _ _ (hX.below hb7 hgx) (fun hHeld => ?_)
                          clear hK K
                          simp only [Act.put, List.setIfInBounds_toArray, List.set_cons_zero, List.set_cons_succ]
                          clear hHeld
                          obtain ⟨a6, c6, hv6, hE6⟩ := hR7.evs HWX.out
                          subst hv6
                          refine wpAnyH_ready (rs := [7]) (by kernel_rfl) (by simp) ?_
                          refine AllReadyH.cons (o := { dst := some 83, op := _, type := _, pos := _, after := _, guard := _ }) rfl (fun K hK => ?_) AllReadyH.nil
                          rw [if_pos (by rfl)]
                          refine wp_callL (xs := [.tmp 81, .tmp 82]) (vs := [.slice a6 (E ++ [(remv key p.r p.n (depTo 16))]).length c6, .string (sb key)]) rfl rfl (enters_items _ _) (items_any _ _ _ (E ++ [(remv key p.r p.n (depTo 16))]) key w7 hE6 (by simp only [List.length_append, List.length_singleton]; omega)) ?_
                          rintro e w70 ⟨v70, rfl, hR70, hb70⟩
                          refine ⟨_, rfl, ?_⟩
                          have hb80 : Below W5.heap.size W5 w70 := hb7.trans (hb70.mono hb7.size)
                          refine hK.out _ _ (hX.below hb80 hgx) (fun hHeld => ?_)
                          clear hK K
                          simp only [Act.put, List.setIfInBounds_toArray, List.set_cons_zero, List.set_cons_succ]
                          have HF : Aside (Row w70 W5.heap.size v70 (I.take k ++ I.drop (k + 1)) ∧ Below W5.heap.size W5 w70) := ⟨by rw [HLI.out] at hR70; exact hR70.lower hb7.size, hb80⟩
                          refine wpAnyH_take (i := 8) (oi := { dst := some 12, op := _, type := _, pos := _, after := _, guard := _ }) (v := v70) rfl (by kernel_rfl) (by kernel_rfl) (by kernel_rfl) (fun _ _ _ h => h) (Or.inl ⟨by rfl, ?_⟩) (by assumption) ?_
                          · intro w9 hSw
                            exact exec_assign rfl rfl
                          simp only [Act.put, List.setIfInBounds_toArray, List.set_cons_zero, List.set_cons_succ]
                          refine wpAnyH_done (by kernel_rfl) ?_ _
                          refine NoPanic.normal ?_
                          clear hHeld
                          go_wp2
                          go_meet
                          case rel => exact HF
                      · refine AllReadyH.cons (o := { dst := some 80, op := _, type := _, pos := _, after := _, guard := _ }) rfl (fun K hK => ?_) AllReadyH.nil
                        rw [if_pos (by rfl)]
                        have hb8 : Below W5.heap.size W5 (W0.alloc (.cells (evc (remv key p.r p.n (depTo 16))) 34)) := hbd.alloc hbd.size _
                        have ho8 : LiesE (W0.alloc (.cells (evc (remv key p.r p.n (depTo 16))) 34)) W0.heap.size (remv key p.r p.n (depTo 16)) := liesE_new W0 (remv key p.r p.n (depTo 16))
                        refine wp_buildK rfl rfl (run_build1 W0 (remv key p.r p.n (depTo 16)) X16) ?_
                        refine hK.out _ _ (hX.below hb8 hgx) (fun hHeld => ?_)
                        clear hK K
                        simp only [Act.put, List.setIfInBounds_toArray, List.set_cons_zero, List.set_cons_succ]
                        clear hHeld
                        refine wpAnyH_ready (rs := [0]) (by kernel_rfl) (by simp) ?_
                        refine AllReadyH.cons (o := { dst := some 76, op := _, type := _, pos := _, after := _, guard := _ }) rfl (fun K hK => ?_) AllReadyH.nil
                        rw [if_pos (by rfl)]
                        have hb9 : Below W5.heap.size W5 ((W0.alloc (.cells (evc (remv key p.r p.n (depTo 16))) 34)).alloc (.cells #[] 34)) := hb8.alloc hb8.size _
                        have hrow9 := row_empty (W0.alloc (.cells (evc (remv key p.r p.n (depTo 16))) 34)) W5.heap.size hb8.size
                        refine wp_build0 rfl (run_build0 (W0.alloc (.cells (evc (remv key p.r p.n (depTo 16))) 34))) ?_
                        refine hK.out _ _ (hX.below hb9 hgx) (fun hHeld => ?_)
                        clear hK K
                        simp only [Act.put, List.setIfInBounds_toArray, List.set_cons_zero, List.set_cons_succ]
                        clear hHeld
                        have ho9 := ho8.alloc (.cells #[] 34)
                        refine wpAnyH_ready (rs := [2]) (by kernel_rfl) (by simp) ?_
                        refine AllReadyH.cons (o := { dst := some 78, op := _, type := _, pos := _, after := _, guard := _ }) rfl (fun K hK => ?_) AllReadyH.nil
                        rw [if_pos (by rfl)]
                        refine wp_appE _ _ rfl W5.heap.size (.slice (some ⟨(W0.alloc (.cells (evc (remv key p.r p.n (depTo 16))) 34)).heap.size, 0, none⟩) 0 0) [] rfl hrow9 _ _ _ E rfl (hE5.below hb9 (Nat.le_refl _)) (by simp; omega) hb9.size ?_
                        intro v10 w10 hR10 hg10 hw10
                        have hb10 : Below W5.heap.size W5 w10 := hb9.grown hg10 hb9.size hrow9.own
                        refine hK.out _ _ (hX.below hb10 hgx) (fun hHeld => ?_)
                        clear hK K
                        simp only [Act.put, List.setIfInBounds_toArray, List.set_cons_zero, List.set_cons_succ]
                        clear hHeld
                        rw [List.nil_append] at hR10
                        have ho10 := ho9.keptK (hg10.block _ ho9.lt (fun e => by have e2 := Option.some.inj e; simp at e2))
                        refine wpAnyH_ready (rs := [5]) (by kernel_rfl) (by simp) ?_
                        refine AllReadyH.cons (o := { dst := some 81, op := _, type := _, pos := _, after := _, guard := _ }) rfl (fun K hK => ?_) AllReadyH.nil
                        rw [if_pos (by rfl)]
                        refine wp_appE _ _ rfl W5.heap.size v10 E rfl hR10 _ _ _ [(remv key p.r p.n (depTo 16))] rfl (evs_single _ _ (remv key p.r p.n (depTo 16)) hXw ho10) (by omega) hb10.size ?_
                        intro v11 w11 hR11 hg11 hw11
                        have hb11 : Below W5.heap.size W5 w11 := hb10.grown hg11 hb10.size hR10.own
                        refine hK.out _ _ (hX.below hb11 hgx) (fun hHeld => ?_)
                        clear hK K
                        simp only [Act.put, List.setIfInBounds_toArray, List.set_cons_zero, List.set_cons_succ]
                        clear hHeld
                        obtain ⟨a6, c6, hv6, hE6⟩ := hR11.evs HWX.out
                        subst hv6
                        refine wpAnyH_ready (rs := [7]) (by kernel_rfl) (by simp) ?_
                        refine AllReadyH.cons (o := { dst := some 83, op := _, type := _, pos := _, after := _, guard := _ }) rfl (fun K hK => ?_) AllReadyH.nil
                        rw [if_pos (by rfl)]
                        refine wp_callL (xs := [.tmp 81, .tmp 82]) (vs := [.slice a6 (E ++ [(remv key p.r p.n (depTo 16))]).length c6, .string (sb key)]) rfl rfl (enters_items _ _) (items_any _ _ _ (E ++ [(remv key p.r p.n (depTo 16))]) key w11 hE6 (by simp only [List.length_append, List.length_singleton]; omega)) ?_
                        rintro e w70 ⟨v70, rfl, hR70, hb70⟩
                        refine ⟨_, rfl, ?_⟩
                        have hb80 : Below W5.heap.size W5 w70 := hb11.trans (hb70.mono hb11.size)
                        refine hK.out _ _ (hX.below hb80 hgx) (fun hHeld => ?_)
                        clear hK K
                        simp only [Act.put, List.setIfInBounds_toArray, List.set_cons_zero, List.set_cons_succ]
                        have HF : Aside (Row w70 W5.heap.size v70 (I.take k ++ I.drop (k + 1)) ∧ Below W5.heap.size W5 w70) := ⟨by rw [HLI.out] at hR70; exact hR70.lower hb11.size, hb80⟩
                        refine wpAnyH_take (i := 8) (oi := { dst := some 12, op := _, type := _, pos := _, after := _, guard := _ }) (v := v70) rfl (by kernel_rfl) (by kernel_rfl) (by kernel_rfl) (fun _ _ _ h => h) (Or.inl ⟨by rfl, ?_⟩) (by assumption) ?_
                        · intro w9 hSw
                          exact exec_assign rfl rfl
                        simp only [Act.put, List.setIfInBounds_toArray, List.set_cons_zero, List.set_cons_succ]
                        refine wpAnyH_done (by kernel_rfl) ?_ _
                        refine NoPanic.normal ?_
                        clear hHeld
                        go_wp2
                        go_meet
                        case rel => exact HF
                    case rest =>
                    rename World => W6
                    obtain ⟨aL, cL, hvL, hEL⟩ := hcut.out.1.evs HWL.out
                    subst hvL
                    have hI6 := HS5.out.2.1.below hcut.out.2 (Nat.le_refl _)
                    have HB6 : Hid (Below w.heap.size w W6) := HB5.out.trans (hcut.out.2.mono HB5.out.size)
                    have hkc : k ≤ c3 := by have := hI6.room; omega
                    have hsf := fun W : World => slice_from W (ao := some ⟨b, off, none⟩) (m := q) (c := c3) (k := k + 1) (by omega)
                    obtain ⟨ak, hak⟩ : ∃ ak, dropA (some ⟨b, off, none⟩) c3 (k + 1) = ak := ⟨_, rfl⟩
                    rw [hak] at hsf
                    have HAK : Hid (dropA (some ⟨b, off, none⟩) c3 (k + 1) = ak) := hak
                    have hLl : (I.take k ++ I.drop (k + 1)).length ≤ 1000 := by rw [List.length_append, List.length_take, List.length_drop]; omega
                    clear hcut hX hE5 HS5 hak X16 hXw HWX HLI
                    go_upto_region 17 with (fail)
                    refine wp_region_noPanic ?_
                    refine wp_region_held_drew (S := fun W' : World => True) (by kernel_rfl) trivial (fun hHeld => ?_)
                    refine wpAnyH_take (i := 0) (oi := { dst := some 84, op := _, type := _, pos := _, after := _, guard := _ }) (v := .slice aL (I.take k ++ I.drop (k + 1)).length cL) rfl (by kernel_rfl) (by kernel_rfl) (by kernel_rfl) (fun _ _ _ h => h) (Or.inl ⟨by rfl, ?_⟩) (by assumption) ?_
                    · intro w9 hSw
                      exact exec_move rfl rfl
                    simp only [Act.put, List.setIfInBounds_toArray, List.set_cons_zero, List.set_cons_succ]
                    refine wpAnyH_take (i := 2) (oi := { dst := some 86, op := _, type := _, pos := _, after := _, guard := _ }) (v := .slice (some ⟨b, off, none⟩) q c3) rfl (by kernel_rfl) (by kernel_rfl) (by kernel_rfl) (fun _ _ _ h => h) (Or.inl ⟨by rfl, ?_⟩) (by assumption) ?_
                    · intro w9 hSw
                      exact exec_move rfl rfl
                    simp only [Act.put, List.setIfInBounds_toArray, List.set_cons_zero, List.set_cons_succ]
                    refine wpAnyH_take (i := 3) (oi := { dst := some 87, op := _, type := _, pos := _, after := _, guard := _ }) (v := .int .i64 (k : Int)) rfl (by kernel_rfl) (by kernel_rfl) (by kernel_rfl) (fun _ _ _ h => h) (Or.inl ⟨by rfl, ?_⟩) (by assumption) ?_
                    · intro w9 hSw
                      exact exec_move rfl rfl
                    simp only [Act.put, List.setIfInBounds_toArray, List.set_cons_zero, List.set_cons_succ]
                    refine wpAnyH_take (i := 4) (oi := { dst := some 88, op := _, type := _, pos := _, after := _, guard := _ }) (v := .slice (some ⟨b, off, none⟩) k c3) rfl (by kernel_rfl) (by kernel_rfl) (by kernel_rfl) (fun _ _ _ h => h) (Or.inl ⟨by rfl, ?_⟩) (by assumption) ?_
                    · intro w9 hSw
                      exact exec_slice rfl rfl rfl (slice_at w9 hkc)
                    simp only [Act.put, List.setIfInBounds_toArray, List.set_cons_zero, List.set_cons_succ]
                    refine wpAnyH_take (i := 6) (oi := { dst := some 90, op := _, type := _, pos := _, after := _, guard := _ }) (v := .slice (some ⟨b, off, none⟩) q c3) rfl (by kernel_rfl) (by kernel_rfl) (by kernel_rfl) (fun _ _ _ h => h) (Or.inl ⟨by rfl, ?_⟩) (by assumption) ?_
                    · intro w9 hSw
                      exact exec_move rfl rfl
                    simp only [Act.put, List.setIfInBounds_toArray, List.set_cons_zero, List.set_cons_succ]
                    refine wpAnyH_take (i := 7) (oi := { dst := some 91, op := _, type := _, pos := _, after := _, guard := _ }) (v := .int .i64 (k : Int)) rfl (by kernel_rfl) (by kernel_rfl) (by kernel_rfl) (fun _ _ _ h => h) (Or.inl ⟨by rfl, ?_⟩) (by assumption) ?_
                    · intro w9 hSw
                      exact exec_move rfl rfl
                    simp only [Act.put, List.setIfInBounds_toArray, List.set_cons_zero, List.set_cons_succ]
                    refine wpAnyH_take (i := 8) (oi := { dst := some 92, op := _, type := _, pos := _, after := _, guard := _ }) (v := .int .i64 ((k + 1 : Nat) : Int)) rfl (by kernel_rfl) (by kernel_rfl) (by kernel_rfl) (fun _ _ _ h => h) (Or.inl ⟨by rfl, ?_⟩) (by assumption) ?_
                    · intro w9 hSw
                      exact exec_bin rfl rfl rfl (eqGuard_ik _) (add_oneK w9 k (by omega))
                    simp only [Act.put, List.setIfInBounds_toArray, List.set_cons_zero, List.set_cons_succ]
                    refine wpAnyH_take (i := 9) (oi := { dst := some 93, op := _, type := _, pos := _, after := _, guard := _ }) (v := .slice ak (q - (k + 1)) (c3 - (k + 1))) rfl (by kernel_rfl) (by kernel_rfl) (by kernel_rfl) (fun _ _ _ h => h) (Or.inl ⟨by rfl, ?_⟩) (by assumption) ?_
                    · intro w9 hSw
                      exact exec_slicef rfl rfl rfl (hsf w9)
                    simp only [Act.put, List.setIfInBounds_toArray, List.set_cons_zero, List.set_cons_succ]
                    clear hHeld
                    have hbd : Below W6.heap.size W6 W6.drew := (Below.refl _ _).drew
                    generalize W6.drew = W0 at hbd ⊢
                    refine wpAnyH_ready (rs := [1]) (by kernel_rfl) (by simp) ?_
                    refine AllReadyH.cons (o := { dst := some 85, op := _, type := _, pos := _, after := _, guard := _ }) rfl (fun K hK => ?_) AllReadyH.nil
                    rw [if_pos (by rfl)]
                    have hb1 : Below W6.heap.size W6 (W0.alloc (.cells #[] 34)) := hbd.alloc hbd.size _
                    have hrow1 := row_empty W0 W6.heap.size hbd.size
                    refine wp_build0 rfl (run_build0 W0) ?_
                    refine hK.out _ _ trivial (fun hHeld => ?_)
                    clear hK K
                    simp only [Act.put, List.setIfInBounds_toArray, List.set_cons_zero, List.set_cons_succ]
                    clear hHeld
                    refine wpAnyH_ready (rs := [5]) (by kernel_rfl) (by simp) ?_
                    refine AllReadyH.cons (o := { dst := some 89, op := _, type := _, pos := _, after := _, guard := _ }) rfl (fun K hK => ?_) AllReadyH.nil
                    rw [if_pos (by rfl)]
                    refine wp_appE _ _ rfl W6.heap.size (.slice (some ⟨W0.heap.size, 0, none⟩) 0 0) [] rfl hrow1 _ _ _ (I.take k) rfl (Evs.take (hI6.below hb1 (Nat.le_refl _)) (Nat.le_of_lt hkq)) (by simp; omega) hb1.size ?_
                    intro v2 w2 hR2 hg2 hw2
                    have hb2 : Below W6.heap.size W6 w2 := hb1.grown hg2 hb1.size hrow1.own
                    refine hK.out _ _ trivial (fun hHeld => ?_)
                    clear hK K
                    simp only [Act.put, List.setIfInBounds_toArray, List.set_cons_zero, List.set_cons_succ]
                    clear hHeld
                    rw [List.nil_append] at hR2
                    refine wpAnyH_ready (rs := [10]) (by kernel_rfl) (by simp) ?_
                    refine AllReadyH.cons (o := { dst := some 94, op := _, type := _, pos := _, after := _, guard := _ }) rfl (fun K hK => ?_) AllReadyH.nil
                    rw [if_pos (by rfl)]
                    refine wp_appE _ _ rfl W6.heap.size v2 (I.take k) rfl hR2 _ _ _ (I.drop (k + 1)) rfl (HAK.out ▸ (hI6.below hb2 (Nat.le_refl _)).drop (show k + 1 ≤ q by omega)) (by have := List.length_take_le k I; omega) hb2.size ?_
                    intro v3 w3 hR3 hg3 hw3
                    have hb3 : Below W6.heap.size W6 w3 := hb2.grown hg3 hb2.size hR2.own
                    refine hK.out _ _ trivial (fun hHeld => ?_)
                    clear hK K
                    simp only [Act.put, List.setIfInBounds_toArray, List.set_cons_zero, List.set_cons_succ]
                    clear hHeld
                    obtain ⟨a9, c9, hv9, hE9⟩ := hR3.evs HWL.out
                    subst hv9
                    refine wpAnyH_ready (rs := [11]) (by kernel_rfl) (by simp) ?_
                    refine AllReadyH.cons (o := { dst := some 95, op := _, type := _, pos := _, after := _, guard := _ }) rfl (fun K hK => ?_) AllReadyH.nil
                    rw [if_pos (by rfl)]
                    refine wp_callL (xs := [.tmp 84, .tmp 94]) (vs := [.slice aL (I.take k ++ I.drop (k + 1)).length cL, .slice a9 (I.take k ++ I.drop (k + 1)).length c9]) rfl rfl (enters_same _ _) (same_yes aL a9 _ cL c9 (I.take k ++ I.drop (k + 1)) w3 (hEL.below hb3 (Nat.le_refl _)) hE9 (by omega)) ?_
                    rintro e w90 ⟨rfl, hb90⟩
                    refine ⟨_, rfl, ?_⟩
                    refine hK.out _ _ trivial (fun hHeld => ?_)
                    clear hK K
                    simp only [Act.put, List.setIfInBounds_toArray, List.set_cons_zero, List.set_cons_succ]
                    have HF : Hid (Below w.heap.size w w90) := HB6.out.trans ((hb3.trans (hb90.mono hb3.size)).mono HB6.out.size)
                    refine wpAnyH_take (i := 12) (oi := { dst := some 6, op := _, type := _, pos := _, after := _, guard := _ }) (v := .bool true) rfl (by kernel_rfl) (by kernel_rfl) (by kernel_rfl) (fun _ _ _ h => h) (Or.inl ⟨by rfl, ?_⟩) (by assumption) ?_
                    · intro w9 hSw
                      exact exec_assign rfl rfl
                    simp only [Act.put, List.setIfInBounds_toArray, List.set_cons_zero, List.set_cons_succ]
                    refine wpAnyH_done (by kernel_rfl) ?_ _
                    refine NoPanic.normal ?_
                    clear hHeld
                    go_wp2
                    go_ret
                    exact ⟨rfl, HF.out⟩
end Go.Proofs.Ytagjgamigldjnab
