/-
  LivePrunes's walk.
-/
import Derived.Test.YtmnhbkehicpohaaLsa
import Derived.Test.YtmnhbkehicpohaaLun
import Derived.Test.YtmnhbkehicpohaaLsl
namespace Go.Proofs.Ytmnhbkehicpohaa
set_option maxRecDepth 100000
open Go.RowKit

theorem enters_rcovers (xs : Array Value) (w : World) : (callFunc 24 xs).run Try.prog w = .ok (.enter 24 xs) w := enters Try.func24 (by kernel_rfl) (by kernel_rfl) xs w

theorem prunes_pure {E : List Ev} {k : Nat} (hu : Unlike E) (hc : ∀ a q x y, k ≤ a → E[a]? = some x → q < k → E[q]? = some y → coversE y x = false) : allE (allE (E.take k) ++ E.drop k) = allE E := by
  rw [prunes (x := E.take k) (y := E.drop k) ?_ (by rw [List.take_append_drop]; exact hu), List.take_append_drop]
  intro a ha b hb
  obtain ⟨i, hi⟩ := List.getElem?_of_mem ha
  obtain ⟨q, hq⟩ := List.getElem?_of_mem hb
  rw [List.getElem?_drop] at hi
  have hql : q < k := by
    have := (List.getElem?_eq_some_iff.1 hq).1
    rw [List.length_take] at this
    omega
  rw [List.getElem?_take_of_lt hql] at hq
  exact hc (k + i) q a b (by omega) hi hql hq

set_option maxHeartbeats 1000000 in
theorem prunes_walk (ao : Option Addr) (m c : Nat) (E : List Ev) (cut : Int) (hcut : (Lit.int .u64 cut).wf = true) (w : World) (hE : Evs w ao m c E) :
    Calls Try.prog 8 #[.slice ao m c, .int .u64 cut] w fun e w' => e = .returned (.bool true) ∧ Below w.heap.size w w' := by
  have hlen := hE.len
  have hroom := hE.room
  have HE : Aside (Evs w ao m c E) := hE
  have hwd : Hid (∀ e ∈ E, Wide e) := hE.wide
  obtain ⟨k, hk, hkm⟩ := cut_mod cut m hcut
  clear hE
  go_enter Try.func8, Try.ntmps8
  go_wp2_with fail
  refine (awake_any w).mono ?_
  rintro e w1 ⟨rfl, hb1⟩
  have HB1 : Hid (Below w.heap.size w w1) := hb1
  clear hb1
  go_wp2_with fail
  refine (few_any ao m c E w1 (HE.out.below HB1.out (Nat.le_refl _))).mono ?_
  rintro e w2 ⟨t, rfl, ht, hb2⟩
  have HB2 : Hid (Below w.heap.size w w2) := HB1.out.trans (hb2.mono HB1.out.size)
  clear hb2 HB1
  cases t with
  | false =>
    go_wp2_with fail
    refine (awake_any w2).mono ?_
    rintro e w3 ⟨rfl, hb3⟩
    have HB3 : Hid (Below w.heap.size w w3) := HB2.out.trans (hb3.mono HB2.out.size)
    clear hb3 HB2
    go_wp2
    go_ret
    exact ⟨rfl, HB3.out⟩
  | true =>
    have hm := ht rfl
    clear ht
    go_wp2_with fail
    refine (unlike_any ao m c E w2 (HE.out.below HB2.out (Nat.le_refl _)) (by omega)).mono ?_
    rintro e w3 ⟨t, rfl, ht, hb3⟩
    have HB3 : Hid (Below w.heap.size w w3) := HB2.out.trans (hb3.mono HB2.out.size)
    clear hb3 HB2
    cases t with
    | false =>
      go_wp2_with fail
      refine (awake_any w3).mono ?_
      rintro e w4 ⟨rfl, hb4⟩
      have HB4 : Hid (Below w.heap.size w w4) := HB3.out.trans (hb4.mono HB3.out.size)
      clear hb4 HB3
      go_wp2
      go_ret
      exact ⟨rfl, HB4.out⟩
    | true =>
    have hu : Hid (Unlike E) := ht rfl
    clear ht
    have hkc : k ≤ c := by omega
    have hwk : wrap64 (k : Int) = (k : Int) := by unfold wrap64; omega
    go_wp2
    clear hwk
    go_loopg [6] (m - k) (fun kx s6 wr => ∃ i : Nat, s6 = .int .i64 i ∧ k ≤ i ∧ i ≤ m ∧ m - i ≤ kx ∧ Aside ((∀ a q x y, k ≤ a → a < i → E[a]? = some x → q < k → E[q]? = some y → coversE y x = false) ∧ Below w.heap.size w wr))
    case atStart => exact ⟨k, rfl, Nat.le_refl _, hkm, Nat.le_refl _, ⟨fun a q x y h1 h2 => by omega, HB3.out⟩⟩
    case round =>
      clear HB3
      obtain ⟨i, rfl, hki, him, hkO, HS⟩ := hrel
      by_cases hlt : i < m
      · have hltz : (i : Int) < (m : Int) := by omega
        obtain ⟨b1, o1, x, rfl, hx, hwx, -, -⟩ := HE.out.at hlt
        go_wp2
        go_loopg [7] k (fun kx s7 wr2 => ∃ n : Nat, s7 = .int .i64 n ∧ n ≤ k ∧ k - n ≤ kx ∧ Aside ((∀ q y, q < n → E[q]? = some y → coversE y x = false) ∧ Below w.heap.size w wr2))
        case atStart => exact ⟨0, rfl, Nat.zero_le _, by omega, ⟨fun q y h => by omega, HS.out.2⟩⟩
        case round =>
          obtain ⟨n, rfl, hnk, hkx, HJ⟩ := hrel
          by_cases hnl : n < k
          · have hnz : (n : Int) < (k : Int) := by omega
            have hnm : n < m := by omega
            obtain ⟨b1', o1', y, hb1', hy, hwy, hr2, hl2⟩ := (HE.out.below HJ.out.2 (Nat.le_refl _)).at hnm
            obtain ⟨b1'', o1'', x', hb1'', hx', -, hr1, hl1⟩ := (HE.out.below HJ.out.2 (Nat.le_refl _)).at hlt
            obtain rfl : x = x' := by rw [hx] at hx'; exact Option.some.inj hx'
            simp only [Option.some.injEq, Addr.mk.injEq, and_true] at hb1' hb1''
            obtain ⟨rfl, rfl⟩ := hb1'
            obtain ⟨rfl, rfl⟩ := hb1''
            go_wp2_with fail
            refine wp_region_noPanic ?_
            refine wp_region_held_drew (S := fun W' : World => W'.rangeAt b1 (o1 + n * 26) (evl y) ∧ W'.rangeAt b1 (o1 + i * 26) (evl x)) (by kernel_rfl) ⟨hr2, hr1⟩ (fun hHeld => ?_)
            refine wpAnyH_take (i := 0) (oi := { dst := some 41, op := _, type := _, pos := _, after := _, guard := _ }) (v := .slice (some ⟨b1, o1, none⟩) m c) rfl (by kernel_rfl) (by kernel_rfl) (by kernel_rfl) (fun _ _ _ h => h) (Or.inl ⟨by rfl, ?_⟩) (by assumption) ?_
            · intro w9 hSw
              exact exec_move rfl rfl
            simp only [Act.put, List.setIfInBounds_toArray, List.set_cons_zero, List.set_cons_succ]
            refine wpAnyH_take (i := 1) (oi := { dst := some 42, op := _, type := _, pos := _, after := _, guard := _ }) (v := .int .i64 (n : Int)) rfl (by kernel_rfl) (by kernel_rfl) (by kernel_rfl) (fun _ _ _ h => h) (Or.inl ⟨by rfl, ?_⟩) (by assumption) ?_
            · intro w9 hSw
              exact exec_move rfl rfl
            simp only [Act.put, List.setIfInBounds_toArray, List.set_cons_zero, List.set_cons_succ]
            refine wpAnyH_take (i := 2) (oi := { dst := some 43, op := _, type := _, pos := _, after := _, guard := _ }) (v := .pointer (some ⟨b1, o1 + n * 26, none⟩)) rfl (by kernel_rfl) (by kernel_rfl) (by kernel_rfl) (fun _ _ _ h => h) (Or.inl ⟨by rfl, ?_⟩) (by assumption) ?_
            · intro w9 hSw
              exact exec_index rfl rfl rfl (index_ev w9 hnm)
            simp only [Act.put, List.setIfInBounds_toArray, List.set_cons_zero, List.set_cons_succ]
            refine wpAnyH_take (i := 3) (oi := { dst := some 44, op := _, type := _, pos := _, after := _, guard := _ }) (v := .agg (evc y)) rfl (by kernel_rfl) (by kernel_rfl) (by kernel_rfl) (fun _ _ _ h => h) (Or.inl ⟨by rfl, ?_⟩) (by assumption) ?_
            · intro w9 hSw
              exact exec_load (ad := ⟨b1, o1 + n * 26, none⟩) rfl rfl (load_part hSw.1 hwy.1)
            simp only [Act.put, List.setIfInBounds_toArray, List.set_cons_zero, List.set_cons_succ]
            refine wpAnyH_take (i := 4) (oi := { dst := some 45, op := _, type := _, pos := _, after := _, guard := _ }) (v := .slice (some ⟨b1, o1, none⟩) m c) rfl (by kernel_rfl) (by kernel_rfl) (by kernel_rfl) (fun _ _ _ h => h) (Or.inl ⟨by rfl, ?_⟩) (by assumption) ?_
            · intro w9 hSw
              exact exec_move rfl rfl
            simp only [Act.put, List.setIfInBounds_toArray, List.set_cons_zero, List.set_cons_succ]
            refine wpAnyH_take (i := 5) (oi := { dst := some 46, op := _, type := _, pos := _, after := _, guard := _ }) (v := .int .i64 (i : Int)) rfl (by kernel_rfl) (by kernel_rfl) (by kernel_rfl) (fun _ _ _ h => h) (Or.inl ⟨by rfl, ?_⟩) (by assumption) ?_
            · intro w9 hSw
              exact exec_move rfl rfl
            simp only [Act.put, List.setIfInBounds_toArray, List.set_cons_zero, List.set_cons_succ]
            refine wpAnyH_take (i := 6) (oi := { dst := some 47, op := _, type := _, pos := _, after := _, guard := _ }) (v := .pointer (some ⟨b1, o1 + i * 26, none⟩)) rfl (by kernel_rfl) (by kernel_rfl) (by kernel_rfl) (fun _ _ _ h => h) (Or.inl ⟨by rfl, ?_⟩) (by assumption) ?_
            · intro w9 hSw
              exact exec_index rfl rfl rfl (index_ev w9 hlt)
            simp only [Act.put, List.setIfInBounds_toArray, List.set_cons_zero, List.set_cons_succ]
            refine wpAnyH_take (i := 7) (oi := { dst := some 48, op := _, type := _, pos := _, after := _, guard := _ }) (v := .agg (evc x)) rfl (by kernel_rfl) (by kernel_rfl) (by kernel_rfl) (fun _ _ _ h => h) (Or.inl ⟨by rfl, ?_⟩) (by assumption) ?_
            · intro w9 hSw
              exact exec_load (ad := ⟨b1, o1 + i * 26, none⟩) rfl rfl (load_part hSw.2 hwx.1)
            simp only [Act.put, List.setIfInBounds_toArray, List.set_cons_zero, List.set_cons_succ]
            clear hHeld
            refine wpAnyH_ready (rs := [8]) (by kernel_rfl) (by simp) ?_
            refine AllReadyH.cons (o := { dst := some 49, op := _, type := _, pos := _, after := _, guard := _ }) rfl (fun K hK => ?_) AllReadyH.nil
            rw [if_pos (by rfl)]
            refine wp_callL (xs := [.tmp 44, .tmp 48]) (vs := [.agg (evc y), .agg (evc x)]) rfl rfl (enters_rcovers _ _) (rcovers_any y x hwy.1 _) ?_
            rintro e w5 ⟨rfl, hb5⟩
            refine ⟨_, rfl, ?_⟩
            refine hK.out _ _ ⟨range_below (w := wr.drew) hr2 hb5 hl2, range_below (w := wr.drew) hr1 hb5 hl1⟩ (fun hHeld => ?_)
            clear hK K
            simp only [Act.put]
            refine wpAnyH_done (by kernel_rfl) ?_ _
            refine NoPanic.normal ?_
            clear hHeld
            have hb6 : Below w.heap.size w w5 := HJ.out.2.drew.trans (hb5.mono HJ.out.2.size)
            clear hr1 hr2 hb5
            rcases Bool.eq_false_or_eq_true (coversE y x) with hc | hc
            · have HB6 : Hid (Below w.heap.size w w5) := hb6
              rw [hc]
              clear hb6 HJ HS
              go_wp2
              go_ret
              exact ⟨rfl, HB6.out⟩
            · have HJ2 : Aside ((∀ q y, q < n + 1 → E[q]? = some y → coversE y x = false) ∧ Below w.heap.size w w5) := by
                refine ⟨fun q z hq hz => ?_, hb6⟩
                by_cases hqn : q < n
                · exact HJ.out.1 q z hqn hz
                · obtain rfl : q = n := by omega
                  rw [hy] at hz
                  obtain rfl := Option.some.inj hz
                  exact hc
              rw [hc]
              clear hb6 HJ
              go_wp2
              go_roundg (k - (n + 1))
              case measure => omega
              case rel => exact ⟨n + 1, by go_num, by omega, Nat.le_refl _, HJ2⟩
          · obtain rfl : n = k := by omega
            have HS2 : Aside ((∀ a q x y, n ≤ a → a < i + 1 → E[a]? = some x → q < n → E[q]? = some y → coversE y x = false) ∧ Below w.heap.size w wr) := by
              refine ⟨fun a q z y h1 h2 h3 h4 h5 => ?_, HJ.out.2⟩
              by_cases hai : a < i
              · exact HS.out.1 a q z y h1 hai h3 h4 h5
              · obtain rfl : a = i := by omega
                rw [hx] at h3
                obtain rfl := Option.some.inj h3
                exact HJ.out.1 q y h4 h5
            clear HS HJ
            go_wp2
            go_roundg (m - (i + 1))
            case measure => omega
            case rel => exact ⟨i + 1, by go_num, by omega, by omega, Nat.le_refl _, HS2⟩
      · obtain rfl : i = m := by omega
        have hall : Hid (allE (allE (E.take k) ++ E.drop k) = allE E) := prunes_pure hu.out (fun a q x y h1 h2 h3 h4 => HS.out.1 a q x y h1 (by have := (List.getElem?_eq_some_iff.1 h2).1; omega) h2 h3 h4)
        have hb0 : Below w.heap.size w wr := HS.out.2
        have hsf := fun W : World => slice_from W (ao := ao) (m := i) (c := c) (k := k) hkm
        have hlB : (allE (E.take k)).length ≤ k := by have := all_length (E.take k); have := List.length_take_le k E; omega
        have hld : (E.drop k).length = i - k := by rw [List.length_drop]; omega
        clear HS
        obtain ⟨ak, hak⟩ : ∃ ak, dropA ao c k = ak := ⟨_, rfl⟩
        rw [hak] at hsf
        have HAK : Hid (dropA ao c k = ak) := hak
        obtain ⟨L, hL⟩ : ∃ L, allE (E.take k) ++ E.drop k = L := ⟨_, rfl⟩
        have HL : Hid (allE (E.take k) ++ E.drop k = L) := hL
        have hallL : Hid (allE L = allE E) := by show _ = _; rw [← hL]; exact hall.out
        have hlk : L.length ≤ 400 := by rw [← hL, List.length_append]; omega
        have hwL : Hid (∀ e ∈ L, Wide e) := by
          show ∀ e ∈ L, Wide e
          rw [← hL]
          exact fun e he => (List.mem_append.1 he).elim (fun h => hwd.out e (List.mem_of_mem_take (mem_all h))) (fun h => hwd.out e (List.mem_of_mem_drop h))
        clear hak hL hall
        go_upto_region 12 with (fail)
        go_cut [8] from 50 (fun s8 wx => Aside (Row wx w.heap.size s8 L ∧ Below w.heap.size w wx))
        case first =>
          refine wp_region_noPanic ?_
          refine wp_region_held_drew (S := fun W' : World => True) (by kernel_rfl) trivial (fun hHeld => ?_)
          refine wpAnyH_take (i := 1) (oi := { dst := some 51, op := _, type := _, pos := _, after := _, guard := _ }) (v := .slice ao i c) rfl (by kernel_rfl) (by kernel_rfl) (by kernel_rfl) (fun _ _ _ h => h) (Or.inl ⟨by rfl, ?_⟩) (by assumption) ?_
          · intro w9 hSw
            exact exec_move rfl rfl
          simp only [Act.put, List.setIfInBounds_toArray, List.set_cons_zero, List.set_cons_succ]
          refine wpAnyH_take (i := 2) (oi := { dst := some 52, op := _, type := _, pos := _, after := _, guard := _ }) (v := .int .i64 (k : Int)) rfl (by kernel_rfl) (by kernel_rfl) (by kernel_rfl) (fun _ _ _ h => h) (Or.inl ⟨by rfl, ?_⟩) (by assumption) ?_
          · intro w9 hSw
            exact exec_move rfl rfl
          simp only [Act.put, List.setIfInBounds_toArray, List.set_cons_zero, List.set_cons_succ]
          refine wpAnyH_take (i := 3) (oi := { dst := some 53, op := _, type := _, pos := _, after := _, guard := _ }) (v := .slice ao k c) rfl (by kernel_rfl) (by kernel_rfl) (by kernel_rfl) (fun _ _ _ h => h) (Or.inl ⟨by rfl, ?_⟩) (by assumption) ?_
          · intro w9 hSw
            exact exec_slice rfl rfl rfl (slice_at w9 hkc)
          simp only [Act.put, List.setIfInBounds_toArray, List.set_cons_zero, List.set_cons_succ]
          refine wpAnyH_take (i := 6) (oi := { dst := some 56, op := _, type := _, pos := _, after := _, guard := _ }) (v := .slice ao i c) rfl (by kernel_rfl) (by kernel_rfl) (by kernel_rfl) (fun _ _ _ h => h) (Or.inl ⟨by rfl, ?_⟩) (by assumption) ?_
          · intro w9 hSw
            exact exec_move rfl rfl
          simp only [Act.put, List.setIfInBounds_toArray, List.set_cons_zero, List.set_cons_succ]
          refine wpAnyH_take (i := 7) (oi := { dst := some 57, op := _, type := _, pos := _, after := _, guard := _ }) (v := .int .i64 (k : Int)) rfl (by kernel_rfl) (by kernel_rfl) (by kernel_rfl) (fun _ _ _ h => h) (Or.inl ⟨by rfl, ?_⟩) (by assumption) ?_
          · intro w9 hSw
            exact exec_move rfl rfl
          simp only [Act.put, List.setIfInBounds_toArray, List.set_cons_zero, List.set_cons_succ]
          refine wpAnyH_take (i := 8) (oi := { dst := some 58, op := _, type := _, pos := _, after := _, guard := _ }) (v := .slice ak (i - k) (c - k)) rfl (by kernel_rfl) (by kernel_rfl) (by kernel_rfl) (fun _ _ _ h => h) (Or.inl ⟨by rfl, ?_⟩) (by assumption) ?_
          · intro w9 hSw
            exact exec_slicef rfl rfl rfl (hsf w9)
          simp only [Act.put, List.setIfInBounds_toArray, List.set_cons_zero, List.set_cons_succ]
          clear hHeld
          have hbd : Below w.heap.size w wr.drew := hb0.drew
          generalize wr.drew = W0 at hbd ⊢
          refine wpAnyH_ready (rs := [0, 4]) (by kernel_rfl) (by simp) ?_
          refine AllReadyH.cons (o := { dst := some 50, op := _, type := _, pos := _, after := _, guard := _ }) rfl (fun K hK => ?_) ?_
          · rw [if_pos (by rfl)]
            refine wp_build0 rfl (run_build0 W0) ?_
            refine hK.out _ _ trivial (fun hHeld => ?_)
            clear hK K
            simp only [Act.put, List.setIfInBounds_toArray, List.set_cons_zero, List.set_cons_succ]
            clear hHeld
            have hbz0 : Below w.heap.size w (W0.alloc (.cells #[] 30)) := hbd.alloc hbd.size _
            have hr0 := row_empty W0 w.heap.size hbd.size
            refine wpAnyH_ready (rs := [4]) (by kernel_rfl) (by simp) ?_
            refine AllReadyH.cons (o := { dst := some 54, op := _, type := _, pos := _, after := _, guard := _ }) rfl (fun K hK => ?_) AllReadyH.nil
            rw [if_pos (by rfl)]
            refine wp_callL (xs := [.tmp 53]) (vs := [.slice ao k c]) rfl rfl (enters_all _ _) (all_any _ _ _ (E.take k) (W0.alloc (.cells #[] 30)) (Evs.take (HE.out.below hbz0 (Nat.le_refl _)) hkm) (by omega)) ?_
            rintro e wc ⟨vA, rfl, hRA, hbc⟩
            refine ⟨_, rfl, ?_⟩
            refine hK.out _ _ trivial (fun hHeld => ?_)
            clear hK K
            simp only [Act.put, List.setIfInBounds_toArray, List.set_cons_zero, List.set_cons_succ]
            clear hHeld
            obtain ⟨aA, cA, hvA, hEA⟩ := hRA.evs (fun e he => hwd.out e (List.mem_of_mem_take (mem_all he)))
            subst hvA
            have hrow0 := hr0.below hbc (Nat.le_refl _)
            have hEA2 := hEA
            have hbz : Below w.heap.size w wc := hbz0.trans (hbc.mono hbz0.size)
            clear hr0 hbz0 hbc hRA hEA hbd
            refine wpAnyH_ready (rs := [5]) (by kernel_rfl) (by simp) ?_
            refine AllReadyH.cons (o := { dst := some 55, op := _, type := _, pos := _, after := _, guard := _ }) rfl (fun K hK => ?_) AllReadyH.nil
            rw [if_pos (by rfl)]
            refine wp_appE _ _ rfl w.heap.size (.slice (some ⟨W0.heap.size, 0, none⟩) 0 0) [] rfl hrow0 _ _ _ (allE (E.take k)) rfl hEA2 (by simp; omega) hbz.size ?_
            intro v5 w5 hR5 hg5 ho5
            refine hK.out _ _ trivial (fun hHeld => ?_)
            clear hK K
            simp only [Act.put, List.setIfInBounds_toArray, List.set_cons_zero, List.set_cons_succ]
            clear hHeld
            have hb5 : Below w.heap.size w w5 := hbz.grown hg5 hbz.size hrow0.own
            rw [List.nil_append] at hR5
            refine wpAnyH_ready (rs := [9]) (by kernel_rfl) (by simp) ?_
            refine AllReadyH.cons (o := { dst := some 59, op := _, type := _, pos := _, after := _, guard := _ }) rfl (fun K hK => ?_) AllReadyH.nil
            rw [if_pos (by rfl)]
            refine wp_appE _ _ rfl w.heap.size v5 (allE (E.take k)) rfl hR5 _ _ _ (E.drop k) rfl (HAK.out ▸ (HE.out.below hb5 (Nat.le_refl _)).drop hkm) (by omega) hb5.size ?_
            intro v6 w6 hR6 hg6 ho6
            refine hK.out _ _ trivial (fun hHeld => ?_)
            clear hK K
            simp only [Act.put, List.setIfInBounds_toArray, List.set_cons_zero, List.set_cons_succ]
            have HF : Aside (Row w6 w.heap.size v6 L ∧ Below w.heap.size w w6) := ⟨HL.out ▸ hR6, hb5.grown hg6 hb5.size hR5.own⟩
            clear hR6 hg6 ho6 hR5 hg5 ho5 hb5 hrow0 hEA2 hbz
            refine wpAnyH_take (i := 10) (oi := { dst := some 8, op := _, type := _, pos := _, after := _, guard := _ }) (v := v6) rfl (by kernel_rfl) (by kernel_rfl) (by kernel_rfl) (fun _ _ _ h => h) (Or.inl ⟨by rfl, ?_⟩) (by assumption) ?_
            · intro w9 hSw
              exact exec_assign rfl rfl
            simp only [Act.put, List.setIfInBounds_toArray, List.set_cons_zero, List.set_cons_succ]
            refine wpAnyH_done (by kernel_rfl) ?_ _
            refine NoPanic.normal ?_
            clear hHeld
            go_wp2
            go_meet
            case rel => exact HF
          · refine AllReadyH.cons (o := { dst := some 54, op := _, type := _, pos := _, after := _, guard := _ }) rfl (fun K hK => ?_) AllReadyH.nil
            rw [if_pos (by rfl)]
            refine wp_callL (xs := [.tmp 53]) (vs := [.slice ao k c]) rfl rfl (enters_all _ _) (all_any _ _ _ (E.take k) W0 (Evs.take (HE.out.below hbd (Nat.le_refl _)) hkm) (by omega)) ?_
            rintro e wc ⟨vA, rfl, hRA, hbc⟩
            refine ⟨_, rfl, ?_⟩
            refine hK.out _ _ trivial (fun hHeld => ?_)
            clear hK K
            simp only [Act.put, List.setIfInBounds_toArray, List.set_cons_zero, List.set_cons_succ]
            clear hHeld
            obtain ⟨aA, cA, hvA, hEA⟩ := hRA.evs (fun e he => hwd.out e (List.mem_of_mem_take (mem_all he)))
            subst hvA
            have hbz0 : Below w.heap.size w wc := hbd.trans (hbc.mono hbd.size)
            refine wpAnyH_ready (rs := [0]) (by kernel_rfl) (by simp) ?_
            refine AllReadyH.cons (o := { dst := some 50, op := _, type := _, pos := _, after := _, guard := _ }) rfl (fun K hK => ?_) AllReadyH.nil
            rw [if_pos (by rfl)]
            refine wp_build0 rfl (run_build0 wc) ?_
            refine hK.out _ _ trivial (fun hHeld => ?_)
            clear hK K
            simp only [Act.put, List.setIfInBounds_toArray, List.set_cons_zero, List.set_cons_succ]
            clear hHeld
            have hrow0 := row_empty wc w.heap.size hbz0.size
            have hEA2 := hEA.below ((Below.refl _ wc).alloc (Nat.le_refl _) (Obj.cells #[] 30)) (Nat.le_refl _)
            have hbz : Below w.heap.size w (wc.alloc (.cells #[] 30)) := hbz0.alloc hbz0.size _
            clear hbz0 hbc hRA hEA hbd
            refine wpAnyH_ready (rs := [5]) (by kernel_rfl) (by simp) ?_
            refine AllReadyH.cons (o := { dst := some 55, op := _, type := _, pos := _, after := _, guard := _ }) rfl (fun K hK => ?_) AllReadyH.nil
            rw [if_pos (by rfl)]
            refine wp_appE _ _ rfl w.heap.size (.slice (some ⟨wc.heap.size, 0, none⟩) 0 0) [] rfl hrow0 _ _ _ (allE (E.take k)) rfl hEA2 (by simp; omega) hbz.size ?_
            intro v5 w5 hR5 hg5 ho5
            refine hK.out _ _ trivial (fun hHeld => ?_)
            clear hK K
            simp only [Act.put, List.setIfInBounds_toArray, List.set_cons_zero, List.set_cons_succ]
            clear hHeld
            have hb5 : Below w.heap.size w w5 := hbz.grown hg5 hbz.size hrow0.own
            rw [List.nil_append] at hR5
            refine wpAnyH_ready (rs := [9]) (by kernel_rfl) (by simp) ?_
            refine AllReadyH.cons (o := { dst := some 59, op := _, type := _, pos := _, after := _, guard := _ }) rfl (fun K hK => ?_) AllReadyH.nil
            rw [if_pos (by rfl)]
            refine wp_appE _ _ rfl w.heap.size v5 (allE (E.take k)) rfl hR5 _ _ _ (E.drop k) rfl (HAK.out ▸ (HE.out.below hb5 (Nat.le_refl _)).drop hkm) (by omega) hb5.size ?_
            intro v6 w6 hR6 hg6 ho6
            refine hK.out _ _ trivial (fun hHeld => ?_)
            clear hK K
            simp only [Act.put, List.setIfInBounds_toArray, List.set_cons_zero, List.set_cons_succ]
            have HF : Aside (Row w6 w.heap.size v6 L ∧ Below w.heap.size w w6) := ⟨HL.out ▸ hR6, hb5.grown hg6 hb5.size hR5.own⟩
            clear hR6 hg6 ho6 hR5 hg5 ho5 hb5 hrow0 hEA2 hbz
            refine wpAnyH_take (i := 10) (oi := { dst := some 8, op := _, type := _, pos := _, after := _, guard := _ }) (v := v6) rfl (by kernel_rfl) (by kernel_rfl) (by kernel_rfl) (fun _ _ _ h => h) (Or.inl ⟨by rfl, ?_⟩) (by assumption) ?_
            · intro w9 hSw
              exact exec_assign rfl rfl
            simp only [Act.put, List.setIfInBounds_toArray, List.set_cons_zero, List.set_cons_succ]
            refine wpAnyH_done (by kernel_rfl) ?_ _
            refine NoPanic.normal ?_
            clear hHeld
            go_wp2
            go_meet
            case rel => exact HF
        case rest =>
        rename World => wx
        obtain ⟨aK, cK, hvK, hEK⟩ := hcut.out.1.evs hwL.out
        subst hvK
        have hbx : Below w.heap.size w wx := hcut.out.2
        clear hcut hb0 hsf
        go_wp2_with fail
        refine (all_any aK _ cK _ wx hEK (by omega)).mono ?_
        rintro e w5 ⟨v5, rfl, hR5, hb5⟩
        have hb5' : Below w.heap.size w w5 := hbx.trans (hb5.mono hbx.size)
        rw [hallL.out] at hR5
        clear hEK hb5
        go_wp2_with fail
        refine (all_any ao i c E w5 (HE.out.below hb5' (Nat.le_refl _)) (by omega)).mono ?_
        rintro e w6 ⟨v6, rfl, hR6, hb6⟩
        obtain ⟨a5, c5, hv5, hE5⟩ := (hR5.below hb6 (Nat.le_refl _)).evs (fun e he => hwd.out e (mem_all he))
        obtain ⟨a6, c6, hv6, hE6⟩ := hR6.evs (fun e he => hwd.out e (mem_all he))
        subst hv5 hv6
        have hb6' : Below w.heap.size w w6 := hb5'.trans (hb6.mono hb5'.size)
        have hla := all_length E
        clear hR5 hR6 hb6 hb5' hbx
        go_wp2_with fail
        refine (same_yes a5 a6 _ c5 c6 _ w6 hE5 hE6 (by omega)).mono ?_
        rintro e w7 ⟨rfl, hb7⟩
        have HB7 : Hid (Below w.heap.size w w7) := hb6'.trans (hb7.mono hb6'.size)
        clear hb7 hb6' hE5 hE6
        go_wp2
        go_ret
        exact ⟨rfl, HB7.out⟩
end Go.Proofs.Ytmnhbkehicpohaa
