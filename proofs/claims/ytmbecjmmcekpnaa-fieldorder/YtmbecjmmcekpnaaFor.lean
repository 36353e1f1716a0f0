/-
  FieldOrder: the walk.
-/
import Derived.Test.YtmbecjmmcekpnaaFwk
namespace Go.Proofs.Ytmbecjmmcekpnaa
set_option maxRecDepth 100000
open Go.RowKit Go.Sort

/-- The last events, turned round. -/
def backE (E : List Ev) (j : Nat) : List Ev := (E.drop j).reverse
theorem back_end {E : List Ev} {m : Nat} (h : E.length = m) : backE E m = [] := by rw [backE, List.drop_of_length_le (by omega)]; rfl
theorem back_step {E : List Ev} {j : Nat} {u : Ev} (hu : E[j]? = some u) : backE E j = backE E (j + 1) ++ [u] := by
  obtain ⟨hj, rfl⟩ := List.getElem?_eq_some_iff.1 hu
  rw [backE, List.drop_eq_getElem_cons hj, List.reverse_cons]
  rfl
theorem back_all (E : List Ev) : backE E 0 = E.reverse := by simp [backE]
theorem back_len (E : List Ev) (j : Nat) : (backE E j).length = E.length - j := by simp [backE]
/-- From the place j on none has the dot of one ahead of it. -/
def NoneFrom (E : List Ev) (j : Nat) : Prop := ∀ p x, j ≤ p → E[p]? = some x → ∀ q y, q < p → E[q]? = some y → ¬ sameDot x y
theorem none_end {E : List Ev} {m : Nat} (h : E.length = m) : NoneFrom E m := fun p x hp hx => by
  have := (List.getElem?_eq_some_iff.1 hx).1
  omega
theorem none_step {E : List Ev} {j : Nat} {x : Ev} (h : NoneFrom E (j + 1)) (hx : E[j]? = some x) (hn : ∀ q y, q < j → E[q]? = some y → ¬ sameDot x y) : NoneFrom E j := fun p z hp hz => by
  by_cases hpj : p = j
  · subst hpj
    rw [hx] at hz
    obtain rfl := Option.some.inj hz
    exact hn
  · exact h p z (by omega) hz
theorem none_unlike {E : List Ev} (h : NoneFrom E 0) : Unlike E := by
  unfold Unlike
  rw [List.pairwise_iff_getElem]
  intro i j hi hj hij hs
  exact h j _ (Nat.zero_le _) (List.getElem?_eq_getElem hj) i _ hij (List.getElem?_eq_getElem hi) ⟨hs.1.symm, hs.2.symm⟩
theorem pairs_same {E M : List Ev} (hu : Unlike E) (hm : ∀ x, x ∈ M ↔ x ∈ E) (R : List (List UInt8)) : R.map (pairF M) = R.map (pairF E) :=
  List.map_congr_left fun s _ => by unfold pairF; rw [valF_same hu hm]
set_option maxHeartbeats 4000000 in
theorem forder_walk (ao : Option Addr) (m c : Nat) (E : List Ev) (w : World) (hE : Evs w ao m c E) :
    Calls Try.prog 4 #[.slice ao m c] w fun e w' => e = .returned (.bool true) ∧ Below w.heap.size w w' := by
  have hlen := hE.len
  have HE : Aside (Evs w ao m c E) := hE
  have hwd : Hid (∀ e ∈ E, Wide e) := hE.wide
  clear hE
  go_enter Try.func4, Try.ntmps4
  go_wp2_with fail
  refine (awake_any w).mono ?_
  rintro e w1 ⟨rfl, hb1⟩
  have HE1 : Aside (Evs w1 ao m c E ∧ Below w.heap.size w w1) := ⟨HE.out.below hb1 (Nat.le_refl _), hb1⟩
  clear hb1
  go_wp2_with fail
  refine (few_any ao m c E w1 HE1.out.1).mono ?_
  rintro e w2 ⟨t, rfl, ht, hb2⟩
  have HB2 : Hid (Below w.heap.size w w2) := HE1.out.2.trans (hb2.mono HE1.out.2.size)
  clear hb2 HE1
  cases t with
  | false =>
    clear ht
    go_wp2_with fail
    refine (awake_any w2).mono ?_
    rintro e w3 ⟨rfl, hb3⟩
    have HB3 : Hid (Below w.heap.size w w3) := HB2.out.trans (hb3.mono HB2.out.size)
    clear hb3
    go_wp2
    go_ret
    exact ⟨rfl, HB3.out⟩
  | true =>
    have hm : m ≤ 200 := ht rfl
    clear ht
    have H3 : Aside (Row w2 w.heap.size (.slice none 0 0) (backE E m) ∧ NoneFrom E m ∧ Below w.heap.size w w2) := ⟨by rw [back_end hlen]; exact row_nil _ _, none_end hlen, HB2.out⟩
    clear HB2
    go_wp2
    go_loopg [3, 4] m (fun kx s3 s4 wz => ∃ j : Nat, s4 = .int .i64 ((j : Int) - 1) ∧ j ≤ m ∧ j ≤ kx ∧ Aside (Row wz w.heap.size s3 (backE E j) ∧ NoneFrom E j ∧ Below w.heap.size w wz))
    case atStart => exact ⟨m, rfl, Nat.le_refl _, Nat.le_refl _, H3⟩
    case round =>
      clear H3
      obtain ⟨j, rfl, hjm, hkx, HS⟩ := hrel
      rcases j with _ | i
      · have HU : Hid (Unlike E) := none_unlike HS.out.2.1
        have HT : Hid (∀ x, x ∈ backE E 0 ↔ x ∈ E) := fun x => by rw [back_all, List.mem_reverse]
        have hwT : Hid (∀ e ∈ backE E 0, Wide e) := fun e he => hwd.out e ((HT.out e).1 he)
        have hTl : (backE E 0).length ≤ 1000 := by rw [back_len]; omega
        obtain ⟨aT, cT, hvT, hET⟩ := HS.out.1.evs hwT.out
        have HT4 : Aside (Evs wr ao m c E ∧ Evs wr aT (backE E 0).length cT (backE E 0) ∧ Below w.heap.size w wr) := ⟨HE.out.below HS.out.2.2 (Nat.le_refl _), hET, HS.out.2.2⟩
        subst hvT
        clear HS hET hkx HE hwT
        generalize backE E 0 = T at *
        go_wp2_with fail
        refine (fall_any ao m c E wr HT4.out.1 (by omega)).mono ?_
        rintro e w5 ⟨v5, R5, rfl, hR5, hs5, hm5, hl5, hb5⟩
        have HE5 : Aside (Evs w5 aT T.length cT T ∧ Below w.heap.size w w5 ∧ PRow w5 wr.heap.size v5 (R5.map (pairF E))) := ⟨HT4.out.2.1.below hb5 (Nat.le_refl _), HT4.out.2.2.trans (hb5.mono HT4.out.2.2.size), hR5⟩
        have H5 : Hid (R5.Pairwise (· < ·) ∧ ∀ z, z ∈ R5 ↔ z ∈ fldF E) := ⟨hs5, hm5⟩
        clear hb5 HT4 hR5 hs5 hm5
        go_wp2_with fail
        refine (fall_any aT T.length cT T w5 HE5.out.1 hTl).mono ?_
        rintro e w6 ⟨v6, R6, rfl, hR6, hs6, hm6, hl6, hb6⟩
        obtain rfl : R5 = R6 := strict_one _ _ H5.out.1 hs6 (fun z => by rw [H5.out.2, hm6, fldF_same HT.out])
        rw [pairs_same HU.out HT.out] at hR6
        obtain ⟨a5, c5, hv5, hL5⟩ := (HE5.out.2.2.below hb6 (Nat.le_refl _)).pl
        obtain ⟨a6, c6, hv6, hL6⟩ := hR6.pl
        have HB6 : Hid (Below w.heap.size w w6) := HE5.out.2.1.trans (hb6.mono HE5.out.2.1.size)
        have hlS : (R5.map (pairF E)).length ≤ 1000 := by rw [List.length_map]; omega
        have H1 : Aside (PL w6 a5 (R5.map (pairF E)) ∧ PL w6 a6 (R5.map (pairF E))) := ⟨hL5, hL6⟩
        subst hv5 hv6
        clear hb6 HE5 hR6 hs6 hm6 H5 hL5 hL6 hl5 hl6
        generalize R5.map (pairF E) = S at *
        obtain ⟨n, hn⟩ : ∃ n, n = S.length := ⟨_, rfl⟩
        have HN : Hid (n = S.length) := hn
        rw [← hn] at hlS ⊢
        clear hn
        have H7 : Aside (Below w6.heap.size w6 w6) := Below.refl _ _
        go_wp2
        go_loopg [58] n (fun kx s58 wr => ∃ k : Nat, s58 = .int .i64 (k : Int) ∧ k ≤ n ∧ n - k ≤ kx ∧ Aside (Below w6.heap.size w6 wr))
        case atStart => exact ⟨0, rfl, Nat.zero_le _, by omega, H7⟩
        case round =>
          clear H7
          obtain ⟨k, rfl, hk, hkx, HB⟩ := hrel
          by_cases hkm : k < n
          · have hkz : (k : Int) < (n : Int) := by omega
            obtain ⟨d, hd⟩ : ∃ d, S[k]? = some d := ⟨_, List.getElem?_eq_getElem (by have := HN.out; omega)⟩
            obtain ⟨g1, rfl, x0, x1⟩ := (H1.out.1.below HB.out (Nat.le_refl _)) k d hd
            obtain ⟨g2, rfl, y0, y1⟩ := (H1.out.2.below HB.out (Nat.le_refl _)) k d hd
            have hix := fun W : World => index_P W (b := g1) (off := 0) (k := k) (m := n) (c := c5) hkm
            have hiy := fun W : World => index_P W (b := g2) (off := 0) (k := k) (m := n) (c := c6) hkm
            simp only [Nat.zero_add] at hix hiy
            have hpl := plain_P
            have heq : ∀ W, (Op.equalIn 10000 42 (.agg #[.string (sb d.1), .string (sb d.2)]) (.agg #[.string (sb d.1), .string (sb d.2)])).run Try.prog W = .ok true W := fun W => by
              have := run_equalIn_P W 9998 d d
              rw [decide_eq_true rfl] at this
              exact this
            have HB2 : Aside (Below w6.heap.size w6 wr.drew) := HB.out.drew
            clear HB hd
            go_wp2_with fail
            go_region
            go_wp2
            go_roundg (n - (k + 1))
            case measure => omega
            case rel => exact ⟨k + 1, by go_num, by omega, Nat.le_refl _, HB2⟩
          · obtain rfl : k = n := by omega
            have HB7 : Hid (Below w.heap.size w wr) := HB6.out.trans (HB.out.mono HB6.out.size)
            clear HB
            go_wp2
            go_ret
            exact ⟨rfl, HB7.out⟩
      · have hj1 : (((i + 1 : Nat) : Int) - 1) = (i : Int) := by omega
        rw [hj1]
        have hlt : i < m := by omega
        have hiz : (0 : Int) ≤ (i : Int) := by omega
        obtain ⟨b1, o1, x, rfl, hx, hwx, -, -⟩ := (HE.out.below HS.out.2.2 (Nat.le_refl _)).at hlt
        obtain ⟨w3, hw3⟩ : ∃ w3, w3 = wr := ⟨_, rfl⟩
        subst hw3
        have HR3 : Aside (Row w3 w.heap.size u3 (backE E (i + 1)) ∧ NoneFrom E (i + 1) ∧ Below w.heap.size w w3) := HS.out
        clear HS
        go_wp2
        go_loopg [5] i (fun kx s5 wr2 => ∃ j : Nat, s5 = .int .i64 j ∧ j ≤ i ∧ i - j ≤ kx ∧ Aside ((∀ q y, q < j → E[q]? = some y → ¬ sameDot x y) ∧ Below w3.heap.size w3 wr2))
        case atStart => exact ⟨0, rfl, Nat.zero_le _, by omega, ⟨fun q y h => by omega, Below.refl _ _⟩⟩
        case round =>
          obtain ⟨j, rfl, hji, hkx2, HJ⟩ := hrel
          have hBw : Hid (Below w.heap.size w wr) := HR3.out.2.2.trans (HJ.out.2.mono HR3.out.2.2.size)
          by_cases hjl : j < i
          · have hjz : (j : Int) < (i : Int) := by omega
            have hjm : j < m := by omega
            obtain ⟨b1', o1', y, hb1', hy, hwy, hr2, hl2⟩ := (HE.out.below hBw.out.drew (Nat.le_refl _)).at hjm
            obtain ⟨b1'', o1'', x', hb1'', hx', -, hr1, hl1⟩ := (HE.out.below hBw.out.drew (Nat.le_refl _)).at hlt
            obtain rfl : x = x' := by rw [hx] at hx'; exact Option.some.inj hx'
            simp only [Option.some.injEq, Addr.mk.injEq, and_true] at hb1' hb1''
            obtain ⟨rfl, rfl⟩ := hb1'
            obtain ⟨rfl, rfl⟩ := hb1''
            by_cases hs : x.r = y.r ∧ x.n = y.n
            · have hd : decide (x.r = y.r ∧ x.n = y.n) = true := decide_eq_true hs
              have HB : Hid (Below w.heap.size w wr.drew) := hBw.out.drew
              go_wp2_with fail
              refine wp_region_noPanic ?_
              refine wp_region_held_drew (S := fun W' : World => W'.rangeAt b1 (o1 + i * 26) (evl x) ∧ W'.rangeAt b1 (o1 + j * 26) (evl y)) (by kernel_rfl) ⟨hr1, hr2⟩ (fun hHeld => ?_)
              refine wpAnyH_take (i := 0) (oi := { dst := some 29, op := _, type := _, pos := _, after := _, guard := _ }) (v := .slice (some ⟨b1, o1, none⟩) m c) rfl (by kernel_rfl) (by kernel_rfl) (by kernel_rfl) (fun _ _ _ h => h) (Or.inl ⟨by rfl, ?_⟩) (by assumption) ?_
              · intro w9 hSw
                exact exec_move rfl rfl
              simp only [Act.put, List.setIfInBounds_toArray, List.set_cons_zero, List.set_cons_succ]
              refine wpAnyH_take (i := 1) (oi := { dst := some 30, op := _, type := _, pos := _, after := _, guard := _ }) (v := .int .i64 (i : Int)) rfl (by kernel_rfl) (by kernel_rfl) (by kernel_rfl) (fun _ _ _ h => h) (Or.inl ⟨by rfl, ?_⟩) (by assumption) ?_
              · intro w9 hSw
                exact exec_move rfl rfl
              simp only [Act.put, List.setIfInBounds_toArray, List.set_cons_zero, List.set_cons_succ]
              refine wpAnyH_take (i := 2) (oi := { dst := some 31, op := _, type := _, pos := _, after := _, guard := _ }) (v := .pointer (some ⟨b1, o1 + i * 26, none⟩)) rfl (by kernel_rfl) (by kernel_rfl) (by kernel_rfl) (fun _ _ _ h => h) (Or.inl ⟨by rfl, ?_⟩) (by assumption) ?_
              · intro w9 hSw
                exact exec_index rfl rfl rfl (index_ev w9 hlt)
              simp only [Act.put, List.setIfInBounds_toArray, List.set_cons_zero, List.set_cons_succ]
              refine wpAnyH_take (i := 3) (oi := { dst := some 32, op := _, type := _, pos := _, after := _, guard := _ }) (v := .pointer (some ⟨b1, o1 + i * 26 + 0, none⟩)) rfl (by kernel_rfl) (by kernel_rfl) (by kernel_rfl) (fun _ _ _ h => h) (Or.inl ⟨by rfl, ?_⟩) (by assumption) ?_
              · intro w9 hSw
                exact exec_field rfl rfl (fun w => field_e0 w _ _)
              simp only [Act.put, List.setIfInBounds_toArray, List.set_cons_zero, List.set_cons_succ]
              refine wpAnyH_take (i := 4) (oi := { dst := some 33, op := _, type := _, pos := _, after := _, guard := _ }) (v := .agg (dotc x.r x.n)) rfl (by kernel_rfl) (by kernel_rfl) (by kernel_rfl) (fun _ _ _ h => h) (Or.inl ⟨by rfl, ?_⟩) (by assumption) ?_
              · intro w9 hSw
                exact exec_load (ad := ⟨b1, o1 + i * 26 + 0, none⟩) rfl rfl (load_dt hSw.1)
              simp only [Act.put, List.setIfInBounds_toArray, List.set_cons_zero, List.set_cons_succ]
              refine wpAnyH_take (i := 5) (oi := { dst := some 34, op := _, type := _, pos := _, after := _, guard := _ }) (v := .slice (some ⟨b1, o1, none⟩) m c) rfl (by kernel_rfl) (by kernel_rfl) (by kernel_rfl) (fun _ _ _ h => h) (Or.inl ⟨by rfl, ?_⟩) (by assumption) ?_
              · intro w9 hSw
                exact exec_move rfl rfl
              simp only [Act.put, List.setIfInBounds_toArray, List.set_cons_zero, List.set_cons_succ]
              refine wpAnyH_take (i := 6) (oi := { dst := some 35, op := _, type := _, pos := _, after := _, guard := _ }) (v := .int .i64 (j : Int)) rfl (by kernel_rfl) (by kernel_rfl) (by kernel_rfl) (fun _ _ _ h => h) (Or.inl ⟨by rfl, ?_⟩) (by assumption) ?_
              · intro w9 hSw
                exact exec_move rfl rfl
              simp only [Act.put, List.setIfInBounds_toArray, List.set_cons_zero, List.set_cons_succ]
              refine wpAnyH_take (i := 7) (oi := { dst := some 36, op := _, type := _, pos := _, after := _, guard := _ }) (v := .pointer (some ⟨b1, o1 + j * 26, none⟩)) rfl (by kernel_rfl) (by kernel_rfl) (by kernel_rfl) (fun _ _ _ h => h) (Or.inl ⟨by rfl, ?_⟩) (by assumption) ?_
              · intro w9 hSw
                exact exec_index rfl rfl rfl (index_ev w9 hjm)
              simp only [Act.put, List.setIfInBounds_toArray, List.set_cons_zero, List.set_cons_succ]
              refine wpAnyH_take (i := 8) (oi := { dst := some 37, op := _, type := _, pos := _, after := _, guard := _ }) (v := .pointer (some ⟨b1, o1 + j * 26 + 0, none⟩)) rfl (by kernel_rfl) (by kernel_rfl) (by kernel_rfl) (fun _ _ _ h => h) (Or.inl ⟨by rfl, ?_⟩) (by assumption) ?_
              · intro w9 hSw
                exact exec_field rfl rfl (fun w => field_e0 w _ _)
              simp only [Act.put, List.setIfInBounds_toArray, List.set_cons_zero, List.set_cons_succ]
              refine wpAnyH_take (i := 9) (oi := { dst := some 38, op := _, type := _, pos := _, after := _, guard := _ }) (v := .agg (dotc y.r y.n)) rfl (by kernel_rfl) (by kernel_rfl) (by kernel_rfl) (fun _ _ _ h => h) (Or.inl ⟨by rfl, ?_⟩) (by assumption) ?_
              · intro w9 hSw
                exact exec_load (ad := ⟨b1, o1 + j * 26 + 0, none⟩) rfl rfl (load_dt hSw.2)
              simp only [Act.put, List.setIfInBounds_toArray, List.set_cons_zero, List.set_cons_succ]
              refine wpAnyH_take (i := 10) (oi := { dst := some 39, op := _, type := _, pos := _, after := _, guard := _ }) (v := .bool true) rfl (by kernel_rfl) (by kernel_rfl) (by kernel_rfl) (fun _ _ _ h => h) (Or.inl ⟨by rfl, ?_⟩) (by assumption) ?_
              · intro w9 hSw
                exact exec_bin rfl rfl rfl (eqGuard_dt w9 _ _ _ _) (eql_dt w9 hd)
              simp only [Act.put, List.setIfInBounds_toArray, List.set_cons_zero, List.set_cons_succ]
              refine wpAnyH_done (by kernel_rfl) ?_ _
              refine NoPanic.normal ?_
              clear hHeld
              clear hr1 hr2 hs hd
              go_wp2
              go_ret
              exact ⟨rfl, HB.out⟩
            · have hd : decide (x.r = y.r ∧ x.n = y.n) = false := decide_eq_false hs
              have HJ2 : Aside ((∀ q y, q < j + 1 → E[q]? = some y → ¬ sameDot x y) ∧ Below w3.heap.size w3 wr.drew) := by
                refine ⟨fun q z hq hz => ?_, HJ.out.2.drew⟩
                by_cases hqj : q < j
                · exact HJ.out.1 q z hqj hz
                · obtain rfl : q = j := by omega
                  rw [hy] at hz
                  obtain rfl := Option.some.inj hz
                  exact hs
              go_wp2_with fail
              refine wp_region_noPanic ?_
              refine wp_region_held_drew (S := fun W' : World => W'.rangeAt b1 (o1 + i * 26) (evl x) ∧ W'.rangeAt b1 (o1 + j * 26) (evl y)) (by kernel_rfl) ⟨hr1, hr2⟩ (fun hHeld => ?_)
              refine wpAnyH_take (i := 0) (oi := { dst := some 29, op := _, type := _, pos := _, after := _, guard := _ }) (v := .slice (some ⟨b1, o1, none⟩) m c) rfl (by kernel_rfl) (by kernel_rfl) (by kernel_rfl) (fun _ _ _ h => h) (Or.inl ⟨by rfl, ?_⟩) (by assumption) ?_
              · intro w9 hSw
                exact exec_move rfl rfl
              simp only [Act.put, List.setIfInBounds_toArray, List.set_cons_zero, List.set_cons_succ]
              refine wpAnyH_take (i := 1) (oi := { dst := some 30, op := _, type := _, pos := _, after := _, guard := _ }) (v := .int .i64 (i : Int)) rfl (by kernel_rfl) (by kernel_rfl) (by kernel_rfl) (fun _ _ _ h => h) (Or.inl ⟨by rfl, ?_⟩) (by assumption) ?_
              · intro w9 hSw
                exact exec_move rfl rfl
              simp only [Act.put, List.setIfInBounds_toArray, List.set_cons_zero, List.set_cons_succ]
              refine wpAnyH_take (i := 2) (oi := { dst := some 31, op := _, type := _, pos := _, after := _, guard := _ }) (v := .pointer (some ⟨b1, o1 + i * 26, none⟩)) rfl (by kernel_rfl) (by kernel_rfl) (by kernel_rfl) (fun _ _ _ h => h) (Or.inl ⟨by rfl, ?_⟩) (by assumption) ?_
              · intro w9 hSw
                exact exec_index rfl rfl rfl (index_ev w9 hlt)
              simp only [Act.put, List.setIfInBounds_toArray, List.set_cons_zero, List.set_cons_succ]
              refine wpAnyH_take (i := 3) (oi := { dst := some 32, op := _, type := _, pos := _, after := _, guard := _ }) (v := .pointer (some ⟨b1, o1 + i * 26 + 0, none⟩)) rfl (by kernel_rfl) (by kernel_rfl) (by kernel_rfl) (fun _ _ _ h => h) (Or.inl ⟨by rfl, ?_⟩) (by assumption) ?_
              · intro w9 hSw
                exact exec_field rfl rfl (fun w => field_e0 w _ _)
              simp only [Act.put, List.setIfInBounds_toArray, List.set_cons_zero, List.set_cons_succ]
              refine wpAnyH_take (i := 4) (oi := { dst := some 33, op := _, type := _, pos := _, after := _, guard := _ }) (v := .agg (dotc x.r x.n)) rfl (by kernel_rfl) (by kernel_rfl) (by kernel_rfl) (fun _ _ _ h => h) (Or.inl ⟨by rfl, ?_⟩) (by assumption) ?_
              · intro w9 hSw
                exact exec_load (ad := ⟨b1, o1 + i * 26 + 0, none⟩) rfl rfl (load_dt hSw.1)
              simp only [Act.put, List.setIfInBounds_toArray, List.set_cons_zero, List.set_cons_succ]
              refine wpAnyH_take (i := 5) (oi := { dst := some 34, op := _, type := _, pos := _, after := _, guard := _ }) (v := .slice (some ⟨b1, o1, none⟩) m c) rfl (by kernel_rfl) (by kernel_rfl) (by kernel_rfl) (fun _ _ _ h => h) (Or.inl ⟨by rfl, ?_⟩) (by assumption) ?_
              · intro w9 hSw
                exact exec_move rfl rfl
              simp only [Act.put, List.setIfInBounds_toArray, List.set_cons_zero, List.set_cons_succ]
              refine wpAnyH_take (i := 6) (oi := { dst := some 35, op := _, type := _, pos := _, after := _, guard := _ }) (v := .int .i64 (j : Int)) rfl (by kernel_rfl) (by kernel_rfl) (by kernel_rfl) (fun _ _ _ h => h) (Or.inl ⟨by rfl, ?_⟩) (by assumption) ?_
              · intro w9 hSw
                exact exec_move rfl rfl
              simp only [Act.put, List.setIfInBounds_toArray, List.set_cons_zero, List.set_cons_succ]
              refine wpAnyH_take (i := 7) (oi := { dst := some 36, op := _, type := _, pos := _, after := _, guard := _ }) (v := .pointer (some ⟨b1, o1 + j * 26, none⟩)) rfl (by kernel_rfl) (by kernel_rfl) (by kernel_rfl) (fun _ _ _ h => h) (Or.inl ⟨by rfl, ?_⟩) (by assumption) ?_
              · intro w9 hSw
                exact exec_index rfl rfl rfl (index_ev w9 hjm)
              simp only [Act.put, List.setIfInBounds_toArray, List.set_cons_zero, List.set_cons_succ]
              refine wpAnyH_take (i := 8) (oi := { dst := some 37, op := _, type := _, pos := _, after := _, guard := _ }) (v := .pointer (some ⟨b1, o1 + j * 26 + 0, none⟩)) rfl (by kernel_rfl) (by kernel_rfl) (by kernel_rfl) (fun _ _ _ h => h) (Or.inl ⟨by rfl, ?_⟩) (by assumption) ?_
              · intro w9 hSw
                exact exec_field rfl rfl (fun w => field_e0 w _ _)
              simp only [Act.put, List.setIfInBounds_toArray, List.set_cons_zero, List.set_cons_succ]
              refine wpAnyH_take (i := 9) (oi := { dst := some 38, op := _, type := _, pos := _, after := _, guard := _ }) (v := .agg (dotc y.r y.n)) rfl (by kernel_rfl) (by kernel_rfl) (by kernel_rfl) (fun _ _ _ h => h) (Or.inl ⟨by rfl, ?_⟩) (by assumption) ?_
              · intro w9 hSw
                exact exec_load (ad := ⟨b1, o1 + j * 26 + 0, none⟩) rfl rfl (load_dt hSw.2)
              simp only [Act.put, List.setIfInBounds_toArray, List.set_cons_zero, List.set_cons_succ]
              refine wpAnyH_take (i := 10) (oi := { dst := some 39, op := _, type := _, pos := _, after := _, guard := _ }) (v := .bool false) rfl (by kernel_rfl) (by kernel_rfl) (by kernel_rfl) (fun _ _ _ h => h) (Or.inl ⟨by rfl, ?_⟩) (by assumption) ?_
              · intro w9 hSw
                exact exec_bin rfl rfl rfl (eqGuard_dt w9 _ _ _ _) (eql_dt w9 hd)
              simp only [Act.put, List.setIfInBounds_toArray, List.set_cons_zero, List.set_cons_succ]
              refine wpAnyH_done (by kernel_rfl) ?_ _
              refine NoPanic.normal ?_
              clear hHeld
              clear hr1 hr2 hs hd HJ
              go_wp2
              go_roundg (i - (j + 1))
              case measure => omega
              case rel => exact ⟨j + 1, by go_num, by omega, Nat.le_refl _, HJ2⟩
          · obtain rfl : j = i := by omega
            obtain ⟨b1', o1', x', hb1', hx', -, hr, hl⟩ := (HE.out.below hBw.out (Nat.le_refl _)).at hlt
            obtain rfl : x = x' := by rw [hx] at hx'; exact Option.some.inj hx'
            simp only [Option.some.injEq, Addr.mk.injEq, and_true] at hb1'
            obtain ⟨rfl, rfl⟩ := hb1'
            have hltz : (j : Int) < (m : Int) := by omega
            have hx16 := hwx.1
            have hix := fun W : World => index_ev W (b := b1) (off := o1) (k := j) (m := m) (c := c) hlt
            have HSN : Hid (backE E j = backE E (j + 1) ++ [x] ∧ NoneFrom E j) := ⟨back_step hx, none_step HR3.out.2.1 hx HJ.out.1⟩
            have hRow : Row (wr.alloc (.cells (evc x) 40)) w.heap.size u3 (backE E (j + 1)) := (HR3.out.1.below HJ.out.2 (Nat.le_refl _)).below ((Below.refl _ _).alloc (Nat.le_refl _) _) (Nat.le_refl _)
            have hF : Evs (wr.alloc (.cells (evc x) 40)) (some ⟨wr.heap.size, 0, none⟩) 1 1 [x] := evs_single _ _ x hwx (liesE_new wr x)
            have hll : (backE E (j + 1)).length ≤ m := by rw [back_len]; omega
            have hle : w.heap.size ≤ (wr.alloc (.cells (evc x) 40)).heap.size := by have := hBw.out.size; simp; omega
            have HB3 : Hid (Below w.heap.size w (wr.alloc (.cells (evc x) 40))) := hBw.out.alloc hBw.out.size _
            clear HJ HR3 hBw hl hx
            generalize backE E (j + 1) = R at *
            go_wp2_with (first | refine load_ev_mid rfl rfl rfl hr hx16 ?_ | refine build_ev1 rfl rfl rfl hx16 ?_ | refine wpList_appE rfl _ _ rfl w.heap.size _ R rfl hRow _ 1 1 [x] rfl hF (by omega) hle ?_)
            intro v4 w4 hR4 hg4 ho4
            have HS4 : Aside (Row w4 w.heap.size v4 (backE E j) ∧ NoneFrom E j ∧ Below w.heap.size w w4) := ⟨by rw [HSN.out.1]; exact hR4, HSN.out.2, HB3.out.grown hg4 hle hRow.own⟩
            clear hR4 hg4 ho4 hRow hF HB3 HSN hll hle hr hix
            go_wp2
            go_roundg j
            case measure => omega
            case rel => exact ⟨j, rfl, by omega, Nat.le_refl _, HS4⟩
end Go.Proofs.Ytmbecjmmcekpnaa
