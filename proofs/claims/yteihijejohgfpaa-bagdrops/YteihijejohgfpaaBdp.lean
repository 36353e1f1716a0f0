/-
  What BagDrops comes to.
-/
import Derived.Test.YteihijejohgfpaaBgn
namespace Go.Proofs.Yteihijejohgfpaa
open Go.RowKit

set_option maxHeartbeats 4000000 in
set_option maxRecDepth 100000 in
theorem bdrops_walk (a : Option Addr) (len cap : Nat) (E : List (It Int)) (v u : List Int) (hv : v.length = 16) (hu : u.length = 16) (w : World) (hE : Lst itl 3 w a len cap E) :
    Calls Try.prog 6 #[.slice a len cap, .agg (vals v), .agg (vals u)] w fun e w' => e = .returned (.bool true) ∧ Below w.heap.size w w' := by
  have hlen := hE.1
  have hmx := hE.maxLen
  obtain ⟨hV, hU, hb0⟩ := boxed2 w v u
  obtain ⟨W, hW⟩ : ∃ W, (w.alloc (.cells (vals v) 36)).alloc (.cells (vals u) 36) = W := ⟨_, rfl⟩
  rw [hW] at hb0 hV hU
  by_cases hl : 300 < len
  · have hl' : (300 : Int) < (len : Int) := by omega
    clear hE hV hU
    go_enter Try.func6, Try.ntmps6
    go_wp2_with fail
    refine (awake_any W).mono ?_
    rintro e w1 ⟨rfl, hb1⟩
    go_wp2_with fail
    refine (awake_any w1).mono ?_
    rintro e w2 ⟨rfl, hb2⟩
    have hb := (hb0.trans (hb1.mono hb0.size)).trans (hb2.mono (by have := hb0.size; have := hb1.size; omega))
    go_wp2
    go_ret
    exact ⟨rfl, hb⟩
  · have hl' : ¬ (300 : Int) < (len : Int) := by omega
    go_enter Try.func6, Try.ntmps6
    go_wp2_with fail
    refine (awake_any W).mono ?_
    rintro e w1 ⟨rfl, hb1⟩
    clear hW
    have hV1 := hV.below hb1 hV.lt
    have hU1 := hU.below hb1 hU.lt
    have hbw1 := hb0.trans (hb1.mono hb0.size)
    have hE1 := hE.below hbw1 (Nat.le_refl _)
    clear hV hU hb0 hb1 hE
    go_wp2_with fail
    refine (new_any w1).mono ?_
    rintro e w2 ⟨rfl, hw2'⟩
    have HW2 : Hid _ := hw2'
    have hs2 : w2.heap.size = w1.heap.size + 1 := by rw [hw2']; simp
    clear hw2'
    go_wp2_with fail
    refine (new_any w2).mono ?_
    rintro e w3 ⟨rfl, hw3⟩
    have hw2 := HW2.out
    have hT := two_new w1
    have hb3 : Below w1.heap.size w1 ((w1.alloc (.cells #[.map none] 32)).alloc (.cells #[.map none] 32)) := ((Below.refl _ w1).alloc (Nat.le_refl _) _).alloc (by simp) _
    rw [← hw2, ← hw3] at hT hb3
    clear hw2 hw3 HW2
    try rw [hs2]
    clear hs2
    go_wp2_with fail
    go_loopw [34] (fun c wr => ∃ (k : Nat) (m m2 : Option Nat), k ≤ len ∧ c = .int .i64 (k : Int) ∧ Two w1.heap.size wr w1.heap.size m (puts (E.take k)) (w1.heap.size + 1) m2 (puts (E.take k)) ∧ Below w1.heap.size w1 wr) (fun c _ => len - (intOf c).toNat)
    case atStart => exact ⟨0, none, none, Nat.zero_le _, rfl, hT, hb3⟩
    case round =>
      clear hT hb3
      obtain ⟨k, m, m2, hk, rfl, hT, hb2⟩ := hrel
      by_cases hlt : k < len
      · have hlt' : (k : Int) < (len : Int) := by omega
        obtain ⟨b, off, i, ha, hi, hblt, c0, c1, c2⟩ := (hE1.below hb2 (Nat.le_refl _)).at3 hlt
        subst ha
        have hP := put_any _ _ _ i wr.drew hT.a.bg.drew
        have HT : Hid _ := hT.drew
        clear hT
        go_wp2_with fail
        go_region_with (first | (go_at_call 11; refine Calls.mono hP ?_; rintro e w4 ⟨rfl, m4, hB4, ht4⟩))
        all_goals
          obtain ⟨hT4, hb4⟩ := HT.out.left hb2.size hB4 ht4
          have hb5 := hb2.drew.trans hb4
          obtain ⟨b', off', i', ha', hi', hblt', d0, d1, d2⟩ := (hE1.below hb5 (Nat.le_refl _)).at3 hlt
          simp only [Option.some.injEq, Addr.mk.injEq, and_true] at ha'
          obtain ⟨rfl, rfl⟩ := ha'
          rw [hi] at hi'
          obtain rfl := Option.some.inj hi'
          have hP2 := put_any _ _ _ i w4.drew hT4.b.bg.drew
          have HT4 : Hid _ := hT4.drew
          clear HT hP hB4 ht4 c0 c1 c2 hT4 hb2 hb4
          go_wp2_with fail
          go_region_with (first | (go_at_call 11; refine Calls.mono hP2 ?_; rintro e w6 ⟨rfl, m6, hB6, ht6⟩))
        all_goals
          obtain ⟨hT6, hb6⟩ := HT4.out.right hb5.size hB6 ht6
          have hb7 := hb5.drew.trans hb6
          clear HT4 hP2 hB6 ht6 d0 d1 d2 hb6 hb5
          go_wp2
          go_roundw
          case rel => exact ⟨k + 1, m4, m6, by omega, by go_num, by rw [puts_take hi]; exact hT6, hb7⟩
          case measure => simp [intOf]; omega
      · have hkl : k = len := by omega
        have hL : (puts E).length ≤ 300 := by have := puts_length E; omega
        rw [List.take_of_length_le (by omega)] at hT
        generalize puts E = S at *
        have hlt' : ¬ (k : Int) < (len : Int) := by omega
        clear hE1
        go_wp2_with fail
        have hV2 := (hV1.below hb2 hV1.lt).alloc (.cells (vals zeros) 36)
        have hU2 := (hU1.below hb2 hU1.lt).alloc (.cells (vals zeros) 36)
        have hZ := lies_new wr zeros
        have hT2 := hT.below ((Below.refl _ wr).alloc (Nat.le_refl _) (.cells (vals zeros) 36)) (Nat.le_refl _)
        have hb3 := hb2.alloc hb2.size (.cells (vals zeros) 36)
        have hD : w.heap.size ≠ wr.heap.size ∧ w.heap.size + 1 ≠ wr.heap.size ∧ w1.heap.size ≤ wr.heap.size := by
          have h1 := hV1.lt; have h2 := hU1.lt; have h3 := hb2.size; omega
        rw [zeros_vals] at hV2 hU2 hZ hT2 hb3
        obtain ⟨D, hDD⟩ : ∃ D, wr.heap.size = D := ⟨_, rfl⟩
        rw [hDD] at hD hZ ⊢
        obtain ⟨hD1, hD2, hD3⟩ := hD
        have hTD : w1.heap.size ≠ D ∧ w1.heap.size + 1 ≠ D := by
          have h1 := hT.a.bg.lt; have h2 := hT.b.bg.lt; omega
        have hmD : (∀ j, m = some j → j ≠ D) ∧ (∀ j, m2 = some j → j ≠ D) := ⟨fun j hj => by have := (hT.a.bg.own j hj).1; omega, fun j hj => by have := (hT.b.bg.own j hj).1; omega⟩
        clear hT hb2 hDD
        go_loopw [62] (fun c wr => ∃ (j : Nat) (l : List Int), j ≤ 16 ∧ c = .int .i64 (j : Int) ∧ Lies wr D l ∧ l.length = 16 ∧ (∀ i, i < j → l.getD i 0 = max (v.getD i 0) (u.getD i 0)) ∧ Lies wr w.heap.size v ∧ Lies wr (w.heap.size + 1) u ∧ Two w1.heap.size wr w1.heap.size m S (w1.heap.size + 1) m2 S ∧ Below w1.heap.size w1 wr) (fun c _ => 16 - (intOf c).toNat)
        case atStart => exact ⟨0, zeros, by omega, rfl, hZ, rfl, (fun i hi => absurd hi (Nat.not_lt_zero _)), hV2, hU2, hT2, hb3⟩
        case round =>
          clear hV2 hU2 hZ hT2 hb3
          obtain ⟨j, l, hj, rfl, hZ, hll, hmax, hV2, hU2, hT2, hb3⟩ := hrel
          by_cases hj16 : j < 16
          · have hj' : (j : Int) < 16 := by omega
            have ix := fun W g => run_indexAt_vec W g j hj16
            have v0 := hV2.cell (k := j) (by omega)
            have u0 := hU2.cell (k := j) (by omega)
            have z0 := hZ.cell (k := j) (by omega)
            have f0 := hZ.frozen (k := j)
            obtain ⟨x, hx⟩ : ∃ x, Hid (v.getD j 0 = x) := ⟨_, rfl⟩
            obtain ⟨y, hy⟩ : ∃ y, Hid (u.getD j 0 = y) := ⟨_, rfl⟩
            rw [hx.out] at v0
            rw [hy.out] at u0
            go_wp2_with fail
            go_region
            have hZ3 : Lies (wr.setCell ⟨D, j, none⟩ (.int .i64 (max x y))).drew D (l.set j (max x y)) := (hZ.set (max x y)).drew
            have hV3 : Lies (wr.setCell ⟨D, j, none⟩ (.int .i64 (max x y))).drew w.heap.size v := (hV2.other _ hD1).drew
            have hU3 : Lies (wr.setCell ⟨D, j, none⟩ (.int .i64 (max x y))).drew (w.heap.size + 1) u := (hU2.other _ hD2).drew
            have hT3 : Two w1.heap.size (wr.setCell ⟨D, j, none⟩ (.int .i64 (max x y))).drew w1.heap.size m S (w1.heap.size + 1) m2 S := (hT2.kept (D := D) (w' := wr.setCell ⟨D, j, none⟩ (.int .i64 (max x y))) (fun k _ hk => Below.heap_setCell wr _ _ k hk) hTD.1 hTD.2 hmD.1 hmD.2).drew
            have hb4 : Below w1.heap.size w1 (wr.setCell ⟨D, j, none⟩ (.int .i64 (max x y))).drew := (hb3.setCell (p := ⟨D, j, none⟩) hD3 _).drew
            have hmax' : ∀ i, i < j + 1 → (l.set j (max x y)).getD i 0 = max (v.getD i 0) (u.getD i 0) := fun i hi => by
              by_cases e : i = j
              · subst e
                rw [hx.out, hy.out]
                simp [List.getD, hll, hj16]
              · rw [← hmax i (by omega)]
                have e' : ¬ j = i := fun e2 => e e2.symm
                simp [List.getD, e']
            have HM : Hid _ := hmax'
            clear hmax' hmax hZ hV2 hU2 hT2 hb3 v0 u0 z0 f0
            generalize (wr.setCell ⟨D, j, none⟩ (.int .i64 (max x y))).drew = W3 at *
            go_wp2
            go_roundw
            case rel => exact ⟨j + 1, l.set j (max x y), by omega, by go_num, hZ3, by rw [List.length_set]; exact hll, HM.out, hV3, hU3, hT3, hb4⟩
            case measure => simp [intOf]; omega
          · have hj' : ¬ (j : Int) < 16 := by omega
            obtain rfl : l = joinv v u := vec_ext _ _ hll (joinv_length hv hu) (fun i hi => by rw [hmax i (by omega), joinv_get hv hu i hi])
            obtain ⟨j1, j2, j3⟩ := drops_join hv hu S
            have hjl := joinv_length hv hu
            have f1 := List.length_filter_le (fun i => !gone v all i) S
            have f2 := List.length_filter_le (fun i => !gone u all i) (S.filter fun i => !gone v all i)
            have D1 := drop_any _ _ S v hv all .nilFunc whp_nil wr.drew hT2.a.bg.drew (by omega) (.inl rfl)
            have HT : Hid _ := hT2.drew
            have hbd := hb3.drew
            clear hmax
            go_wp2_with fail
            refine wp_region_noPanic ?_
            refine wp_region_held_drew (S := fun W' : World => Below w1.heap.size w1 W') (by kernel_rfl) hbd (fun hHeld => ?_)
            refine wpAnyH_take (i := 0) (oi := { dst := some 75, op := _, type := _, pos := _, after := _, guard := _ }) (v := .pointer (some ⟨w1.heap.size, 0, none⟩)) rfl (by kernel_rfl) (by kernel_rfl) (by kernel_rfl) (fun _ _ _ h => h) (Or.inl ⟨by rfl, ?_⟩) (by assumption) ?_
            · intro w9 hSw
              exact exec_move rfl rfl
            simp only [Act.put, List.setIfInBounds_toArray, List.set_cons_zero, List.set_cons_succ]
            refine wpAnyH_take (i := 1) (oi := { dst := some 76, op := _, type := _, pos := _, after := _, guard := _ }) (v := .agg (vals v)) rfl (by kernel_rfl) (by kernel_rfl) (by kernel_rfl) (fun _ _ _ h => h) (Or.inl ⟨by rfl, ?_⟩) (by assumption) ?_
            · intro w9 hSw
              exact exec_load (ad := ⟨w.heap.size, 0, none⟩) rfl rfl (load_lies (hV1.below hSw hV1.lt) hv)
            simp only [Act.put, List.setIfInBounds_toArray, List.set_cons_zero, List.set_cons_succ]
            refine wpAnyH_take (i := 3) (oi := { dst := some 78, op := _, type := _, pos := _, after := _, guard := _ }) (v := .pointer (some ⟨w1.heap.size, 0, none⟩)) rfl (by kernel_rfl) (by kernel_rfl) (by kernel_rfl) (fun _ _ _ h => h) (Or.inl ⟨by rfl, ?_⟩) (by assumption) ?_
            · intro w9 hSw
              exact exec_move rfl rfl
            simp only [Act.put, List.setIfInBounds_toArray, List.set_cons_zero, List.set_cons_succ]
            refine wpAnyH_take (i := 4) (oi := { dst := some 79, op := _, type := _, pos := _, after := _, guard := _ }) (v := .agg (vals u)) rfl (by kernel_rfl) (by kernel_rfl) (by kernel_rfl) (fun _ _ _ h => h) (Or.inl ⟨by rfl, ?_⟩) (by assumption) ?_
            · intro w9 hSw
              exact exec_load (ad := ⟨w.heap.size + 1, 0, none⟩) rfl rfl (load_lies (hU1.below hSw hU1.lt) hu)
            simp only [Act.put, List.setIfInBounds_toArray, List.set_cons_zero, List.set_cons_succ]
            clear hHeld
            refine wpAnyH_ready (rs := [2]) (by kernel_rfl) (by simp) ?_
            refine AllReadyH.cons (o := { dst := some 77, op := _, type := _, pos := _, after := _, guard := _ }) rfl (fun K hK => ?_) AllReadyH.nil
            rw [if_pos (by rfl)]
            refine wp_callL (xs := [.tmp 75, .tmp 76, .const .nilFunc]) (vs := [.pointer (some ⟨w1.heap.size, 0, none⟩), .agg (vals v), .nilFunc]) rfl rfl (enters_drop _ _) D1 ?_
            rintro e w5 ⟨rfl, hB5, ht5⟩
            obtain ⟨hT5, hb5'⟩ := HT.out.left hbd.size hB5 ht5
            have hb5 := hbd.trans hb5'
            refine ⟨_, rfl, ?_⟩
            refine hK.out _ _ hb5 (fun hHeld => ?_)
            clear hK K
            simp only [Act.put, List.setIfInBounds_toArray, List.set_cons_zero, List.set_cons_succ]
            refine wpAnyH_ready (rs := [5]) (by kernel_rfl) (by simp) ?_
            refine AllReadyH.cons (o := { dst := some 80, op := _, type := _, pos := _, after := _, guard := _ }) rfl (fun K hK => ?_) AllReadyH.nil
            rw [if_pos (by rfl)]
            refine wp_callL (xs := [.tmp 78, .tmp 79, .const .nilFunc]) (vs := [.pointer (some ⟨w1.heap.size, 0, none⟩), .agg (vals u), .nilFunc]) rfl rfl (enters_drop _ _) (drop_any _ _ _ u hu all .nilFunc whp_nil w5 hT5.a.bg (by omega) (.inl rfl)) ?_
            rintro e w7 ⟨rfl, hB7, ht7⟩
            obtain ⟨hT7, hb7'⟩ := hT5.left hb5.size hB7 ht7
            have hb7 := hb5.trans hb7'
            refine ⟨_, rfl, ?_⟩
            refine hK.out _ _ hb7 (fun hHeld => ?_)
            clear hK K
            simp only [Act.put, List.setIfInBounds_toArray, List.set_cons_zero, List.set_cons_succ]
            have f3 := List.length_filter_le (gone v all) S
            have f4 := List.length_filter_le (gone u all) (S.filter fun i => !gone v all i)
            refine wpAnyH_take (i := 6) (oi := { dst := some 81, op := _, type := _, pos := _, after := _, guard := _ }) (v := .int .i64 (((S.filter (gone v all)).length : Int) + (((S.filter fun i => !gone v all i).filter (gone u all)).length : Int))) rfl (by kernel_rfl) (by kernel_rfl) (by kernel_rfl) (fun _ _ _ h => h) (Or.inl ⟨by rfl, ?_⟩) (by assumption) ?_
            · intro w9 hSw
              exact exec_add rfl rfl rfl (by omega) (by omega) (by omega)
            simp only [Act.put, List.setIfInBounds_toArray, List.set_cons_zero, List.set_cons_succ]
            refine wpAnyH_take (i := 7) (oi := { dst := some 12, op := _, type := _, pos := _, after := _, guard := _ }) (v := .int .i64 (((S.filter (gone v all)).length : Int) + (((S.filter fun i => !gone v all i).filter (gone u all)).length : Int))) rfl (by kernel_rfl) (by kernel_rfl) (by kernel_rfl) (fun _ _ _ h => h) (Or.inl ⟨by rfl, ?_⟩) (by assumption) ?_
            · intro w9 hSw
              exact exec_assign rfl rfl
            simp only [Act.put, List.setIfInBounds_toArray, List.set_cons_zero, List.set_cons_succ]
            refine wpAnyH_done (by kernel_rfl) ?_ _
            refine NoPanic.normal ?_
            have hZ7 : Lies w7 D (joinv v u) := ((show Lies wr.drew D (joinv v u) from hZ.drew).turn ht5 hTD.1 hmD.1).turn ht7 hTD.1 hmD.1
            have D3 := drop_any _ _ S (joinv v u) hjl all .nilFunc whp_nil w7 hT7.b.bg (by omega) (.inl rfl)
            rw [j1, j2] at D3
            generalize (S.filter fun i => !gone v all i).filter (fun i => !gone u all i) = T at *
            obtain ⟨N, hN⟩ : ∃ N : Nat, (S.filter (gone v all)).length + ((S.filter fun i => !gone v all i).filter (gone u all)).length = N := ⟨_, rfl⟩
            rw [hN] at D3
            have hN' : ((S.filter (gone v all)).length : Int) + (((S.filter fun i => !gone v all i).filter (gone u all)).length : Int) = (N : Int) := by omega
            rw [hN']
            have hNl : N ≤ 600 := by omega
            clear HT hHeld hB5 hB7 ht5 ht7 hT5 hb5 hb5' hb7' hZ D1 hN hN' j1 j2 f3 f4 hbd hT2 hb3 hV2 hU2
            go_wp2_with (first | refine load_vec rfl rfl rfl hZ7 hjl ?_)
            refine Calls.mono D3 ?_
            rintro e w8 ⟨rfl, hB8, ht8⟩
            obtain ⟨hT8, hb8'⟩ := hT7.right hb7.size hB8 ht8
            have hb8 := hb7.trans hb8'
            have hZ8 := hZ7.turn ht8 hTD.2 hmD.2
            have D4 := drop_any _ _ T (joinv v u) hjl all .nilFunc whp_nil w8 hT8.a.bg (by omega) (.inl rfl)
            rw [j3] at D4
            clear D3 hB8 ht8 hT7 hb8' hZ7 hb7
            go_wp2_with (first | refine load_vec_w rfl rfl rfl hZ8 hjl ?_)
            refine Calls.mono D4 ?_
            rintro e w9 ⟨rfl, hB9, ht9⟩
            have hB9' : Bg w9 w1.heap.size m T := by
              rwa [List.filter_eq_self.2 (fun i hi => by have := List.filter_eq_nil_iff.1 j3 i hi; simpa using this)] at hB9
            obtain ⟨hT9, hb9'⟩ := hT8.left hb8.size hB9' ht9
            have hb9 := hb8.trans hb9'
            clear D4 hB9 hB9' ht9 hT8 hb9' hZ8 hb8 j3
            have hTl : T.length ≤ 300 := by omega
            go_wp2_with fail
            refine Calls.mono (len_any _ _ _ _ hT9.a.bg) ?_
            rintro e wx ⟨rfl, hwx⟩
            obtain rfl := hwx.symm
            clear hwx
            go_wp2_with fail
            refine Calls.mono (len_any _ _ _ _ hT9.b.bg) ?_
            rintro e wx ⟨rfl, hwx⟩
            obtain rfl := hwx.symm
            clear hwx
            go_wp2_with fail
            refine Calls.mono (items_any _ _ _ _ hT9.a.bg (by omega)) ?_
            rintro e w10 ⟨vA, rfl, hA, hbA⟩
            have hT10 := hT9.below hbA (Nat.le_refl _)
            have hb10 := hb9.trans (hbA.mono hb9.size)
            clear hT9 hb9
            go_wp2_with fail
            refine Calls.mono (items_any _ _ _ _ hT10.b.bg (by omega)) ?_
            rintro e w11 ⟨vB, rfl, hB, hbB⟩
            have hA11 := hA.below hbB (Nat.le_refl _)
            have hb11 := hb10.trans (hbB.mono hb10.size)
            clear hT10 hb10 hA hbA hbB
            obtain ⟨aA, cA, hvA, hcA, hmA⟩ := hA11.val
            obtain ⟨aB, cB, hvB, hcB, hmB⟩ := hB.val
            subst hvA
            subst hvB
            have hfin := hbw1.trans (hb11.mono hbw1.size)
            obtain ⟨n, hn⟩ : ∃ n, T.length = n := ⟨_, rfl⟩
            rw [hn] at hA11 hB hcA hcB hTl ⊢
            clear hb11 hbw1 hV1 hU1 hmx
            generalize w10.heap.size = s10 at *
            generalize w9.heap.size = s9 at *
            go_wp2_with fail
            go_loopw [106] (fun c wr => ∃ k : Nat, k ≤ n ∧ c = .int .i64 (k : Int) ∧ wr.heap = w11.heap ∧ Below w.heap.size w wr) (fun c _ => n - (intOf c).toNat)
            case atStart => exact ⟨0, Nat.zero_le _, rfl, rfl, hfin⟩
            case round =>
              clear hfin
              obtain ⟨k, hk, rfl, hh, hfin⟩ := hrel
              by_cases hkn : k < n
              · have hkn' : (k : Int) < (n : Int) := by omega
                obtain ⟨g, _, i, e1, -, hi, -, -, c0, c1, c2, -⟩ := (hA11.keep (w' := wr) fun k _ => by rw [hh]).at3 (k := k) (by omega)
                simp only [Value.slice.injEq] at e1
                obtain ⟨rfl, -, rfl⟩ := e1
                obtain ⟨g', _, i', e1, -, hi', -, -, d0, d1, d2, -⟩ := (hB.keep (w' := wr) fun k _ => by rw [hh]).at3 (k := k) (by omega)
                simp only [Value.slice.injEq] at e1
                obtain ⟨rfl, -, rfl⟩ := e1
                rw [hi] at hi'
                obtain rfl := Option.some.inj hi'
                have he : ∀ W, (Op.equalIn 10000 60 (.agg #[.int .i64 i.r, .int .i64 i.n, .int .i64 i.x]) (.agg #[.int .i64 i.r, .int .i64 i.n, .int .i64 i.x])).run Try.prog W = .ok true W := fun W => by rw [run_equalIn_it W i i]; simp
                have hpl := plain_it
                clear hA11 hB
                go_wp2_with fail
                go_region
                have hfin' := hfin.drew
                have hh' : wr.drew.heap = w11.heap := hh
                clear hfin hh c0 c1 c2 d0 d1 d2
                generalize wr.drew = W at *
                go_wp2
                go_roundw
                case rel => exact ⟨k + 1, by omega, by go_num, hh', hfin'⟩
                case measure => simp [intOf]; omega
              · have hkn' : ¬ (k : Int) < (n : Int) := by omega
                go_wp2
                go_ret
                exact ⟨rfl, hfin⟩
end Go.Proofs.Yteihijejohgfpaa
