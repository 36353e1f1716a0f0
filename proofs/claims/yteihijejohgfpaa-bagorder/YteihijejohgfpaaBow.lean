/-
  What BagOrder comes to: the walk.
-/
import Derived.Test.YteihijejohgfpaaBor
namespace Go.Proofs.Yteihijejohgfpaa
open Go.RowKit

set_option maxHeartbeats 4000000 in
set_option maxRecDepth 100000 in
theorem order_walk (a : Option Addr) (len cap : Nat) (E : List (It Int)) (w : World) (hE : Lst itl 3 w a len cap E) :
    Calls Try.prog 5 #[.slice a len cap] w fun e w' => e = .returned (.bool true) ∧ Below w.heap.size w w' := by
  have hlen := hE.1
  have hmx := hE.maxLen
  by_cases hl : 300 < len
  · have hl' : (300 : Int) < (len : Int) := by omega
    clear hE
    go_enter Try.func5, Try.ntmps5
    go_wp2_with fail
    refine (awake_any w).mono ?_
    rintro e w1 ⟨rfl, hb1⟩
    go_wp2_with fail
    refine (awake_any w1).mono ?_
    rintro e w2 ⟨rfl, hb2⟩
    have hb := hb1.trans (hb2.mono hb1.size)
    go_wp2
    go_ret
    exact ⟨rfl, hb⟩
  · have hl' : ¬ (300 : Int) < (len : Int) := by omega
    go_enter Try.func5, Try.ntmps5
    go_wp2_with fail
    refine (awake_any w).mono ?_
    rintro e w1 ⟨rfl, hbw1⟩
    have hE1 := hE.below hbw1 (Nat.le_refl _)
    clear hE
    go_wp2_with fail
    refine (new_any w1).mono ?_
    rintro e w2 ⟨rfl, hw2'⟩
    have HW2 : Hid _ := hw2'
    have hs2 : w2.heap.size = w1.heap.size + 1 := by rw [hw2']; simp
    clear hw2'
    go_wp2_with fail
    refine (new_any w2).mono ?_
    rintro e w3 ⟨rfl, hw3⟩
    have hw2 := HW2.out
    have hT := two_new w1
    have hb3 : Below w1.heap.size w1 ((w1.alloc (.cells #[.map none] 32)).alloc (.cells #[.map none] 32)) := ((Below.refl _ w1).alloc (Nat.le_refl _) _).alloc (by simp) _
    rw [← hw2, ← hw3] at hT hb3
    clear hw2 hw3 HW2
    try rw [hs2]
    clear hs2
    go_wp2_with fail
    go_loopw [34, 5] (fun c q wr => ∃ (k : Nat) (m : Option Nat), k ≤ len ∧ c = .int .i64 (k : Int) ∧ q = .int .i64 ((puts (E.take k)).length : Int) ∧ Two w1.heap.size wr w1.heap.size m (puts (E.take k)) (w1.heap.size + 1) none [] ∧ Below w1.heap.size w1 wr) (fun c _ _ => len - (intOf c).toNat)
    case atStart => exact ⟨0, none, Nat.zero_le _, rfl, rfl, hT, hb3⟩
    case round =>
      clear hT hb3
      obtain ⟨k, m, hk, rfl, rfl, hT, hb2⟩ := hrel
      have hPl : (puts (E.take k)).length ≤ 300 := by have := puts_length (E.take k); rw [List.length_take] at this; omega
      by_cases hlt : k < len
      · have hlt' : (k : Int) < (len : Int) := by omega
        obtain ⟨b, off, i, ha, hi, hblt, c0, c1, c2⟩ := (hE1.below hb2 (Nat.le_refl _)).at3 hlt
        subst ha
        have hP := put_any _ _ _ i wr.drew hT.a.bg.drew
        have HT : Hid _ := hT.drew
        have hpn := hasD_puts (E.take k) i.r i.n
        have hlen2 : (hasD (E.take k) i.r i.n = false ∧ (puts (E.take (k + 1))).length = (puts (E.take k)).length + 1) ∨ (hasD (E.take k) i.r i.n = true ∧ (puts (E.take (k + 1))).length = (puts (E.take k)).length) := by
          rw [puts_take hi]
          cases hh : hasD (E.take k) i.r i.n
          · exact .inl ⟨rfl, put_length_new (by rw [hpn, hh])⟩
          · exact .inr ⟨rfl, put_length_old (Srt.puts _) (by rw [hpn, hh])⟩
        rw [← puts_take hi] at hP
        clear hT hpn
        obtain ⟨S2, SS2⟩ : ∃ S2, Hid (puts (E.take (k + 1)) = S2) := ⟨_, rfl⟩
        rw [SS2.out] at hlen2 hP
        generalize puts (E.take k) = S1 at *
        go_wp2_with fail
        go_region_with (first | (go_at_call 11; refine Calls.mono hP ?_; rintro e w4 ⟨rfl, m4, hB4, ht4⟩))
        all_goals
          obtain ⟨hT4, hb4'⟩ := HT.out.left hb2.size hB4 ht4
          have hb4 := hb2.drew.trans hb4'
          clear HT hP hB4 ht4 hb4' c0 c1 c2 hb2
          go_wp2_with fail
          go_loopw [7, 8] (fun f c wr => ∃ (j : Nat) (F : Bool), j ≤ k ∧ c = .int .i64 (j : Int) ∧ f = .bool F ∧ Hid (F = !hasD (E.take j) i.r i.n) ∧ Two w1.heap.size wr w1.heap.size m4 S2 (w1.heap.size + 1) none [] ∧ Below w1.heap.size w1 wr) (fun _ c _ => k - (intOf c).toNat)
          case atStart => exact ⟨0, true, Nat.zero_le _, rfl, rfl, rfl, hT4, hb4⟩
          case round =>
            clear hT4 hb4
            obtain ⟨j, F, hj, rfl, rfl, hF, hT4, hb4⟩ := hrel
            by_cases hjk : j < k
            · have hjk' : (j : Int) < (k : Int) := by omega
              obtain ⟨b', off', t, ha', ht, hblt', d0, d1, d2⟩ := (hE1.below hb4 (Nat.le_refl _)).at3 (k := j) (by omega)
              simp only [Option.some.injEq, Addr.mk.injEq, and_true] at ha'
              obtain ⟨rfl, rfl⟩ := ha'
              obtain ⟨b', off', t', ha', ht', hblt', e0, e1, e2⟩ := (hE1.below hb4 (Nat.le_refl _)).at3 (k := k) hlt
              simp only [Option.some.injEq, Addr.mk.injEq, and_true] at ha'
              obtain ⟨rfl, rfl⟩ := ha'
              rw [hi] at ht'
              obtain rfl := Option.some.inj ht'
              have hF2 : Hid ((F && !isAt i.r i.n t) = !hasD (E.take (j + 1)) i.r i.n) := by
                show _ = _
                rw [hasD_take ht, hF.out]; simp
              obtain ⟨q, hq⟩ : ∃ q, Hid (isAt i.r i.n t = q) := ⟨_, rfl⟩
              rw [hq.out] at hF2
              have hpl := plain_dot
              have heq : ∀ W, (Op.equalIn 10000 34 (.agg #[.int .i64 t.r, .int .i64 t.n]) (.agg #[.int .i64 i.r, .int .i64 i.n])).run Try.prog W = .ok q W := fun W => by
                rw [show q = decide (t.r = i.r ∧ t.n = i.n) from hq.out.symm]; exact run_equalIn_dot W 9998 t.r t.n i.r i.n
              have HT4 : Hid _ := hT4.drew
              have HT5 : Hid _ := hT4
              have hb5 := hb4.drew
              clear hT4 d2 e2 hF hE1
              have hjl : (j : Int) < (len : Int) := by omega
              cases F
              all_goals
                cases q
                all_goals
                  go_wp2_with fail
                  go_quiet (fail)
                  have hT6 := HT5.out.drewN nq
                  have hb6 : Below w1.heap.size w1 (wr.drewN nq) := hb4.trans ⟨rfl, rfl, rfl, Nat.le_refl _, fun _ _ => rfl⟩
                  clear d0 d1 e0 e1 hb4 HT4 HT5 hb5
                  generalize wr.drewN nq = W5 at *
                  go_wp2
                  go_roundw
                  case rel => exact ⟨j + 1, _, by omega, by go_num, rfl, hF2, hT6, hb6⟩
                  case measure => simp [intOf]; omega
            · have hjk' : ¬ (j : Int) < (k : Int) := by omega
              obtain rfl : j = k := by omega
              rcases hlen2 with ⟨h1, h2⟩ | ⟨h1, h2⟩
              · have hF' := hF.out
                rw [h1] at hF'
                subst hF'
                go_wp2
                go_roundw
                case rel => exact ⟨j + 1, m4, by omega, by go_num, by rw [SS2.out, h2]; go_num, by rw [SS2.out]; exact hT4, hb4⟩
                case measure => simp [intOf]; omega
              · have hF' := hF.out
                rw [h1] at hF'
                subst hF'
                go_wp2
                go_roundw
                case rel => exact ⟨j + 1, m4, by omega, by go_num, by rw [SS2.out, h2], by rw [SS2.out]; exact hT4, hb4⟩
                case measure => simp [intOf]; omega
      · have hkl : k = len := by omega
        have hlt' : ¬ (k : Int) < (len : Int) := by omega
        rw [List.take_of_length_le (by omega)] at hT hPl ⊢
        have hS := Srt.puts E
        have hfs : Hid (∀ s ∈ puts E, find (puts E) s.r s.n = some s) := fun s hs => find_some hS hs
        obtain ⟨S, hSE⟩ : ∃ S, Hid (puts E = S) := ⟨_, rfl⟩
        rw [hSE.out] at hT hPl hS ⊢
        go_wp2_with fail
        refine Calls.mono (items_any _ _ _ _ hT.a.bg (by omega)) ?_
        rintro e w10 ⟨vA, rfl, hA, hbA⟩
        have hT10 := hT.below hbA (Nat.le_refl _)
        have hb10 := hb2.trans (hbA.mono hb2.size)
        have hs9 : w1.heap.size + 1 < wr.heap.size := hT.b.bg.lt
        clear hT hb2
        obtain ⟨aA, cA, hvA, hcA, hmA⟩ := hA.val
        subst hvA
        obtain ⟨n, hn⟩ : ∃ n, S.length = n := ⟨_, rfl⟩
        rw [hn] at hA hcA hPl ⊢
        clear hbA
        generalize wr.heap.size = s9 at *
        go_wp2_with fail
        go_loopw [80] (fun c wr => ∃ k : Nat, k ≤ n ∧ c = .int .i64 (k : Int) ∧ Rw 60 wr s9 (.slice aA n cA) S ∧ Obg w1.heap.size wr (w1.heap.size + 1) none [] ∧ Below w1.heap.size w1 wr) (fun c _ => n - (intOf c).toNat)
        case atStart => exact ⟨0, Nat.zero_le _, rfl, hA, hT10.b, hb10⟩
        case round =>
          clear hA hT10 hb10
          obtain ⟨k, hk, rfl, hA, hO, hb⟩ := hrel
          by_cases hkn : k < n
          · have hkn' : (k : Int) < (n : Int) := by omega
            obtain ⟨s, hs⟩ : ∃ s, S[k]? = some s := ⟨_, List.getElem?_eq_getElem (by omega)⟩
            go_wp2_with fail
            go_loopw [85, 11] (fun c q wr => ∃ (j : Nat) (L : Int), j ≤ len ∧ c = .int .i64 (j : Int) ∧ q = .int .i64 L ∧ Hid ((L = -1 ∧ find (puts (E.take j)) s.r s.n = none) ∨ ∃ (p : Nat) (t : It Int), L = (p : Int) ∧ p < j ∧ E[p]? = some t ∧ find (puts (E.take j)) s.r s.n = some t) ∧ Rw 60 wr s9 (.slice aA n cA) S ∧ Obg w1.heap.size wr (w1.heap.size + 1) none [] ∧ Below w1.heap.size w1 wr) (fun c _ _ => len - (intOf c).toNat)
            case atStart => exact ⟨0, -1, Nat.zero_le _, rfl, rfl, .inl ⟨rfl, rfl⟩, hA, hO, hb⟩
            case round =>
              clear hA hO hb
              obtain ⟨j, L, hj, rfl, rfl, hL, hA, hO, hb⟩ := hrel
              by_cases hjl : j < len
              · have hjl' : (j : Int) < (len : Int) := by omega
                obtain ⟨b, off, t, ha, ht, hblt, d0, d1, d2⟩ := (hE1.below hb (Nat.le_refl _)).at3 (k := j) (by omega)
                subst ha
                obtain ⟨g, _, s', e1, -, hs', -, -, c0, c1, c2, -⟩ := hA.at3 (k := k) (by omega)
                simp only [Value.slice.injEq] at e1
                obtain ⟨rfl, -, rfl⟩ := e1
                rw [hs] at hs'
                obtain rfl := Option.some.inj hs'
                have hpl := plain_dot
                have heq : ∀ W, (Op.equalIn 10000 34 (.agg #[.int .i64 t.r, .int .i64 t.n]) (.agg #[.int .i64 s.r, .int .i64 s.n])).run Try.prog W = .ok (decide (t.r = s.r ∧ t.n = s.n)) W := fun W => run_equalIn_dot W 9998 t.r t.n s.r s.n
                have hA2 := hA.keep (w' := wr.drew) fun _ _ => rfl
                have hO2 := hO.drew
                have hb2 := hb.drew
                have HA2 : Hid _ := hA2
                have HO2 : Hid _ := hO2
                clear hA hO hb hA2 hO2 c2 d2
                by_cases hts : t.r = s.r ∧ t.n = s.n
                · rw [decide_eq_true hts] at heq
                  have hL2 : Hid (((j : Int) = -1 ∧ find (puts (E.take (j + 1))) s.r s.n = none) ∨ ∃ (p : Nat) (t : It Int), (j : Int) = (p : Int) ∧ p < j + 1 ∧ E[p]? = some t ∧ find (puts (E.take (j + 1))) s.r s.n = some t) := .inr ⟨j, t, rfl, by omega, ht, find_puts_same ht hts⟩
                  go_wp2_with fail
                  go_region
                  clear c0 c1 d0 d1
                  generalize wr.drew = W5 at *
                  go_wp2
                  go_roundw
                  case rel => exact ⟨j + 1, j, by omega, by go_num, rfl, hL2, HA2.out, HO2.out, hb2⟩
                  case measure => simp [intOf]; omega
                · rw [decide_eq_false hts] at heq
                  have hL2 : Hid ((L = -1 ∧ find (puts (E.take (j + 1))) s.r s.n = none) ∨ ∃ (p : Nat) (t : It Int), L = (p : Int) ∧ p < j + 1 ∧ E[p]? = some t ∧ find (puts (E.take (j + 1))) s.r s.n = some t) := by
                    rcases hL.out with ⟨h1, h2⟩ | ⟨p, t', h1, h2, h3, h4⟩
                    · exact .inl ⟨h1, by rw [find_puts_other ht hts]; exact h2⟩
                    · exact .inr ⟨p, t', h1, by omega, h3, by rw [find_puts_other ht hts]; exact h4⟩
                  go_wp2_with fail
                  go_region
                  clear c0 c1 d0 d1
                  generalize wr.drew = W5 at *
                  go_wp2
                  go_roundw
                  case rel => exact ⟨j + 1, L, by omega, by go_num, rfl, hL2, HA2.out, HO2.out, hb2⟩
                  case measure => simp [intOf]; omega
              · have hjl' : ¬ (j : Int) < (len : Int) := by omega
                obtain ⟨p, hLp, hp, hEp⟩ : ∃ p : Nat, L = (p : Int) ∧ p < len ∧ E[p]? = some s := by
                  have h0 := hfs.out s (by rw [hSE.out]; exact List.mem_of_getElem? hs)
                  rcases hL.out with ⟨-, h2⟩ | ⟨p, t', h1, h2, h3, h4⟩
                  · rw [List.take_of_length_le (by omega), h0] at h2; cases h2
                  · rw [List.take_of_length_le (by omega), h0] at h4
                    obtain rfl := Option.some.inj h4
                    exact ⟨p, h1, by omega, h3⟩
                subst hLp
                clear hL
                have hp' : (p : Int) < (len : Int) := by omega
                have hp0 : ¬ (p : Int) < 0 := by omega
                obtain ⟨b, off, t, ha, ht, hblt, d0, d1, d2⟩ := (hE1.below hb (Nat.le_refl _)).at3 (k := p) hp
                rw [hEp] at ht
                obtain rfl := Option.some.inj ht
                subst ha
                obtain ⟨g, _, s', e1, -, hs', -, hglt, c0, c1, c2, -⟩ := hA.at3 (k := k) (by omega)
                simp only [Value.slice.injEq] at e1
                obtain ⟨rfl, -, rfl⟩ := e1
                rw [hs] at hs'
                obtain rfl := Option.some.inj hs'
                by_cases hk0 : k = 0
                · have HK0 : Hid (k = 0) := hk0
                  have HA : Hid (Rw 60 wr s9 (.slice (some ⟨g, 0, none⟩) n cA) S) := hA
                  have HO : Hid (Obg w1.heap.size wr (w1.heap.size + 1) none []) := hO
                  clear hA hO hk0
                  go_wp2_with fail
                  refine wp_region_noPanic ?_
                  refine wp_region_held_drew (S := fun W' : World => Below wr.heap.size wr W') (by kernel_rfl) (Below.refl _ wr).drew (fun hHeld => ?_)
                  refine wpAnyH_take (i := 0) (oi := { dst := some 101, op := _, type := _, pos := _, after := _, guard := _ }) (v := .int .i64 (p : Int)) rfl (by kernel_rfl) (by kernel_rfl) (by kernel_rfl) (fun _ _ _ h => h) (Or.inl ⟨by rfl, ?_⟩) (by assumption) ?_
                  · intro w9 hSw
                    exact exec_move rfl rfl
                  simp only [Act.put, List.setIfInBounds_toArray, List.set_cons_zero, List.set_cons_succ]
                  refine wpAnyH_take (i := 1) (oi := { dst := some 102, op := _, type := _, pos := _, after := _, guard := _ }) (v := .bool false) rfl (by kernel_rfl) (by kernel_rfl) (by kernel_rfl) (fun _ _ _ h => h) (Or.inl ⟨by rfl, ?_⟩) (by assumption) ?_
                  · intro w9 hSw
                    exact exec_lss rfl rfl rfl (decide_eq_false (by omega))
                  simp only [Act.put, List.setIfInBounds_toArray, List.set_cons_zero, List.set_cons_succ]
                  refine wpAnyH_take (i := 2) (oi := { dst := some 103, op := _, type := _, pos := _, after := _, guard := _ }) (v := .bool false) rfl (by kernel_rfl) (by kernel_rfl) (by kernel_rfl) (fun _ _ _ h => h) (Or.inl ⟨by rfl, ?_⟩) (by assumption) ?_
                  · intro w9 hSw
                    exact exec_move rfl rfl
                  simp only [Act.put, List.setIfInBounds_toArray, List.set_cons_zero, List.set_cons_succ]
                  refine wpAnyH_take (i := 3) (oi := { dst := some 104, op := _, type := _, pos := _, after := _, guard := _ }) (v := .slice (some ⟨b, off, none⟩) len cap) rfl (by kernel_rfl) (by kernel_rfl) (by kernel_rfl) (fun _ _ _ h => h) (Or.inl ⟨by rfl, ?_⟩) (by assumption) ?_
                  · intro w9 hSw
                    exact exec_move rfl rfl
                  simp only [Act.put, List.setIfInBounds_toArray, List.set_cons_zero, List.set_cons_succ]
                  refine wpAnyH_take (i := 4) (oi := { dst := some 105, op := _, type := _, pos := _, after := _, guard := _ }) (v := .int .i64 (p : Int)) rfl (by kernel_rfl) (by kernel_rfl) (by kernel_rfl) (fun _ _ _ h => h) (Or.inl ⟨by rfl, ?_⟩) (by assumption) ?_
                  · intro w9 hSw
                    exact exec_move rfl rfl
                  simp only [Act.put, List.setIfInBounds_toArray, List.set_cons_zero, List.set_cons_succ]
                  refine wpAnyH_take (i := 5) (oi := { dst := some 106, op := _, type := _, pos := _, after := _, guard := _ }) (v := .pointer (some ⟨b, off + p * 3, none⟩)) rfl (by kernel_rfl) (by kernel_rfl) (by kernel_rfl) (fun _ _ _ h => h) (Or.inl ⟨by rfl, ?_⟩) (by assumption) ?_
                  · intro w9 hSw
                    exact exec_index rfl rfl rfl (index_r w9 hp)
                  simp only [Act.put, List.setIfInBounds_toArray, List.set_cons_zero, List.set_cons_succ]
                  refine wpAnyH_take (i := 6) (oi := { dst := some 107, op := _, type := _, pos := _, after := _, guard := _ }) (v := .pointer (some ⟨b, off + p * 3 + 2, none⟩)) rfl (by kernel_rfl) (by kernel_rfl) (by kernel_rfl) (fun _ _ _ h => h) (Or.inl ⟨by rfl, ?_⟩) (by assumption) ?_
                  · intro w9 hSw
                    exact exec_field rfl rfl (fun w => field_r1 w _ _)
                  simp only [Act.put, List.setIfInBounds_toArray, List.set_cons_zero, List.set_cons_succ]
                  refine wpAnyH_take (i := 7) (oi := { dst := some 108, op := _, type := _, pos := _, after := _, guard := _ }) (v := .int .i64 s.x) rfl (by kernel_rfl) (by kernel_rfl) (by kernel_rfl) (fun _ _ _ h => h) (Or.inl ⟨by rfl, ?_⟩) (by assumption) ?_
                  · intro w9 hSw
                    exact exec_load (ad := ⟨b, off + p * 3 + 2, none⟩) rfl rfl (load_i ((hSw.cell hblt).trans d2))
                  simp only [Act.put, List.setIfInBounds_toArray, List.set_cons_zero, List.set_cons_succ]
                  refine wpAnyH_take (i := 8) (oi := { dst := some 109, op := _, type := _, pos := _, after := _, guard := _ }) (v := .slice (some ⟨g, 0, none⟩) n cA) rfl (by kernel_rfl) (by kernel_rfl) (by kernel_rfl) (fun _ _ _ h => h) (Or.inl ⟨by rfl, ?_⟩) (by assumption) ?_
                  · intro w9 hSw
                    exact exec_move rfl rfl
                  simp only [Act.put, List.setIfInBounds_toArray, List.set_cons_zero, List.set_cons_succ]
                  refine wpAnyH_take (i := 9) (oi := { dst := some 110, op := _, type := _, pos := _, after := _, guard := _ }) (v := .int .i64 (k : Int)) rfl (by kernel_rfl) (by kernel_rfl) (by kernel_rfl) (fun _ _ _ h => h) (Or.inl ⟨by rfl, ?_⟩) (by assumption) ?_
                  · intro w9 hSw
                    exact exec_move rfl rfl
                  simp only [Act.put, List.setIfInBounds_toArray, List.set_cons_zero, List.set_cons_succ]
                  refine wpAnyH_take (i := 10) (oi := { dst := some 111, op := _, type := _, pos := _, after := _, guard := _ }) (v := .pointer (some ⟨g, k * 3, none⟩)) rfl (by kernel_rfl) (by kernel_rfl) (by kernel_rfl) (fun _ _ _ h => h) (Or.inl ⟨by rfl, ?_⟩) (by assumption) ?_
                  · intro w9 hSw
                    exact exec_index rfl rfl rfl (index_t w9 hkn)
                  simp only [Act.put, List.setIfInBounds_toArray, List.set_cons_zero, List.set_cons_succ]
                  refine wpAnyH_take (i := 11) (oi := { dst := some 112, op := _, type := _, pos := _, after := _, guard := _ }) (v := .pointer (some ⟨g, k * 3 + 2, none⟩)) rfl (by kernel_rfl) (by kernel_rfl) (by kernel_rfl) (fun _ _ _ h => h) (Or.inl ⟨by rfl, ?_⟩) (by assumption) ?_
                  · intro w9 hSw
                    exact exec_field rfl rfl (fun w => field_t1 w _ _)
                  simp only [Act.put, List.setIfInBounds_toArray, List.set_cons_zero, List.set_cons_succ]
                  refine wpAnyH_take (i := 12) (oi := { dst := some 113, op := _, type := _, pos := _, after := _, guard := _ }) (v := .int .i64 s.x) rfl (by kernel_rfl) (by kernel_rfl) (by kernel_rfl) (fun _ _ _ h => h) (Or.inl ⟨by rfl, ?_⟩) (by assumption) ?_
                  · intro w9 hSw
                    exact exec_load (ad := ⟨g, k * 3 + 2, none⟩) rfl rfl (load_i ((hSw.cell hglt).trans c2))
                  simp only [Act.put, List.setIfInBounds_toArray, List.set_cons_zero, List.set_cons_succ]
                  refine wpAnyH_take (i := 13) (oi := { dst := some 114, op := _, type := _, pos := _, after := _, guard := _ }) (v := .bool false) rfl (by kernel_rfl) (by kernel_rfl) (by kernel_rfl) (fun _ _ _ h => h) (Or.inl ⟨by rfl, ?_⟩) (by assumption) ?_
                  · intro w9 hSw
                    exact exec_neq rfl rfl rfl (by simp)
                  simp only [Act.put, List.setIfInBounds_toArray, List.set_cons_zero, List.set_cons_succ]
                  refine wpAnyH_take (i := 14) (oi := { dst := some 115, op := _, type := _, pos := _, after := _, guard := _ }) (v := .bool false) rfl (by kernel_rfl) (by kernel_rfl) (by kernel_rfl) (fun _ _ _ h => h) (Or.inl ⟨by rfl, ?_⟩) (by assumption) ?_
                  · intro w9 hSw
                    exact exec_pick (b := false) rfl rfl rfl rfl
                  simp only [Act.put, List.setIfInBounds_toArray, List.set_cons_zero, List.set_cons_succ]
                  refine wpAnyH_take (i := 15) (oi := { dst := some 116, op := _, type := _, pos := _, after := _, guard := _ }) (v := .bool false) rfl (by kernel_rfl) (by kernel_rfl) (by kernel_rfl) (fun _ _ _ h => h) (Or.inl ⟨by rfl, ?_⟩) (by assumption) ?_
                  · intro w9 hSw
                    exact exec_move rfl rfl
                  simp only [Act.put, List.setIfInBounds_toArray, List.set_cons_zero, List.set_cons_succ]
                  refine wpAnyH_take (i := 16) (oi := { dst := some 117, op := _, type := _, pos := _, after := _, guard := _ }) (v := .int .i64 (k : Int)) rfl (by kernel_rfl) (by kernel_rfl) (by kernel_rfl) (fun _ _ _ h => h) (Or.inl ⟨by rfl, ?_⟩) (by assumption) ?_
                  · intro w9 hSw
                    exact exec_move rfl rfl
                  simp only [Act.put, List.setIfInBounds_toArray, List.set_cons_zero, List.set_cons_succ]
                  refine wpAnyH_take (i := 17) (oi := { dst := some 118, op := _, type := _, pos := _, after := _, guard := _ }) (v := .bool false) rfl (by kernel_rfl) (by kernel_rfl) (by kernel_rfl) (fun _ _ _ h => h) (Or.inl ⟨by rfl, ?_⟩) (by assumption) ?_
                  · intro w9 hSw
                    exact exec_gtr rfl rfl rfl (decide_eq_false (by have := HK0.out; omega))
                  simp only [Act.put, List.setIfInBounds_toArray, List.set_cons_zero, List.set_cons_succ]
                  refine wpAnyH_take (i := 18) (oi := { dst := some 119, op := _, type := _, pos := _, after := _, guard := _ }) (v := .bool false) rfl (by kernel_rfl) (by kernel_rfl) (by kernel_rfl) (fun _ _ _ h => h) (Or.inl ⟨by rfl, ?_⟩) (by assumption) ?_
                  · intro w9 hSw
                    exact exec_move rfl rfl
                  simp only [Act.put, List.setIfInBounds_toArray, List.set_cons_zero, List.set_cons_succ]
                  refine wpAnyH_take (i := 19) (oi := { dst := some 120, op := _, type := _, pos := _, after := _, guard := _ }) (v := undef) rfl (by kernel_rfl) (by kernel_rfl) (by kernel_rfl) (fun _ _ _ h => h) (Or.inr ⟨by rfl, rfl⟩) (by assumption) ?_
                  simp only [Act.put, List.setIfInBounds_toArray, List.set_cons_zero, List.set_cons_succ]
                  refine wpAnyH_take (i := 20) (oi := { dst := some 121, op := _, type := _, pos := _, after := _, guard := _ }) (v := undef) rfl (by kernel_rfl) (by kernel_rfl) (by kernel_rfl) (fun _ _ _ h => h) (Or.inr ⟨by rfl, rfl⟩) (by assumption) ?_
                  simp only [Act.put, List.setIfInBounds_toArray, List.set_cons_zero, List.set_cons_succ]
                  refine wpAnyH_take (i := 21) (oi := { dst := some 122, op := _, type := _, pos := _, after := _, guard := _ }) (v := undef) rfl (by kernel_rfl) (by kernel_rfl) (by kernel_rfl) (fun _ _ _ h => h) (Or.inr ⟨by rfl, rfl⟩) (by assumption) ?_
                  simp only [Act.put, List.setIfInBounds_toArray, List.set_cons_zero, List.set_cons_succ]
                  refine wpAnyH_take (i := 22) (oi := { dst := some 123, op := _, type := _, pos := _, after := _, guard := _ }) (v := undef) rfl (by kernel_rfl) (by kernel_rfl) (by kernel_rfl) (fun _ _ _ h => h) (Or.inr ⟨by rfl, rfl⟩) (by assumption) ?_
                  simp only [Act.put, List.setIfInBounds_toArray, List.set_cons_zero, List.set_cons_succ]
                  refine wpAnyH_take (i := 23) (oi := { dst := some 124, op := _, type := _, pos := _, after := _, guard := _ }) (v := undef) rfl (by kernel_rfl) (by kernel_rfl) (by kernel_rfl) (fun _ _ _ h => h) (Or.inr ⟨by rfl, rfl⟩) (by assumption) ?_
                  simp only [Act.put, List.setIfInBounds_toArray, List.set_cons_zero, List.set_cons_succ]
                  refine wpAnyH_take (i := 24) (oi := { dst := some 125, op := _, type := _, pos := _, after := _, guard := _ }) (v := undef) rfl (by kernel_rfl) (by kernel_rfl) (by kernel_rfl) (fun _ _ _ h => h) (Or.inr ⟨by rfl, rfl⟩) (by assumption) ?_
                  simp only [Act.put, List.setIfInBounds_toArray, List.set_cons_zero, List.set_cons_succ]
                  refine wpAnyH_take (i := 25) (oi := { dst := some 126, op := _, type := _, pos := _, after := _, guard := _ }) (v := undef) rfl (by kernel_rfl) (by kernel_rfl) (by kernel_rfl) (fun _ _ _ h => h) (Or.inr ⟨by rfl, rfl⟩) (by assumption) ?_
                  simp only [Act.put, List.setIfInBounds_toArray, List.set_cons_zero, List.set_cons_succ]
                  refine wpAnyH_take (i := 26) (oi := { dst := some 127, op := _, type := _, pos := _, after := _, guard := _ }) (v := undef) rfl (by kernel_rfl) (by kernel_rfl) (by kernel_rfl) (fun _ _ _ h => h) (Or.inr ⟨by rfl, rfl⟩) (by assumption) ?_
                  simp only [Act.put, List.setIfInBounds_toArray, List.set_cons_zero, List.set_cons_succ]
                  refine wpAnyH_take (i := 27) (oi := { dst := some 128, op := _, type := _, pos := _, after := _, guard := _ }) (v := undef) rfl (by kernel_rfl) (by kernel_rfl) (by kernel_rfl) (fun _ _ _ h => h) (Or.inr ⟨by rfl, rfl⟩) (by assumption) ?_
                  simp only [Act.put, List.setIfInBounds_toArray, List.set_cons_zero, List.set_cons_succ]
                  refine wpAnyH_take (i := 28) (oi := { dst := some 129, op := _, type := _, pos := _, after := _, guard := _ }) (v := undef) rfl (by kernel_rfl) (by kernel_rfl) (by kernel_rfl) (fun _ _ _ h => h) (Or.inr ⟨by rfl, rfl⟩) (by assumption) ?_
                  simp only [Act.put, List.setIfInBounds_toArray, List.set_cons_zero, List.set_cons_succ]
                  refine wpAnyH_take (i := 29) (oi := { dst := some 130, op := _, type := _, pos := _, after := _, guard := _ }) (v := undef) rfl (by kernel_rfl) (by kernel_rfl) (by kernel_rfl) (fun _ _ _ h => h) (Or.inr ⟨by rfl, rfl⟩) (by assumption) ?_
                  simp only [Act.put, List.setIfInBounds_toArray, List.set_cons_zero, List.set_cons_succ]
                  refine wpAnyH_take (i := 30) (oi := { dst := some 131, op := _, type := _, pos := _, after := _, guard := _ }) (v := undef) rfl (by kernel_rfl) (by kernel_rfl) (by kernel_rfl) (fun _ _ _ h => h) (Or.inr ⟨by rfl, rfl⟩) (by assumption) ?_
                  simp only [Act.put, List.setIfInBounds_toArray, List.set_cons_zero, List.set_cons_succ]
                  refine wpAnyH_take (i := 31) (oi := { dst := some 132, op := _, type := _, pos := _, after := _, guard := _ }) (v := undef) rfl (by kernel_rfl) (by kernel_rfl) (by kernel_rfl) (fun _ _ _ h => h) (Or.inr ⟨by rfl, rfl⟩) (by assumption) ?_
                  simp only [Act.put, List.setIfInBounds_toArray, List.set_cons_zero, List.set_cons_succ]
                  refine wpAnyH_take (i := 32) (oi := { dst := some 133, op := _, type := _, pos := _, after := _, guard := _ }) (v := .bool false) rfl (by kernel_rfl) (by kernel_rfl) (by kernel_rfl) (fun _ _ _ h => h) (Or.inl ⟨by rfl, ?_⟩) (by assumption) ?_
                  · intro w9 hSw
                    exact exec_pick (b := false) rfl rfl rfl rfl
                  simp only [Act.put, List.setIfInBounds_toArray, List.set_cons_zero, List.set_cons_succ]
                  refine wpAnyH_take (i := 33) (oi := { dst := some 134, op := _, type := _, pos := _, after := _, guard := _ }) (v := .bool false) rfl (by kernel_rfl) (by kernel_rfl) (by kernel_rfl) (fun _ _ _ h => h) (Or.inl ⟨by rfl, ?_⟩) (by assumption) ?_
                  · intro w9 hSw
                    exact exec_pick (b := false) rfl rfl rfl rfl
                  simp only [Act.put, List.setIfInBounds_toArray, List.set_cons_zero, List.set_cons_succ]
                  have hb5 : Below wr.heap.size wr wr.drew := (Below.refl _ wr).drew
                  generalize wr.drew = w5 at *
                  refine wpAnyH_done (by kernel_rfl) ?_ _
                  refine NoPanic.normal ?_
                  have hA5 := HA.out.below hb5 (Nat.le_refl _)
                  have hO5 := HO.out.below hb5 (Nat.le_refl _)
                  have hb6 := hb.trans (hb5.mono hb.size)
                  clear hHeld hb5 hb HA HO
                  go_wp2
                  go_roundw
                  case rel => exact ⟨k + 1, by omega, by go_num, hA5, hO5, hb6⟩
                  case measure => simp [intOf]; omega
                · obtain ⟨k0, hk1⟩ : ∃ k0, Hid (k = k0 + 1) := ⟨k - 1, by show _ = _; omega⟩
                  have hw : IntKind.i64.wrap ((k : Int) - 1) = (k0 : Int) := by have h9 := hk1.out; rw [IntKind.wrap_i64]; omega
                  have hk0n : k0 < n := by have := hk1.out; omega
                  have hkp : (0 : Int) < (k : Int) := by omega
                  obtain ⟨g', _, r, e1, -, hr, -, -, f0, f1, -, -⟩ := hA.at3 (k := k0) (by omega)
                  simp only [Value.slice.injEq, Option.some.injEq, Addr.mk.injEq, and_true] at e1
                  obtain ⟨rfl, -, rfl⟩ := e1
                  have hbf := srt_next hS hr (by rw [← hk1.out]; exact hs)
                  have B := before_any r.r r.n s.r s.n wr.drew
                  rw [show decide (r.r < s.r ∨ (r.r = s.r ∧ r.n < s.n)) = true from hbf] at B
                  have HA : Hid (Rw 60 wr s9 (.slice (some ⟨g, 0, none⟩) n cA) S) := hA
                  have HO : Hid (Obg w1.heap.size wr (w1.heap.size + 1) none []) := hO
                  clear hA hO hk0
                  go_wp2_with fail
                  refine wp_region_noPanic ?_
                  refine wp_region_held_drew (S := fun W' : World => Below wr.heap.size wr W') (by kernel_rfl) (Below.refl _ wr).drew (fun hHeld => ?_)
                  refine wpAnyH_take (i := 0) (oi := { dst := some 101, op := _, type := _, pos := _, after := _, guard := _ }) (v := .int .i64 (p : Int)) rfl (by kernel_rfl) (by kernel_rfl) (by kernel_rfl) (fun _ _ _ h => h) (Or.inl ⟨by rfl, ?_⟩) (by assumption) ?_
                  · intro w9 hSw
                    exact exec_move rfl rfl
                  simp only [Act.put, List.setIfInBounds_toArray, List.set_cons_zero, List.set_cons_succ]
                  refine wpAnyH_take (i := 1) (oi := { dst := some 102, op := _, type := _, pos := _, after := _, guard := _ }) (v := .bool false) rfl (by kernel_rfl) (by kernel_rfl) (by kernel_rfl) (fun _ _ _ h => h) (Or.inl ⟨by rfl, ?_⟩) (by assumption) ?_
                  · intro w9 hSw
                    exact exec_lss rfl rfl rfl (decide_eq_false (by omega))
                  simp only [Act.put, List.setIfInBounds_toArray, List.set_cons_zero, List.set_cons_succ]
                  refine wpAnyH_take (i := 2) (oi := { dst := some 103, op := _, type := _, pos := _, after := _, guard := _ }) (v := .bool false) rfl (by kernel_rfl) (by kernel_rfl) (by kernel_rfl) (fun _ _ _ h => h) (Or.inl ⟨by rfl, ?_⟩) (by assumption) ?_
                  · intro w9 hSw
                    exact exec_move rfl rfl
                  simp only [Act.put, List.setIfInBounds_toArray, List.set_cons_zero, List.set_cons_succ]
                  refine wpAnyH_take (i := 3) (oi := { dst := some 104, op := _, type := _, pos := _, after := _, guard := _ }) (v := .slice (some ⟨b, off, none⟩) len cap) rfl (by kernel_rfl) (by kernel_rfl) (by kernel_rfl) (fun _ _ _ h => h) (Or.inl ⟨by rfl, ?_⟩) (by assumption) ?_
                  · intro w9 hSw
                    exact exec_move rfl rfl
                  simp only [Act.put, List.setIfInBounds_toArray, List.set_cons_zero, List.set_cons_succ]
                  refine wpAnyH_take (i := 4) (oi := { dst := some 105, op := _, type := _, pos := _, after := _, guard := _ }) (v := .int .i64 (p : Int)) rfl (by kernel_rfl) (by kernel_rfl) (by kernel_rfl) (fun _ _ _ h => h) (Or.inl ⟨by rfl, ?_⟩) (by assumption) ?_
                  · intro w9 hSw
                    exact exec_move rfl rfl
                  simp only [Act.put, List.setIfInBounds_toArray, List.set_cons_zero, List.set_cons_succ]
                  refine wpAnyH_take (i := 5) (oi := { dst := some 106, op := _, type := _, pos := _, after := _, guard := _ }) (v := .pointer (some ⟨b, off + p * 3, none⟩)) rfl (by kernel_rfl) (by kernel_rfl) (by kernel_rfl) (fun _ _ _ h => h) (Or.inl ⟨by rfl, ?_⟩) (by assumption) ?_
                  · intro w9 hSw
                    exact exec_index rfl rfl rfl (index_r w9 hp)
                  simp only [Act.put, List.setIfInBounds_toArray, List.set_cons_zero, List.set_cons_succ]
                  refine wpAnyH_take (i := 6) (oi := { dst := some 107, op := _, type := _, pos := _, after := _, guard := _ }) (v := .pointer (some ⟨b, off + p * 3 + 2, none⟩)) rfl (by kernel_rfl) (by kernel_rfl) (by kernel_rfl) (fun _ _ _ h => h) (Or.inl ⟨by rfl, ?_⟩) (by assumption) ?_
                  · intro w9 hSw
                    exact exec_field rfl rfl (fun w => field_r1 w _ _)
                  simp only [Act.put, List.setIfInBounds_toArray, List.set_cons_zero, List.set_cons_succ]
                  refine wpAnyH_take (i := 7) (oi := { dst := some 108, op := _, type := _, pos := _, after := _, guard := _ }) (v := .int .i64 s.x) rfl (by kernel_rfl) (by kernel_rfl) (by kernel_rfl) (fun _ _ _ h => h) (Or.inl ⟨by rfl, ?_⟩) (by assumption) ?_
                  · intro w9 hSw
                    exact exec_load (ad := ⟨b, off + p * 3 + 2, none⟩) rfl rfl (load_i ((hSw.cell hblt).trans d2))
                  simp only [Act.put, List.setIfInBounds_toArray, List.set_cons_zero, List.set_cons_succ]
                  refine wpAnyH_take (i := 8) (oi := { dst := some 109, op := _, type := _, pos := _, after := _, guard := _ }) (v := .slice (some ⟨g, 0, none⟩) n cA) rfl (by kernel_rfl) (by kernel_rfl) (by kernel_rfl) (fun _ _ _ h => h) (Or.inl ⟨by rfl, ?_⟩) (by assumption) ?_
                  · intro w9 hSw
                    exact exec_move rfl rfl
                  simp only [Act.put, List.setIfInBounds_toArray, List.set_cons_zero, List.set_cons_succ]
                  refine wpAnyH_take (i := 9) (oi := { dst := some 110, op := _, type := _, pos := _, after := _, guard := _ }) (v := .int .i64 (k : Int)) rfl (by kernel_rfl) (by kernel_rfl) (by kernel_rfl) (fun _ _ _ h => h) (Or.inl ⟨by rfl, ?_⟩) (by assumption) ?_
                  · intro w9 hSw
                    exact exec_move rfl rfl
                  simp only [Act.put, List.setIfInBounds_toArray, List.set_cons_zero, List.set_cons_succ]
                  refine wpAnyH_take (i := 10) (oi := { dst := some 111, op := _, type := _, pos := _, after := _, guard := _ }) (v := .pointer (some ⟨g, k * 3, none⟩)) rfl (by kernel_rfl) (by kernel_rfl) (by kernel_rfl) (fun _ _ _ h => h) (Or.inl ⟨by rfl, ?_⟩) (by assumption) ?_
                  · intro w9 hSw
                    exact exec_index rfl rfl rfl (index_t w9 hkn)
                  simp only [Act.put, List.setIfInBounds_toArray, List.set_cons_zero, List.set_cons_succ]
                  refine wpAnyH_take (i := 11) (oi := { dst := some 112, op := _, type := _, pos := _, after := _, guard := _ }) (v := .pointer (some ⟨g, k * 3 + 2, none⟩)) rfl (by kernel_rfl) (by kernel_rfl) (by kernel_rfl) (fun _ _ _ h => h) (Or.inl ⟨by rfl, ?_⟩) (by assumption) ?_
                  · intro w9 hSw
                    exact exec_field rfl rfl (fun w => field_t1 w _ _)
                  simp only [Act.put, List.setIfInBounds_toArray, List.set_cons_zero, List.set_cons_succ]
                  refine wpAnyH_take (i := 12) (oi := { dst := some 113, op := _, type := _, pos := _, after := _, guard := _ }) (v := .int .i64 s.x) rfl (by kernel_rfl) (by kernel_rfl) (by kernel_rfl) (fun _ _ _ h => h) (Or.inl ⟨by rfl, ?_⟩) (by assumption) ?_
                  · intro w9 hSw
                    exact exec_load (ad := ⟨g, k * 3 + 2, none⟩) rfl rfl (load_i ((hSw.cell hglt).trans c2))
                  simp only [Act.put, List.setIfInBounds_toArray, List.set_cons_zero, List.set_cons_succ]
                  refine wpAnyH_take (i := 13) (oi := { dst := some 114, op := _, type := _, pos := _, after := _, guard := _ }) (v := .bool false) rfl (by kernel_rfl) (by kernel_rfl) (by kernel_rfl) (fun _ _ _ h => h) (Or.inl ⟨by rfl, ?_⟩) (by assumption) ?_
                  · intro w9 hSw
                    exact exec_neq rfl rfl rfl (by simp)
                  simp only [Act.put, List.setIfInBounds_toArray, List.set_cons_zero, List.set_cons_succ]
                  refine wpAnyH_take (i := 14) (oi := { dst := some 115, op := _, type := _, pos := _, after := _, guard := _ }) (v := .bool false) rfl (by kernel_rfl) (by kernel_rfl) (by kernel_rfl) (fun _ _ _ h => h) (Or.inl ⟨by rfl, ?_⟩) (by assumption) ?_
                  · intro w9 hSw
                    exact exec_pick (b := false) rfl rfl rfl rfl
                  simp only [Act.put, List.setIfInBounds_toArray, List.set_cons_zero, List.set_cons_succ]
                  refine wpAnyH_take (i := 15) (oi := { dst := some 116, op := _, type := _, pos := _, after := _, guard := _ }) (v := .bool false) rfl (by kernel_rfl) (by kernel_rfl) (by kernel_rfl) (fun _ _ _ h => h) (Or.inl ⟨by rfl, ?_⟩) (by assumption) ?_
                  · intro w9 hSw
                    exact exec_move rfl rfl
                  simp only [Act.put, List.setIfInBounds_toArray, List.set_cons_zero, List.set_cons_succ]
                  refine wpAnyH_take (i := 16) (oi := { dst := some 117, op := _, type := _, pos := _, after := _, guard := _ }) (v := .int .i64 (k : Int)) rfl (by kernel_rfl) (by kernel_rfl) (by kernel_rfl) (fun _ _ _ h => h) (Or.inl ⟨by rfl, ?_⟩) (by assumption) ?_
                  · intro w9 hSw
                    exact exec_move rfl rfl
                  simp only [Act.put, List.setIfInBounds_toArray, List.set_cons_zero, List.set_cons_succ]
                  refine wpAnyH_take (i := 17) (oi := { dst := some 118, op := _, type := _, pos := _, after := _, guard := _ }) (v := .bool true) rfl (by kernel_rfl) (by kernel_rfl) (by kernel_rfl) (fun _ _ _ h => h) (Or.inl ⟨by rfl, ?_⟩) (by assumption) ?_
                  · intro w9 hSw
                    exact exec_gtr rfl rfl rfl (decide_eq_true (by omega))
                  simp only [Act.put, List.setIfInBounds_toArray, List.set_cons_zero, List.set_cons_succ]
                  refine wpAnyH_take (i := 18) (oi := { dst := some 119, op := _, type := _, pos := _, after := _, guard := _ }) (v := .bool true) rfl (by kernel_rfl) (by kernel_rfl) (by kernel_rfl) (fun _ _ _ h => h) (Or.inl ⟨by rfl, ?_⟩) (by assumption) ?_
                  · intro w9 hSw
                    exact exec_move rfl rfl
                  simp only [Act.put, List.setIfInBounds_toArray, List.set_cons_zero, List.set_cons_succ]
                  refine wpAnyH_take (i := 19) (oi := { dst := some 120, op := _, type := _, pos := _, after := _, guard := _ }) (v := .slice (some ⟨g, 0, none⟩) n cA) rfl (by kernel_rfl) (by kernel_rfl) (by kernel_rfl) (fun _ _ _ h => h) (Or.inl ⟨by rfl, ?_⟩) (by assumption) ?_
                  · intro w9 hSw
                    exact exec_move rfl rfl
                  simp only [Act.put, List.setIfInBounds_toArray, List.set_cons_zero, List.set_cons_succ]
                  refine wpAnyH_take (i := 20) (oi := { dst := some 121, op := _, type := _, pos := _, after := _, guard := _ }) (v := .int .i64 (k : Int)) rfl (by kernel_rfl) (by kernel_rfl) (by kernel_rfl) (fun _ _ _ h => h) (Or.inl ⟨by rfl, ?_⟩) (by assumption) ?_
                  · intro w9 hSw
                    exact exec_move rfl rfl
                  simp only [Act.put, List.setIfInBounds_toArray, List.set_cons_zero, List.set_cons_succ]
                  refine wpAnyH_take (i := 21) (oi := { dst := some 122, op := _, type := _, pos := _, after := _, guard := _ }) (v := .int .i64 (k0 : Int)) rfl (by kernel_rfl) (by kernel_rfl) (by kernel_rfl) (fun _ _ _ h => h) (Or.inl ⟨by rfl, ?_⟩) (by assumption) ?_
                  · intro w9 hSw
                    exact exec_sub rfl rfl rfl hw
                  simp only [Act.put, List.setIfInBounds_toArray, List.set_cons_zero, List.set_cons_succ]
                  refine wpAnyH_take (i := 22) (oi := { dst := some 123, op := _, type := _, pos := _, after := _, guard := _ }) (v := .pointer (some ⟨g, k0 * 3, none⟩)) rfl (by kernel_rfl) (by kernel_rfl) (by kernel_rfl) (fun _ _ _ h => h) (Or.inl ⟨by rfl, ?_⟩) (by assumption) ?_
                  · intro w9 hSw
                    exact exec_index rfl rfl rfl (index_t w9 hk0n)
                  simp only [Act.put, List.setIfInBounds_toArray, List.set_cons_zero, List.set_cons_succ]
                  refine wpAnyH_take (i := 23) (oi := { dst := some 124, op := _, type := _, pos := _, after := _, guard := _ }) (v := .pointer (some ⟨g, k0 * 3 + 0, none⟩)) rfl (by kernel_rfl) (by kernel_rfl) (by kernel_rfl) (fun _ _ _ h => h) (Or.inl ⟨by rfl, ?_⟩) (by assumption) ?_
                  · intro w9 hSw
                    exact exec_field rfl rfl (fun w => field_t0 w _ _)
                  simp only [Act.put, List.setIfInBounds_toArray, List.set_cons_zero, List.set_cons_succ]
                  refine wpAnyH_take (i := 24) (oi := { dst := some 125, op := _, type := _, pos := _, after := _, guard := _ }) (v := .agg #[.int .i64 r.r, .int .i64 r.n]) rfl (by kernel_rfl) (by kernel_rfl) (by kernel_rfl) (fun _ _ _ h => h) (Or.inl ⟨by rfl, ?_⟩) (by assumption) ?_
                  · intro w9 hSw
                    exact exec_load (ad := ⟨g, k0 * 3 + 0, none⟩) rfl rfl (load_d ((hSw.cell hglt).trans f0) ((hSw.cell hglt).trans f1))
                  simp only [Act.put, List.setIfInBounds_toArray, List.set_cons_zero, List.set_cons_succ]
                  refine wpAnyH_take (i := 25) (oi := { dst := some 126, op := _, type := _, pos := _, after := _, guard := _ }) (v := .slice (some ⟨g, 0, none⟩) n cA) rfl (by kernel_rfl) (by kernel_rfl) (by kernel_rfl) (fun _ _ _ h => h) (Or.inl ⟨by rfl, ?_⟩) (by assumption) ?_
                  · intro w9 hSw
                    exact exec_move rfl rfl
                  simp only [Act.put, List.setIfInBounds_toArray, List.set_cons_zero, List.set_cons_succ]
                  refine wpAnyH_take (i := 26) (oi := { dst := some 127, op := _, type := _, pos := _, after := _, guard := _ }) (v := .int .i64 (k : Int)) rfl (by kernel_rfl) (by kernel_rfl) (by kernel_rfl) (fun _ _ _ h => h) (Or.inl ⟨by rfl, ?_⟩) (by assumption) ?_
                  · intro w9 hSw
                    exact exec_move rfl rfl
                  simp only [Act.put, List.setIfInBounds_toArray, List.set_cons_zero, List.set_cons_succ]
                  refine wpAnyH_take (i := 27) (oi := { dst := some 128, op := _, type := _, pos := _, after := _, guard := _ }) (v := .pointer (some ⟨g, k * 3, none⟩)) rfl (by kernel_rfl) (by kernel_rfl) (by kernel_rfl) (fun _ _ _ h => h) (Or.inl ⟨by rfl, ?_⟩) (by assumption) ?_
                  · intro w9 hSw
                    exact exec_index rfl rfl rfl (index_t w9 hkn)
                  simp only [Act.put, List.setIfInBounds_toArray, List.set_cons_zero, List.set_cons_succ]
                  refine wpAnyH_take (i := 28) (oi := { dst := some 129, op := _, type := _, pos := _, after := _, guard := _ }) (v := .pointer (some ⟨g, k * 3 + 0, none⟩)) rfl (by kernel_rfl) (by kernel_rfl) (by kernel_rfl) (fun _ _ _ h => h) (Or.inl ⟨by rfl, ?_⟩) (by assumption) ?_
                  · intro w9 hSw
                    exact exec_field rfl rfl (fun w => field_t0 w _ _)
                  simp only [Act.put, List.setIfInBounds_toArray, List.set_cons_zero, List.set_cons_succ]
                  refine wpAnyH_take (i := 29) (oi := { dst := some 130, op := _, type := _, pos := _, after := _, guard := _ }) (v := .agg #[.int .i64 s.r, .int .i64 s.n]) rfl (by kernel_rfl) (by kernel_rfl) (by kernel_rfl) (fun _ _ _ h => h) (Or.inl ⟨by rfl, ?_⟩) (by assumption) ?_
                  · intro w9 hSw
                    exact exec_load (ad := ⟨g, k * 3 + 0, none⟩) rfl rfl (load_d ((hSw.cell hglt).trans c0) ((hSw.cell hglt).trans c1))
                  simp only [Act.put, List.setIfInBounds_toArray, List.set_cons_zero, List.set_cons_succ]
                  clear hHeld
                  refine wpAnyH_ready (rs := [30]) (by kernel_rfl) (by simp) ?_
                  refine AllReadyH.cons (o := { dst := some 131, op := _, type := _, pos := _, after := _, guard := _ }) rfl (fun K hK => ?_) AllReadyH.nil
                  rw [if_pos (by rfl)]
                  refine wp_callL (xs := [.tmp 125, .tmp 130]) (vs := [.agg (dotc r.r r.n), .agg (dotc s.r s.n)]) rfl rfl (enters_before _ _) B ?_
                  rintro e w5 ⟨rfl, hb5'⟩
                  have hb5 : Below wr.heap.size wr w5 := (Below.refl _ wr).drew.trans hb5'
                  refine ⟨_, rfl, ?_⟩
                  refine hK.out _ _ hb5 (fun hHeld => ?_)
                  clear hK K
                  simp only [Act.put, List.setIfInBounds_toArray, List.set_cons_zero, List.set_cons_succ]
                  refine wpAnyH_take (i := 31) (oi := { dst := some 132, op := _, type := _, pos := _, after := _, guard := _ }) (v := .bool false) rfl (by kernel_rfl) (by kernel_rfl) (by kernel_rfl) (fun _ _ _ h => h) (Or.inl ⟨by rfl, ?_⟩) (by assumption) ?_
                  · intro w9 hSw
                    exact exec_not (b := true) rfl rfl
                  simp only [Act.put, List.setIfInBounds_toArray, List.set_cons_zero, List.set_cons_succ]
                  refine wpAnyH_take (i := 32) (oi := { dst := some 133, op := _, type := _, pos := _, after := _, guard := _ }) (v := .bool false) rfl (by kernel_rfl) (by kernel_rfl) (by kernel_rfl) (fun _ _ _ h => h) (Or.inl ⟨by rfl, ?_⟩) (by assumption) ?_
                  · intro w9 hSw
                    exact exec_pick (b := true) rfl rfl rfl rfl
                  simp only [Act.put, List.setIfInBounds_toArray, List.set_cons_zero, List.set_cons_succ]
                  refine wpAnyH_take (i := 33) (oi := { dst := some 134, op := _, type := _, pos := _, after := _, guard := _ }) (v := .bool false) rfl (by kernel_rfl) (by kernel_rfl) (by kernel_rfl) (fun _ _ _ h => h) (Or.inl ⟨by rfl, ?_⟩) (by assumption) ?_
                  · intro w9 hSw
                    exact exec_pick (b := false) rfl rfl rfl rfl
                  simp only [Act.put, List.setIfInBounds_toArray, List.set_cons_zero, List.set_cons_succ]
                  refine wpAnyH_done (by kernel_rfl) ?_ _
                  refine NoPanic.normal ?_
                  have hA5 := HA.out.below hb5 (Nat.le_refl _)
                  have hO5 := HO.out.below hb5 (Nat.le_refl _)
                  have hb6 := hb.trans (hb5.mono hb.size)
                  clear hHeld hb5 hb HA HO
                  go_wp2
                  go_roundw
                  case rel => exact ⟨k + 1, by omega, by go_num, hA5, hO5, hb6⟩
                  case measure => simp [intOf]; omega
          · have hkn' : ¬ (k : Int) < (n : Int) := by omega
            have hwn : IntKind.i64.wrap ((n : Int) - 1) = (n : Int) - 1 := by rw [IntKind.wrap_i64]; omega
            clear hE1
            go_wp2_with fail
            go_loopw [13] (fun c wr => ∃ (j : Nat) (q : Int) (m2 : Option Nat), j ≤ n ∧ c = .int .i64 q ∧ Hid (q = (j : Int) - 1) ∧ Rw 60 wr s9 (.slice aA n cA) S ∧ Obg w1.heap.size wr (w1.heap.size + 1) m2 (S.drop j) ∧ Hid (∀ d, (Value.slice aA n cA).ownBlock = some d → m2 ≠ some d) ∧ Below w1.heap.size w1 wr) (fun c _ => ((intOf c) + 1).toNat)
            case atStart => exact ⟨n, _, none, Nat.le_refl _, rfl, rfl, hA, by rw [List.drop_of_length_le (by omega)]; exact hO, (fun _ _ e => nomatch e), hb⟩
            case round =>
              clear hA hO hb hwn
              obtain ⟨j, q, m2, hj, rfl, hq, hA, hO, hap, hb⟩ := hrel
              by_cases hj0 : j = 0
              · subst hj0
                obtain rfl : q = -1 := by have := hq.out; omega
                rw [List.drop_zero] at hO
                go_wp2_with fail
                refine Calls.mono (items_any _ _ _ _ hO.bg (by omega)) ?_
                rintro e w11 ⟨vB, rfl, hB, hbB⟩
                have hA11 := hA.below hbB (Nat.le_refl _)
                have hb11 := hb.trans (hbB.mono hb.size)
                clear hA hO hap hb hbB hq
                obtain ⟨aB, cB, hvB, hcB, hmB⟩ := hB.val
                subst hvB
                rw [hn] at hB hcB ⊢
                have hfin := hbw1.trans (hb11.mono hbw1.size)
                clear hb11 hbw1
                generalize wr.heap.size = s10 at *
                go_wp2_with fail
                go_loopw [164] (fun c wr => ∃ k : Nat, k ≤ n ∧ c = .int .i64 (k : Int) ∧ wr.heap = w11.heap ∧ Below w.heap.size w wr) (fun c _ => n - (intOf c).toNat)
                case atStart => exact ⟨0, Nat.zero_le _, rfl, rfl, hfin⟩
                case round =>
                  clear hfin
                  obtain ⟨k, hk, rfl, hh, hfin⟩ := hrel
                  by_cases hkn : k < n
                  · have hkn' : (k : Int) < (n : Int) := by omega
                    obtain ⟨g, _, i, e1, -, hi, -, -, c0, c1, c2, -⟩ := (hA11.keep (w' := wr) fun k _ => by rw [hh]).at3 (k := k) (by omega)
                    simp only [Value.slice.injEq] at e1
                    obtain ⟨rfl, -, rfl⟩ := e1
                    obtain ⟨g', _, i', e1, -, hi', -, -, d0, d1, d2, -⟩ := (hB.keep (w' := wr) fun k _ => by rw [hh]).at3 (k := k) (by omega)
                    simp only [Value.slice.injEq] at e1
                    obtain ⟨rfl, -, rfl⟩ := e1
                    rw [hi] at hi'
                    obtain rfl := Option.some.inj hi'
                    have he : ∀ W, (Op.equalIn 10000 60 (.agg #[.int .i64 i.r, .int .i64 i.n, .int .i64 i.x]) (.agg #[.int .i64 i.r, .int .i64 i.n, .int .i64 i.x])).run Try.prog W = .ok true W := fun W => by rw [run_equalIn_it W i i]; simp
                    have hpl := plain_it
                    clear hA11 hB
                    go_wp2_with fail
                    go_region
                    have hfin' := hfin.drew
                    have hh' : wr.drew.heap = w11.heap := hh
                    clear hfin hh c0 c1 c2 d0 d1 d2
                    generalize wr.drew = W at *
                    go_wp2
                    go_roundw
                    case rel => exact ⟨k + 1, by omega, by go_num, hh', hfin'⟩
                    case measure => simp [intOf]; omega
                  · have hkn' : ¬ (k : Int) < (n : Int) := by omega
                    go_wp2
                    go_ret
                    exact ⟨rfl, hfin⟩
              · obtain ⟨j0, hj1⟩ : ∃ j0, Hid (j = j0 + 1) := ⟨j - 1, by show _ = _; omega⟩
                obtain rfl : q = (j0 : Int) := by have := hq.out; have := hj1.out; omega
                have hj0n : j0 < n := by have := hj1.out; omega
                have hj0n' : (j0 : Int) < (n : Int) := by omega
                have hwj : IntKind.i64.wrap ((j0 : Int) - 1) = (j0 : Int) - 1 := by rw [IntKind.wrap_i64]; omega
                obtain ⟨g, _, i, e1, -, hi, hgs, hglt, c0, c1, c2, -⟩ := hA.at3 (k := j0) (by omega)
                simp only [Value.slice.injEq] at e1
                obtain ⟨rfl, -, rfl⟩ := e1
                have hP := put_any _ _ _ i wr.drew hO.bg.drew
                rw [hj1.out, put_drop hS hi] at hP
                have HO : Hid (Obg w1.heap.size wr.drew (w1.heap.size + 1) m2 (S.drop (j0 + 1))) := by have h9 := hO.drew; rw [hj1.out] at h9; exact h9
                have HA : Hid (Rw 60 wr.drew s9 (.slice (some ⟨g, 0, none⟩) n cA) S) := hA.keep fun _ _ => rfl
                clear hA hO hq
                generalize S.drop (j0 + 1) = S1 at *
                obtain ⟨S2, hS2⟩ : ∃ S2, Hid (S.drop j0 = S2) := ⟨_, rfl⟩
                rw [hS2.out] at hP
                go_wp2_with fail
                go_region_with (first | (go_at_call 11; refine Calls.mono hP ?_; rintro e w4 ⟨rfl, m4, hB4, ht4⟩))
                all_goals
                  obtain ⟨hO4, hb4'⟩ := HO.out.turn hb.size hB4 ht4
                  have hb4 := hb.drew.trans hb4'
                  have hA4 := HA.out.turn ht4 (by omega) hap.out
                  have hap4 : Hid (∀ d, (Value.slice (some ⟨g, 0, none⟩) n cA).ownBlock = some d → m4 ≠ some d) := fun d hd e => by
                    rcases ht4.own d e with h9 | h9
                    · exact hap.out d hd h9
                    · have := (HA.out.lt d hd).2; omega
                  rw [← hS2.out] at hO4
                  clear HO HA hP hB4 ht4 hb4' hb c0 c1 c2
                  go_wp2
                  go_roundw
                  case rel => exact ⟨j0, _, m4, by omega, rfl, rfl, hA4, hO4, hap4, hb4⟩
                  case measure => simp [intOf]
end Go.Proofs.Yteihijejohgfpaa
