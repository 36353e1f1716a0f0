/-
  What BagGets comes to.
-/
import Derived.Test.YteihijejohgfpaaBla
namespace Go.Proofs.Yteihijejohgfpaa
open Go.RowKit

theorem gets_put_same {S : List (It Int)} (hS : Srt S) (d : It Int) : gets (put S d) d.r d.n = d := by unfold gets; rw [find_put_same hS]; rfl
theorem gets_put_other {S : List (It Int)} (hS : Srt S) {d : It Int} {r n : Int} (h : ¬ (d.r = r ∧ d.n = n)) : gets (put S d) r n = gets S r n := by
  unfold gets; rw [find_put_other hS (fun e => h ⟨e.1.symm, e.2.symm⟩)]
theorem hasD_put_same (S : List (It Int)) (d : It Int) : hasD (put S d) d.r d.n = true := hasD_iff.2 ⟨d, mem_put.2 (.inl rfl), rfl, rfl⟩
theorem hasD_put_other {S : List (It Int)} (hS : Srt S) {d : It Int} {r n : Int} (h : ¬ (d.r = r ∧ d.n = n)) : hasD (put S d) r n = hasD S r n := by
  rw [hasD_find, hasD_find, find_put_other hS (fun e => h ⟨e.1.symm, e.2.symm⟩)]

set_option maxHeartbeats 2000000 in
set_option maxRecDepth 100000 in
theorem gets_walk (a : Option Addr) (len cap : Nat) (E : List (It Int)) (r n r' n' x : Int) (w : World) (hE : Lst itl 3 w a len cap E) :
    Calls Try.prog 8 #[.slice a len cap, .agg (dotc r n), .agg (dotc r' n'), .int .i64 x] w fun e w' => e = .returned (.bool true) ∧ Below w.heap.size w w' := by
  have hlen := hE.1
  have hmx : len ≤ 9223372036854775807 := by have h2 := hE.2.1; have h3 := hE.2.2.1; unfold maxLen at h3; omega
  have hb0 : Below w.heap.size w ((w.alloc (.cells (dotc r n) 34)).alloc (.cells (dotc r' n') 34)) := ((Below.refl _ _).alloc (Nat.le_refl _) _).alloc (by simp) _
  have hD : LiesD ((w.alloc (.cells (dotc r n) 34)).alloc (.cells (dotc r' n') 34)) w.heap.size r n := (liesD_new w r n).alloc _
  have hD' : LiesD ((w.alloc (.cells (dotc r n) 34)).alloc (.cells (dotc r' n') 34)) (w.heap.size + 1) r' n' := by
    have := liesD_new (w.alloc (.cells (dotc r n) 34)) r' n'
    rwa [World.size_alloc] at this
  obtain ⟨W, hW⟩ : ∃ W, (w.alloc (.cells (dotc r n) 34)).alloc (.cells (dotc r' n') 34) = W := ⟨_, rfl⟩
  rw [hW] at hb0 hD hD'
  by_cases hl : 300 < len
  · have hl' : (300 : Int) < (len : Int) := by omega
    clear hE
    go_enter Try.func8, Try.ntmps8
    go_wp2_with fail
    refine (awake_any W).mono ?_
    rintro e w1 ⟨rfl, hb1⟩
    go_wp2_with fail
    refine (awake_any w1).mono ?_
    rintro e w2 ⟨rfl, hb2⟩
    have hb := (hb0.trans (hb1.mono hb0.size)).trans (hb2.mono (by have := hb0.size; have := hb1.size; omega))
    go_wp2
    go_ret
    exact ⟨rfl, hb⟩
  · have hl' : ¬ (300 : Int) < (len : Int) := by omega
    go_enter Try.func8, Try.ntmps8
    go_wp2_with fail
    refine (awake_any W).mono ?_
    rintro e w1 ⟨rfl, hb1⟩
    clear hW
    have hD1 := hD.below hb1 hD.lt
    have hD1' := hD'.below hb1 hD'.lt
    have hbw1 := hb0.trans (hb1.mono hb0.size)
    have hE1 := hE.below hbw1 (Nat.le_refl _)
    clear hD hD' hb0 hb1 hE
    go_wp2_with fail
    refine (new_any w1).mono ?_
    rintro e w2 ⟨rfl, hw2⟩
    have hO := obg_new w1 w1.heap.size (Nat.le_refl _)
    have hb2 : Below w1.heap.size w1 (w1.alloc (.cells #[.map none] 32)) := (Below.refl _ w1).alloc (Nat.le_refl _) _
    rw [← hw2] at hO hb2
    clear hw2
    go_wp2_with fail
    go_loopw [33] (fun v wr => ∃ (k : Nat) (m : Option Nat), k ≤ len ∧ v = .int .i64 (k : Int) ∧ Obg w1.heap.size wr w1.heap.size m (puts (E.take k)) ∧ Below w1.heap.size w1 wr) (fun v _ => len - (intOf v).toNat)
    case atStart => exact ⟨0, none, Nat.zero_le _, rfl, hO, hb2⟩
    case round =>
      clear hO hb2
      obtain ⟨k, m, hk, rfl, hO, hb2⟩ := hrel
      by_cases hlt : k < len
      · have hlt' : (k : Int) < (len : Int) := by omega
        obtain ⟨b, off, i, ha, hi, hblt, c0, c1, c2⟩ := (hE1.below hb2 (Nat.le_refl _)).at3 hlt
        subst ha
        have hP := put_any _ _ _ i wr.drew hO.bg.drew
        have HO : Hid _ := hO
        clear hO hE1
        go_wp2_with fail
        go_region_with (first | (go_at_call 11; refine Calls.mono hP ?_; rintro e w3 ⟨rfl, m3, hB3, ht3⟩))
        all_goals
          obtain ⟨hO3, hb3⟩ := HO.out.drew.turn hb2.size hB3 ht3
          have hb4 := hb2.drew.trans hb3
          clear HO hP hB3 ht3 hb3 c0 c1 c2
          go_wp2
          go_roundw
          case rel => exact ⟨k + 1, m3, by omega, by go_num, by rw [puts_take hi]; exact hO3, hb4⟩
          case measure => simp [intOf]; omega
      · have hkl : k = len := by omega
        have hS := Srt.puts E
        have hL : (puts E).length ≤ 300 := by have := puts_length E; omega
        rw [List.take_of_length_le (by omega)] at hO
        generalize puts E = S at *
        have hlt' : ¬ (k : Int) < (len : Int) := by omega
        have d0 := (hD1.below hb2 hD1.lt).cell0
        have d1 := (hD1.below hb2 hD1.lt).cell1
        have e0 := (hD1'.below hb2 hD1'.lt).cell0
        have e1 := (hD1'.below hb2 hD1'.lt).cell1
        clear hE1
        go_wp2_with fail
        refine (get_any _ _ _ r' n' _ hO.bg).mono ?_
        rintro e w3 ⟨rfl, hb3⟩
        obtain ⟨P, hP⟩ : ∃ P, Hid (P = (gets S r' n').x) := ⟨_, rfl⟩
        obtain ⟨Q, hQ⟩ : ∃ Q, Hid (Q = hasD S r' n') := ⟨_, rfl⟩
        rw [← hP.out, ← hQ.out]
        have hO3 := hO.below hb3 (Nat.le_refl _)
        have hc3 := hb2.trans (hb3.mono hb2.size)
        clear d0 d1 e0 e1 hb3 hO hb2
        go_wp2_with fail
        refine (len_any _ _ _ _ hO3.bg).mono ?_
        rintro e w4 ⟨rfl, hw⟩
        obtain rfl := hw.symm
        have d0 := (hD1.below hc3 hD1.lt).cell0
        have d1 := (hD1.below hc3 hD1.lt).cell1
        go_wp2_with fail
        refine (get_any _ _ _ r n _ hO3.bg).mono ?_
        rintro e w4 ⟨rfl, hb4⟩
        have hO4 := hO3.below hb4 (Nat.le_refl _)
        have hc4 := hc3.trans (hb4.mono hc3.size)
        clear d0 d1 hb4 hO3 hc3
        have d0 := (hD1.below hc4 hD1.lt).cell0
        have d1 := (hD1.below hc4 hD1.lt).cell1
        go_wp2_with fail
        refine (put_any _ _ _ ⟨r, n, x⟩ _ hO4.bg).mono ?_
        rintro e w5 ⟨rfl, m5, hB5, ht5⟩
        obtain ⟨hO5, hb5⟩ := hO4.turn hc4.size hB5 ht5
        have hc5 := hc4.trans hb5
        clear d0 d1 hb5 hO4 hc4 hB5 ht5
        have d0 := (hD1.below hc5 hD1.lt).cell0
        have d1 := (hD1.below hc5 hD1.lt).cell1
        have g0 : gets (put S ⟨r, n, x⟩) r n = ⟨r, n, x⟩ := gets_put_same hS ⟨r, n, x⟩
        have g1 : hasD (put S ⟨r, n, x⟩) r n = true := hasD_put_same S ⟨r, n, x⟩
        have g2 : ¬ (r = r' ∧ n = n') → gets (put S ⟨r, n, x⟩) r' n' = gets S r' n' ∧ hasD (put S ⟨r, n, x⟩) r' n' = hasD S r' n' := fun h => ⟨gets_put_other hS h, hasD_put_other hS h⟩
        have g3 : hasD S r n = true → (put S ⟨r, n, x⟩).length = S.length := fun h => put_length_old hS h
        have g4 : hasD S r n = false → (put S ⟨r, n, x⟩).length = S.length + 1 := fun h => put_length_new h
        obtain ⟨Kn, hKn⟩ : ∃ Kn, Hid (Kn = hasD S r n) := ⟨_, rfl⟩
        rw [← hKn.out] at g3 g4 ⊢
        generalize put S ⟨r, n, x⟩ = S5 at *
        have G2 : Hid _ := g2
        clear g2
        go_wp2_with fail
        refine (get_any _ _ _ r n _ hO5.bg).mono ?_
        rintro e w6 ⟨rfl, hb6⟩
        have hO6 := hO5.below hb6 (Nat.le_refl _)
        have hc6 := hc5.trans (hb6.mono hc5.size)
        clear d0 d1 hb6 hO5 hc5
        rw [g0, g1]
        have e0 := (hD1'.below hc6 hD1'.lt).cell0
        have e1 := (hD1'.below hc6 hD1'.lt).cell1
        go_wp2_with fail
        refine (get_any _ _ _ r' n' _ hO6.bg).mono ?_
        rintro e w7 ⟨rfl, hb7⟩
        have hO7 := hO6.below hb7 (Nat.le_refl _)
        have hc7 := hc6.trans (hb7.mono hc6.size)
        clear e0 e1 hb7 hO6 hc6
        have d0 := (hD1.below hc7 hD1.lt).cell0
        have d1 := (hD1.below hc7 hD1.lt).cell1
        have e0 := (hD1'.below hc7 hD1'.lt).cell0
        have e1 := (hD1'.below hc7 hD1'.lt).cell1
        have hp := plain_dot
        have hq := fun W => run_equalIn_dot W 9998 r n r' n'
        simp only [dotc, Nat.reduceAdd] at hq
        obtain ⟨P5, hP5⟩ : ∃ P5, Hid (P5 = (gets S5 r' n').x) := ⟨_, rfl⟩
        obtain ⟨Q5, hQ5⟩ : ∃ Q5, Hid (Q5 = hasD S5 r' n') := ⟨_, rfl⟩
        rw [← hP5.out, ← hQ5.out]
        have hln := len_any _ _ _ _ hO7.bg
        have hrm := remove_any _ _ _ r n _ hO7.bg
        rw [g1] at hrm
        have hh := hasD_del S5 r n
        obtain ⟨T, hT⟩ : ∃ T, Hid (T = del S5 r n) := ⟨_, rfl⟩
        rw [← hT.out] at hrm hh
        have hLe : S.length ≤ 300 := hL
        obtain ⟨X, hX⟩ : ∃ X : Int, X = (gets S r n).x := ⟨_, rfl⟩
        rw [← hX]
        clear hX g0 g1 hS hKn
        have key : (decide (r = r' ∧ n = n') = true) ∨ (decide (r = r' ∧ n = n') = false ∧ P5 = P ∧ Q5 = Q) := by
          by_cases hdd : r = r' ∧ n = n'
          · exact .inl (decide_eq_true hdd)
          · obtain ⟨h1, h2⟩ := G2.out hdd
            exact .inr ⟨decide_eq_false hdd, by rw [hP5.out, hP.out, h1], by rw [hQ5.out, hQ.out, h2]⟩
        clear hP hQ hP5 hQ5 G2
        obtain ⟨bb, hbb⟩ : ∃ bb, decide (r = r' ∧ n = n') = bb := ⟨_, rfl⟩
        rw [hbb] at key hq
        clear hbb
        have kl : (Kn = true ∧ S5.length = S.length) ∨ (Kn = false ∧ S5.length = S.length + 1) := by
          cases Kn
          · exact .inr ⟨rfl, g4 rfl⟩
          · exact .inl ⟨rfl, g3 rfl⟩
        clear g3 g4
        generalize S5.length = L5 at *
        generalize S.length = L at *
        rcases kl with ⟨rfl, rfl⟩ | ⟨rfl, rfl⟩ <;> rcases key with rfl | ⟨rfl, rfl, rfl⟩
        all_goals
          go_wp2_with fail
          refine Calls.mono hln ?_
          rintro e w8 ⟨rfl, hw8⟩
          obtain rfl := hw8.symm
          go_wp2_with fail
          refine Calls.mono hrm ?_
          rintro e w8 ⟨rfl, hB8, ht8⟩
          obtain ⟨hO8, hb8⟩ := hO7.turn hc7.size hB8 ht8
          have hc8 := hc7.trans hb8
          clear d0 d1 e0 e1 hq hln hrm hB8 ht8 hb8
          have d0 := (hD1.below hc8 hD1.lt).cell0
          have d1 := (hD1.below hc8 hD1.lt).cell1
          have hrm := remove_any _ _ _ r n _ hO8.bg
          rw [hh] at hrm
          go_wp2_with fail
          refine Calls.mono hrm ?_
          rintro e w9 ⟨rfl, hB9, ht9⟩
          obtain ⟨hO9, hb9⟩ := hO8.turn hc8.size hB9 ht9
          have hc9 := hc8.trans hb9
          clear d0 d1 hrm hB9 ht9 hb9
          have d0 := (hD1.below hc9 hD1.lt).cell0
          have d1 := (hD1.below hc9 hD1.lt).cell1
          have hgt := get_any _ _ _ r n _ hO9.bg
          rw [hasD_del] at hgt
          go_wp2_with fail
          refine Calls.mono hgt ?_
          rintro e wa ⟨rfl, hba⟩
          have hbe := hbw1.trans ((hc9.trans (hba.mono hc9.size)).mono hbw1.size)
          go_wp2
          go_ret
          exact ⟨rfl, hbe⟩
end Go.Proofs.Yteihijejohgfpaa
