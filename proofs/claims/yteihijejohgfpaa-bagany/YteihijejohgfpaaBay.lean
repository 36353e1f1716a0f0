/-
  What BagAny comes to.
-/
import Derived.Test.YteihijejohgfpaaBmx
namespace Go.Proofs.Yteihijejohgfpaa
open Go.RowKit

section
variable {o : Oper} {a : Act} {w : World} {x y : Operand} {t r : TypeId} {v vx vy : Value}
theorem exec_bin {op : BinOp} (ho : o.op = .binOp op t x y r) (hx : a.eval x = vx) (hy : a.eval y = vy) (hg : (eqGuard op t x y vx vy).run Try.prog w = .ok () w) (hv : (binOp op t vx vy).run Try.prog w = .ok v w) : (execOp a.eval o).run Try.prog w = .ok (.value v) w := by
  unfold execOp; simp only [ho, hx, hy, Sem.run_bind, hg, hv, Result.andThen_ok, Sem.run_pure]
end
theorem run_neq_dot (w : World) (r n : Int) : (binOp .neq 34 (.agg #[.int .i64 r, .int .i64 n]) (.agg #[.int .i64 r, .int .i64 n])).run Try.prog w = .ok (.bool false) w := by
  have h := run_equalIn_dot w 9998 r n r n
  simp only [dotc, Nat.reduceAdd, and_self, decide_true] at h
  go_simp

set_option maxHeartbeats 4000000 in
set_option maxRecDepth 100000 in
theorem bany_walk (a : Option Addr) (len cap : Nat) (O : List Cl) (w : World) (hO : Lst cll 20 w a len cap O) (hO1 : ∀ o ∈ O, IsCl o) :
    Calls Try.prog 4 #[.slice a len cap] w fun e w' => e = .returned (.bool true) ∧ Below w.heap.size w w' := by
  have hlen := hO.1
  have hmx := hO.maxLen
  by_cases hl : 300 < len
  · have hl' : (300 : Int) < (len : Int) := by omega
    clear hO hO1
    go_enter Try.func4, Try.ntmps4
    go_wp2_with fail
    refine (awake_any w).mono ?_
    rintro e w1 ⟨rfl, hb1⟩
    go_wp2_with fail
    refine (awake_any w1).mono ?_
    rintro e w2 ⟨rfl, hb2⟩
    have hb := hb1.trans (hb2.mono hb1.size)
    go_wp2
    go_ret
    exact ⟨rfl, hb⟩
  · have hl' : ¬ (300 : Int) < (len : Int) := by omega
    have HO1 : Hid (∀ o ∈ O, IsCl o) := hO1
    clear hO1
    go_enter Try.func4, Try.ntmps4
    go_wp2_with fail
    refine (awake_any w).mono ?_
    rintro e w1 ⟨rfl, hbw1⟩
    have hO1 := hO.below hbw1 (Nat.le_refl _)
    clear hO
    go_wp2_with fail
    refine (new_any w1).mono ?_
    rintro e w2 ⟨rfl, hw2'⟩
    have HW2 : Hid (w2 = w1.alloc (.cells #[.map none] 32)) := hw2'
    have hs2 : w2.heap.size = w1.heap.size + 1 := by rw [hw2']; simp
    clear hw2'
    go_wp2_with fail
    refine (S.new_any w2).mono ?_
    rintro e w3 ⟨rfl, hw3⟩
    have hw2 := HW2.out
    have hT := mix_new w1
    have hb3 : Below w1.heap.size w1 ((w1.alloc (.cells #[.map none] 32)).alloc (.cells #[.map none] 79)) := ((Below.refl _ w1).alloc (Nat.le_refl _) _).alloc (by simp) _
    rw [← hw2, ← hw3] at hT hb3
    clear hw2 hw3 HW2
    try rw [hs2]
    clear hs2
    go_wp2_with fail
    go_loopw [29] (fun c wr => ∃ (k : Nat) (m m2 : Option Nat) (L : List (It Int)), k ≤ len ∧ c = .int .i64 (k : Int) ∧ Mix w1.heap.size wr w1.heap.size m L (w1.heap.size + 1) m2 (L.map tx) ∧ Hid (∀ i ∈ L, 0 ≤ i.x) ∧ L.length ≤ k ∧ Below w1.heap.size w1 wr) (fun c _ => len - (intOf c).toNat)
    case atStart => exact ⟨0, none, none, [], Nat.zero_le _, rfl, hT, (fun i hi => nomatch hi), Nat.zero_le _, hb3⟩
    case round =>
      clear hT hb3
      obtain ⟨k, m, m2, L, hk, rfl, hT, hL0, hLk, hb2⟩ := hrel
      by_cases hlt : k < len
      · have hlt' : (k : Int) < (len : Int) := by omega
        obtain ⟨b, off, o, ha, ho, hblt, hR⟩ := (hO1.below hb2 (Nat.le_refl _)).atC hlt
        subst ha
        have hv16 := (HO1.out o (List.mem_of_getElem? ho)).v
        obtain ⟨kd, r, n, x, v⟩ := o
        simp only at hv16
        have hD1 : w1.heap.size ≠ wr.heap.size := by have := hT.a.bg.lt; omega
        have hD2 : w1.heap.size + 1 ≠ wr.heap.size := by have := hT.b.bg.lt; omega
        have hmD1 : ∀ q, m = some q → q ≠ wr.heap.size := fun q hq => by have := (hT.a.bg.own q hq).1; omega
        have hmD2 : ∀ q, m2 = some q → q ≠ wr.heap.size := fun q hq => by have := (hT.b.bg.own q hq).1; omega
        have HT : Hid (Mix w1.heap.size wr w1.heap.size m L (w1.heap.size + 1) m2 (L.map tx)) := hT
        obtain ⟨N, hN⟩ : ∃ N : Nat, bits .and .i64 x 63 = (N : Int) := ⟨(bits .and .i64 x 63).toNat, by have := (and63 x).1; omega⟩
        have hN63 : N ≤ 63 := by have := (and63 x).2; omega
        clear hT
        go_upto_region 10 with (first | refine load_cl rfl rfl rfl hR hv16 ?_ | refine store_cl rfl rfl rfl rfl (heap_alloc_new wr _) rfl hv16 ?_)
        have hC := liesC_past wr #[.int .i64 0, .int .i64 0, .int .i64 0, .int .i64 0, .int .i64 0, .int .i64 0, .int .i64 0, .int .i64 0, .int .i64 0, .int .i64 0, .int .i64 0, .int .i64 0, .int .i64 0, .int .i64 0, .int .i64 0, .int .i64 0, .int .i64 0, .int .i64 0, .int .i64 0, .int .i64 0] ⟨kd, r, n, x, v⟩
        have hb9 := below_past wr #[.int .i64 0, .int .i64 0, .int .i64 0, .int .i64 0, .int .i64 0, .int .i64 0, .int .i64 0, .int .i64 0, .int .i64 0, .int .i64 0, .int .i64 0, .int .i64 0, .int .i64 0, .int .i64 0, .int .i64 0, .int .i64 0, .int .i64 0, .int .i64 0, .int .i64 0, .int .i64 0] ⟨kd, r, n, x, v⟩
        have hM := HT.out.below hb9 (Nat.le_refl _)
        have hb := hb2.trans (hb9.mono hb2.size)
        clear hR hblt HT hb9 hb2
        generalize (wr.alloc (.cells #[.int .i64 0, .int .i64 0, .int .i64 0, .int .i64 0, .int .i64 0, .int .i64 0, .int .i64 0, .int .i64 0, .int .i64 0, .int .i64 0, .int .i64 0, .int .i64 0, .int .i64 0, .int .i64 0, .int .i64 0, .int .i64 0, .int .i64 0, .int .i64 0, .int .i64 0, .int .i64 0] 38)).setRow wr.heap.size (clc ⟨kd, r, n, x, v⟩) = W at *
        generalize wr.heap.size = D at *
        have c0 := hC.c0
        have c1 := hC.c1
        have c2 := hC.c2
        have c3 := hC.c3
        simp only at c0 c1 c2 c3
        by_cases h1 : kd = 1
        · subst h1
          go_wp2_with fail
          refine (put_any _ _ _ ⟨r, n, N⟩ W hM.a.bg).mono ?_
          rintro e w4 ⟨rfl, m4, hB4, ht4⟩
          have hC4 := hC.turn ht4 hD1 (fun q hq e => hmD1 q hq e)
          obtain ⟨hM4, hb4'⟩ := hM.left hb.size hB4 ht4
          have hb4 := hb.trans hb4'
          have hL4 : Hid (∀ i ∈ put L ⟨r, n, N⟩, 0 ≤ i.x) := fun i hi => by
            rcases mem_put_le hi with rfl | hi
            · show (0 : Int) ≤ (N : Int); omega
            · exact hL0.out i hi
          have hl4 := put_length_le L ⟨r, n, N⟩
          clear c0 c1 c2 c3 hC hM hb hB4 ht4 hb4'
          go_wp2_with fail
          refine wp_region_noPanic ?_
          refine wp_region_held_drew (S := fun W' : World => LiesC W' D ⟨1, r, n, x, v⟩) (by kernel_rfl) hC4.drew (fun hHeld => ?_)
          refine wpAnyH_take (i := 0) (oi := { dst := some 48, op := _, type := _, pos := _, after := _, guard := _ }) (v := .pointer (some ⟨w1.heap.size + 1, 0, none⟩)) rfl (by kernel_rfl) (by kernel_rfl) (by kernel_rfl) (fun _ _ _ h => h) (Or.inl ⟨by rfl, ?_⟩) (by assumption) ?_
          · intro w9 hSw
            exact exec_move rfl rfl
          simp only [Act.put, List.setIfInBounds_toArray, List.set_cons_zero, List.set_cons_succ]
          refine wpAnyH_take (i := 1) (oi := { dst := some 49, op := _, type := _, pos := _, after := _, guard := _ }) (v := .pointer (some ⟨D, 0 + 1, none⟩)) rfl (by kernel_rfl) (by kernel_rfl) (by kernel_rfl) (fun _ _ _ h => h) (Or.inl ⟨by rfl, ?_⟩) (by assumption) ?_
          · intro w9 hSw
            exact exec_field rfl rfl (fun w => field_o1 w _ _)
          simp only [Act.put, List.setIfInBounds_toArray, List.set_cons_zero, List.set_cons_succ]
          refine wpAnyH_take (i := 2) (oi := { dst := some 50, op := _, type := _, pos := _, after := _, guard := _ }) (v := .agg #[.int .i64 r, .int .i64 n]) rfl (by kernel_rfl) (by kernel_rfl) (by kernel_rfl) (fun _ _ _ h => h) (Or.inl ⟨by rfl, ?_⟩) (by assumption) ?_
          · intro w9 hSw
            exact exec_load (ad := ⟨D, 0 + 1, none⟩) rfl rfl (load_d (i := 0 + 1) hSw.c1 hSw.c2)
          simp only [Act.put, List.setIfInBounds_toArray, List.set_cons_zero, List.set_cons_succ]
          refine wpAnyH_take (i := 3) (oi := { dst := some 51, op := _, type := _, pos := _, after := _, guard := _ }) (v := .int .i64 (N : Int)) rfl (by kernel_rfl) (by kernel_rfl) (by kernel_rfl) (fun _ _ _ h => h) (Or.inl ⟨by rfl, ?_⟩) (by assumption) ?_
          · intro w9 hSw
            exact exec_move rfl rfl
          simp only [Act.put, List.setIfInBounds_toArray, List.set_cons_zero, List.set_cons_succ]
          have hM5 := hM4.drew
          have hb5 := hb4.drew
          have hC5 := hC4.drew
          clear hHeld hM4 hb4 hC4
          generalize w4.drew = w5 at *
          refine wpAnyH_ready (rs := [4]) (by kernel_rfl) (by simp) ?_
          refine AllReadyH.cons (o := { dst := some 52, op := _, type := _, pos := _, after := _, guard := _ }) rfl (fun K hK => ?_) AllReadyH.nil
          rw [if_pos (by rfl)]
          refine wp_make rfl rfl rfl (run_make0 w5 N hN63) ?_
          have hbm : Below w5.heap.size w5 (w5.alloc (.cells (Array.replicate N (.int .u8 0)) 5)) := (Below.refl _ _).alloc (Nat.le_refl _) _
          have hby := heap_alloc_new w5 (.cells (Array.replicate N (.int .u8 0)) 5)
          have hM6 := hM5.below hbm (Nat.le_refl _)
          have hb6 := hb5.trans (hbm.mono hb5.size)
          have hC6 := hC5.below hbm hC5.lt
          clear hM5 hb5 hC5 hbm
          generalize w5.alloc (.cells (Array.replicate N (.int .u8 0)) 5) = w6 at *
          refine hK.out _ _ hC6 (fun hHeld => ?_)
          clear hK K
          simp only [Act.put, List.setIfInBounds_toArray, List.set_cons_zero, List.set_cons_succ]
          refine wpAnyH_ready (rs := [5]) (by kernel_rfl) (by simp) ?_
          refine AllReadyH.cons (o := { dst := some 53, op := _, type := _, pos := _, after := _, guard := _ }) rfl (fun K hK => ?_) AllReadyH.nil
          rw [if_pos (by rfl)]
          refine wp_conv rfl rfl (run_conv0 w6 w5.heap.size N hby) ?_
          refine hK.out _ _ hC6 (fun hHeld => ?_)
          clear hK K
          simp only [Act.put, List.setIfInBounds_toArray, List.set_cons_zero, List.set_cons_succ]
          refine wpAnyH_ready (rs := [6]) (by kernel_rfl) (by simp) ?_
          refine AllReadyH.cons (o := { dst := some 54, op := _, type := _, pos := _, after := _, guard := _ }) rfl (fun K hK => ?_) AllReadyH.nil
          rw [if_pos (by rfl)]
          refine wp_callL (xs := [.tmp 48, .tmp 50, .tmp 53]) (vs := [.pointer (some ⟨w1.heap.size + 1, 0, none⟩), .agg (dotc r n), .string (txt (N : Int))]) rfl rfl (enters_put2 _ _) (S.put_any _ _ _ (tx ⟨r, n, N⟩) w6 hM6.b.bg) ?_
          rintro e w7 ⟨rfl, m7, hB7, ht7⟩
          have hC7 := hC6.turn (turnS ht7) hD2 (fun q hq e => hmD2 q hq e)
          obtain ⟨hM7, hb7'⟩ := hM6.right hb6.size hB7 ht7
          have hb7 := hb6.trans hb7'
          rw [put_tx] at hM7
          clear hB7 ht7 hM6 hb6 hC6 hb7' hby
          refine ⟨_, rfl, ?_⟩
          refine hK.out _ _ hC7 (fun hHeld => ?_)
          clear hK K
          simp only [Act.put, List.setIfInBounds_toArray, List.set_cons_zero, List.set_cons_succ]
          refine wpAnyH_done (by kernel_rfl) ?_ _
          refine NoPanic.normal ?_
          clear hHeld hC7
          go_wp2
          go_roundw
          case rel => exact ⟨k + 1, m4, m7, put L ⟨r, n, N⟩, by omega, by go_num, hM7, hL4, by omega, hb7⟩
          case measure => simp [intOf]; omega
        · by_cases h3 : kd = 3
          · subst h3
            have hL4 : Hid (∀ i ∈ del L r n, 0 ≤ i.x) := fun i hi => hL0.out i (List.mem_filter.1 hi).1
            have hl4 : (del L r n).length ≤ L.length := List.length_filter_le _ _
            go_wp2_with fail
            clear c0 c1 c2 c3
            refine wp_region_noPanic ?_
            refine wp_region_held_drew (S := fun W' : World => LiesC W' D ⟨3, r, n, x, v⟩) (by kernel_rfl) hC.drew (fun hHeld => ?_)
            refine wpAnyH_take (i := 0) (oi := { dst := some 57, op := _, type := _, pos := _, after := _, guard := _ }) (v := .pointer (some ⟨w1.heap.size, 0, none⟩)) rfl (by kernel_rfl) (by kernel_rfl) (by kernel_rfl) (fun _ _ _ h => h) (Or.inl ⟨by rfl, ?_⟩) (by assumption) ?_
            · intro w9 hSw
              exact exec_move rfl rfl
            simp only [Act.put, List.setIfInBounds_toArray, List.set_cons_zero, List.set_cons_succ]
            refine wpAnyH_take (i := 1) (oi := { dst := some 58, op := _, type := _, pos := _, after := _, guard := _ }) (v := .pointer (some ⟨D, 0 + 1, none⟩)) rfl (by kernel_rfl) (by kernel_rfl) (by kernel_rfl) (fun _ _ _ h => h) (Or.inl ⟨by rfl, ?_⟩) (by assumption) ?_
            · intro w9 hSw
              exact exec_field rfl rfl (fun w => field_o1 w _ _)
            simp only [Act.put, List.setIfInBounds_toArray, List.set_cons_zero, List.set_cons_succ]
            refine wpAnyH_take (i := 2) (oi := { dst := some 59, op := _, type := _, pos := _, after := _, guard := _ }) (v := .agg #[.int .i64 r, .int .i64 n]) rfl (by kernel_rfl) (by kernel_rfl) (by kernel_rfl) (fun _ _ _ h => h) (Or.inl ⟨by rfl, ?_⟩) (by assumption) ?_
            · intro w9 hSw
              exact exec_load (ad := ⟨D, 0 + 1, none⟩) rfl rfl (load_d (i := 0 + 1) hSw.c1 hSw.c2)
            simp only [Act.put, List.setIfInBounds_toArray, List.set_cons_zero, List.set_cons_succ]
            refine wpAnyH_take (i := 4) (oi := { dst := some 61, op := _, type := _, pos := _, after := _, guard := _ }) (v := .pointer (some ⟨w1.heap.size + 1, 0, none⟩)) rfl (by kernel_rfl) (by kernel_rfl) (by kernel_rfl) (fun _ _ _ h => h) (Or.inl ⟨by rfl, ?_⟩) (by assumption) ?_
            · intro w9 hSw
              exact exec_move rfl rfl
            simp only [Act.put, List.setIfInBounds_toArray, List.set_cons_zero, List.set_cons_succ]
            refine wpAnyH_take (i := 5) (oi := { dst := some 62, op := _, type := _, pos := _, after := _, guard := _ }) (v := .pointer (some ⟨D, 0 + 1, none⟩)) rfl (by kernel_rfl) (by kernel_rfl) (by kernel_rfl) (fun _ _ _ h => h) (Or.inl ⟨by rfl, ?_⟩) (by assumption) ?_
            · intro w9 hSw
              exact exec_field rfl rfl (fun w => field_o1 w _ _)
            simp only [Act.put, List.setIfInBounds_toArray, List.set_cons_zero, List.set_cons_succ]
            refine wpAnyH_take (i := 6) (oi := { dst := some 63, op := _, type := _, pos := _, after := _, guard := _ }) (v := .agg #[.int .i64 r, .int .i64 n]) rfl (by kernel_rfl) (by kernel_rfl) (by kernel_rfl) (fun _ _ _ h => h) (Or.inl ⟨by rfl, ?_⟩) (by assumption) ?_
            · intro w9 hSw
              exact exec_load (ad := ⟨D, 0 + 1, none⟩) rfl rfl (load_d (i := 0 + 1) hSw.c1 hSw.c2)
            simp only [Act.put, List.setIfInBounds_toArray, List.set_cons_zero, List.set_cons_succ]
            have hM5 := hM.drew
            have hb5 := hb.drew
            have hC5 := hC.drew
            clear hHeld hM hb hC
            generalize W.drew = w5 at *
            refine wpAnyH_ready (rs := [3]) (by kernel_rfl) (by simp) ?_
            refine AllReadyH.cons (o := { dst := some 60, op := _, type := _, pos := _, after := _, guard := _ }) rfl (fun K hK => ?_) AllReadyH.nil
            rw [if_pos (by rfl)]
            refine wp_callL (xs := [.tmp 57, .tmp 59]) (vs := [.pointer (some ⟨w1.heap.size, 0, none⟩), .agg (dotc r n)]) rfl rfl (enters_remove _ _) (remove_any _ _ _ r n w5 hM5.a.bg) ?_
            rintro e w6 ⟨rfl, hB6, ht6⟩
            have hC6 := hC5.turn ht6 hD1 (fun q hq e => hmD1 q hq e)
            obtain ⟨hM6, hb6'⟩ := hM5.left hb5.size hB6 ht6
            have hb6 := hb5.trans hb6'
            clear hB6 ht6 hM5 hb5 hC5 hb6'
            refine ⟨_, rfl, ?_⟩
            refine hK.out _ _ hC6 (fun hHeld => ?_)
            clear hK K
            simp only [Act.put, List.setIfInBounds_toArray, List.set_cons_zero, List.set_cons_succ]
            refine wpAnyH_ready (rs := [7]) (by kernel_rfl) (by simp) ?_
            refine AllReadyH.cons (o := { dst := some 64, op := _, type := _, pos := _, after := _, guard := _ }) rfl (fun K hK => ?_) AllReadyH.nil
            rw [if_pos (by rfl)]
            refine wp_callL (xs := [.tmp 61, .tmp 63]) (vs := [.pointer (some ⟨w1.heap.size + 1, 0, none⟩), .agg (dotc r n)]) rfl rfl (enters_remove2 _ _) (S.remove_any _ _ _ r n w6 hM6.b.bg) ?_
            rintro e w7 ⟨rfl, hB7, ht7⟩
            have hC7 := hC6.turn (turnS ht7) hD2 (fun q hq e => hmD2 q hq e)
            obtain ⟨hM7, hb7'⟩ := hM6.right hb6.size hB7 ht7
            have hb7 := hb6.trans hb7'
            rw [del_tx] at hM7
            rw [hasD_tx]
            clear hB7 ht7 hM6 hb6 hC6 hb7'
            refine ⟨_, rfl, ?_⟩
            refine hK.out _ _ hC7 (fun hHeld => ?_)
            clear hK K
            simp only [Act.put, List.setIfInBounds_toArray, List.set_cons_zero, List.set_cons_succ]
            refine wpAnyH_take (i := 8) (oi := { dst := some 65, op := _, type := _, pos := _, after := _, guard := _ }) (v := .bool false) rfl (by kernel_rfl) (by kernel_rfl) (by kernel_rfl) (fun _ _ _ h => h) (Or.inl ⟨by rfl, ?_⟩) (by assumption) ?_
            · intro w9 hSw
              exact exec_neqb rfl rfl rfl (by simp)
            simp only [Act.put, List.setIfInBounds_toArray, List.set_cons_zero, List.set_cons_succ]
            refine wpAnyH_done (by kernel_rfl) ?_ _
            refine NoPanic.normal ?_
            clear hHeld hC7
            go_wp2
            go_roundw
            case rel => exact ⟨k + 1, m, m2, del L r n, by omega, by go_num, hM7, hL4, by omega, hb7⟩
            case measure => simp [intOf]; omega
          · by_cases h4 : kd = 4
            · subst h4
              have hL4 : Hid (∀ i ∈ L.filter (fun i => !gone v all i), 0 ≤ i.x) := fun i hi => hL0.out i (List.mem_filter.1 hi).1
              have hl4 : (L.filter (fun i => !gone v all i)).length ≤ L.length := List.length_filter_le _ _
              go_wp2_with fail
              clear c0 c1 c2 c3
              refine wp_region_noPanic ?_
              refine wp_region_held_drew (S := fun W' : World => LiesC W' D ⟨4, r, n, x, v⟩) (by kernel_rfl) hC.drew (fun hHeld => ?_)
              refine wpAnyH_take (i := 0) (oi := { dst := some 68, op := _, type := _, pos := _, after := _, guard := _ }) (v := .pointer (some ⟨w1.heap.size, 0, none⟩)) rfl (by kernel_rfl) (by kernel_rfl) (by kernel_rfl) (fun _ _ _ h => h) (Or.inl ⟨by rfl, ?_⟩) (by assumption) ?_
              · intro w9 hSw
                exact exec_move rfl rfl
              simp only [Act.put, List.setIfInBounds_toArray, List.set_cons_zero, List.set_cons_succ]
              refine wpAnyH_take (i := 1) (oi := { dst := some 69, op := _, type := _, pos := _, after := _, guard := _ }) (v := .pointer (some ⟨D, 0 + 4, none⟩)) rfl (by kernel_rfl) (by kernel_rfl) (by kernel_rfl) (fun _ _ _ h => h) (Or.inl ⟨by rfl, ?_⟩) (by assumption) ?_
              · intro w9 hSw
                exact exec_field rfl rfl (fun w => field_o3 w _ _)
              simp only [Act.put, List.setIfInBounds_toArray, List.set_cons_zero, List.set_cons_succ]
              refine wpAnyH_take (i := 2) (oi := { dst := some 70, op := _, type := _, pos := _, after := _, guard := _ }) (v := .agg (vals v)) rfl (by kernel_rfl) (by kernel_rfl) (by kernel_rfl) (fun _ _ _ h => h) (Or.inl ⟨by rfl, ?_⟩) (by assumption) ?_
              · intro w9 hSw
                exact exec_load (ad := ⟨D, 0 + 4, none⟩) rfl rfl (load_vc hSw hv16)
              simp only [Act.put, List.setIfInBounds_toArray, List.set_cons_zero, List.set_cons_succ]
              refine wpAnyH_take (i := 4) (oi := { dst := some 72, op := _, type := _, pos := _, after := _, guard := _ }) (v := .pointer (some ⟨w1.heap.size + 1, 0, none⟩)) rfl (by kernel_rfl) (by kernel_rfl) (by kernel_rfl) (fun _ _ _ h => h) (Or.inl ⟨by rfl, ?_⟩) (by assumption) ?_
              · intro w9 hSw
                exact exec_move rfl rfl
              simp only [Act.put, List.setIfInBounds_toArray, List.set_cons_zero, List.set_cons_succ]
              refine wpAnyH_take (i := 5) (oi := { dst := some 73, op := _, type := _, pos := _, after := _, guard := _ }) (v := .pointer (some ⟨D, 0 + 4, none⟩)) rfl (by kernel_rfl) (by kernel_rfl) (by kernel_rfl) (fun _ _ _ h => h) (Or.inl ⟨by rfl, ?_⟩) (by assumption) ?_
              · intro w9 hSw
                exact exec_field rfl rfl (fun w => field_o3 w _ _)
              simp only [Act.put, List.setIfInBounds_toArray, List.set_cons_zero, List.set_cons_succ]
              refine wpAnyH_take (i := 6) (oi := { dst := some 74, op := _, type := _, pos := _, after := _, guard := _ }) (v := .agg (vals v)) rfl (by kernel_rfl) (by kernel_rfl) (by kernel_rfl) (fun _ _ _ h => h) (Or.inl ⟨by rfl, ?_⟩) (by assumption) ?_
              · intro w9 hSw
                exact exec_load (ad := ⟨D, 0 + 4, none⟩) rfl rfl (load_vc hSw hv16)
              simp only [Act.put, List.setIfInBounds_toArray, List.set_cons_zero, List.set_cons_succ]
              have hM5 := hM.drew
              have hb5 := hb.drew
              have hC5 := hC.drew
              clear hHeld hM hb hC
              generalize W.drew = w5 at *
              refine wpAnyH_ready (rs := [3]) (by kernel_rfl) (by simp) ?_
              refine AllReadyH.cons (o := { dst := some 71, op := _, type := _, pos := _, after := _, guard := _ }) rfl (fun K hK => ?_) AllReadyH.nil
              rw [if_pos (by rfl)]
              refine wp_callL (xs := [.tmp 68, .tmp 70, .const .nilFunc]) (vs := [.pointer (some ⟨w1.heap.size, 0, none⟩), .agg (vals v), .nilFunc]) rfl rfl (enters_drop _ _) (drop_any _ _ _ v hv16 all .nilFunc whp_nil w5 hM5.a.bg (by omega) (.inl rfl)) ?_
              rintro e w6 ⟨rfl, hB6, ht6⟩
              have hC6 := hC5.turn ht6 hD1 (fun q hq e => hmD1 q hq e)
              obtain ⟨hM6, hb6'⟩ := hM5.left hb5.size hB6 ht6
              have hb6 := hb5.trans hb6'
              clear hB6 ht6 hM5 hb5 hC5 hb6'
              refine ⟨_, rfl, ?_⟩
              refine hK.out _ _ hC6 (fun hHeld => ?_)
              clear hK K
              simp only [Act.put, List.setIfInBounds_toArray, List.set_cons_zero, List.set_cons_succ]
              refine wpAnyH_ready (rs := [7]) (by kernel_rfl) (by simp) ?_
              refine AllReadyH.cons (o := { dst := some 75, op := _, type := _, pos := _, after := _, guard := _ }) rfl (fun K hK => ?_) AllReadyH.nil
              rw [if_pos (by rfl)]
              refine wp_callL (xs := [.tmp 72, .tmp 74, .const .nilFunc]) (vs := [.pointer (some ⟨w1.heap.size + 1, 0, none⟩), .agg (vals v), .nilFunc]) rfl rfl (enters_drop2 _ _) (S.drop_any _ _ _ v hv16 (fun _ => true) .nilFunc S.whp_nil w6 hM6.b.bg (by rw [List.length_map]; omega) (.inl rfl)) ?_
              rintro e w7 ⟨rfl, hB7, ht7⟩
              have hC7 := hC6.turn (turnS ht7) hD2 (fun q hq e => hmD2 q hq e)
              obtain ⟨hM7, hb7'⟩ := hM6.right hb6.size hB7 ht7
              have hb7 := hb6.trans hb7'
              rw [(gone_tx v L).2] at hM7
              rw [(gone_tx v L).1]
              clear hB7 ht7 hM6 hb6 hC6 hb7'
              refine ⟨_, rfl, ?_⟩
              refine hK.out _ _ hC7 (fun hHeld => ?_)
              clear hK K
              simp only [Act.put, List.setIfInBounds_toArray, List.set_cons_zero, List.set_cons_succ]
              refine wpAnyH_take (i := 8) (oi := { dst := some 76, op := _, type := _, pos := _, after := _, guard := _ }) (v := .bool false) rfl (by kernel_rfl) (by kernel_rfl) (by kernel_rfl) (fun _ _ _ h => h) (Or.inl ⟨by rfl, ?_⟩) (by assumption) ?_
              · intro w9 hSw
                exact exec_neq rfl rfl rfl (by simp)
              simp only [Act.put, List.setIfInBounds_toArray, List.set_cons_zero, List.set_cons_succ]
              refine wpAnyH_done (by kernel_rfl) ?_ _
              refine NoPanic.normal ?_
              clear hHeld hC7
              go_wp2
              go_roundw
              case rel => exact ⟨k + 1, m, m2, L.filter (fun i => !gone v all i), by omega, by go_num, hM7, hL4, by omega, hb7⟩
              case measure => simp [intOf]; omega
            · have h1' : (kd == 1) = false := by simpa using h1
              go_wp2
              clear c0 c1 c2 c3
              go_roundw
              case rel => exact ⟨k + 1, m, m2, L, by omega, by go_num, hM, hL0, by omega, hb⟩
              case measure => simp [intOf]; omega
      · have hlt' : ¬ (k : Int) < (len : Int) := by omega
        clear hO1
        go_wp2_with fail
        refine Calls.mono (items_any _ _ _ _ hT.a.bg (by omega)) ?_
        rintro e w10 ⟨vA, rfl, hA, hbA⟩
        have hT10 := hT.below hbA (Nat.le_refl _)
        have hb10 := hb2.trans (hbA.mono hb2.size)
        clear hT hb2
        go_wp2_with fail
        refine Calls.mono (S.items_any _ _ _ _ hT10.b.bg (by rw [List.length_map]; omega)) ?_
        rintro e w11 ⟨vB, rfl, hB, hbB⟩
        have hA11 := hA.below hbB (Nat.le_refl _)
        have hb11 := hb10.trans (hbB.mono hb10.size)
        clear hT10 hb10 hA hbA hbB
        obtain ⟨aA, cA, hvA, hcA, hmA⟩ := hA11.val
        obtain ⟨aB, cB, hvB, hcB, hmB⟩ := hB.val
        subst hvA
        subst hvB
        rw [List.length_map] at hB hcB ⊢
        have hfin := hbw1.trans (hb11.mono hbw1.size)
        obtain ⟨nn, hn⟩ : ∃ nn, L.length = nn := ⟨_, rfl⟩
        rw [hn] at hA11 hB hcA hcB hLk ⊢
        clear hb11 hbw1
        generalize w10.heap.size = s10 at *
        generalize wr.heap.size = s9 at *
        go_wp2_with fail
        go_loopw [89] (fun c wr => ∃ k : Nat, k ≤ nn ∧ c = .int .i64 (k : Int) ∧ wr.heap = w11.heap ∧ Below w.heap.size w wr) (fun c _ => nn - (intOf c).toNat)
        case atStart => exact ⟨0, Nat.zero_le _, rfl, rfl, hfin⟩
        case round =>
          clear hfin
          obtain ⟨k, hk, rfl, hh, hfin⟩ := hrel
          by_cases hkn : k < nn
          · have hkn' : (k : Int) < (nn : Int) := by omega
            obtain ⟨gA, _, i, e1, -, hi, -, hgA, c0, c1, c2, -⟩ := (hA11.keep (w' := wr) fun k _ => by rw [hh]).at3 (k := k) (by omega)
            simp only [Value.slice.injEq] at e1
            obtain ⟨rfl, -, rfl⟩ := e1
            obtain ⟨gB, _, i', e1, -, hi', -, hgB, d0, d1, d2, -⟩ := (hB.keep (w' := wr) fun k _ => by rw [hh]).at3 (k := k) (by rw [List.length_map]; omega)
            simp only [Value.slice.injEq] at e1
            obtain ⟨rfl, -, rfl⟩ := e1
            rw [List.getElem?_map, hi, Option.map_some] at hi'
            obtain rfl := Option.some.inj hi'
            simp only [tx] at d0 d1 d2
            have hi0 := hL0.out i (List.mem_of_getElem? hi)
            clear hA11 hB
            go_wp2_with fail
            refine wp_region_noPanic ?_
            refine wp_region_held_drew (S := fun W' : World => Below wr.heap.size wr W') (by kernel_rfl) (Below.refl _ wr).drew (fun hHeld => ?_)
            refine wpAnyH_take (i := 0) (oi := { dst := some 92, op := _, type := _, pos := _, after := _, guard := _ }) (v := .slice (some ⟨gA, 0, none⟩) nn cA) rfl (by kernel_rfl) (by kernel_rfl) (by kernel_rfl) (fun _ _ _ h => h) (Or.inl ⟨by rfl, ?_⟩) (by assumption) ?_
            · intro w9 hSw
              exact exec_move rfl rfl
            simp only [Act.put, List.setIfInBounds_toArray, List.set_cons_zero, List.set_cons_succ]
            refine wpAnyH_take (i := 1) (oi := { dst := some 93, op := _, type := _, pos := _, after := _, guard := _ }) (v := .int .i64 (k : Int)) rfl (by kernel_rfl) (by kernel_rfl) (by kernel_rfl) (fun _ _ _ h => h) (Or.inl ⟨by rfl, ?_⟩) (by assumption) ?_
            · intro w9 hSw
              exact exec_move rfl rfl
            simp only [Act.put, List.setIfInBounds_toArray, List.set_cons_zero, List.set_cons_succ]
            refine wpAnyH_take (i := 2) (oi := { dst := some 94, op := _, type := _, pos := _, after := _, guard := _ }) (v := .pointer (some ⟨gA, k * 3, none⟩)) rfl (by kernel_rfl) (by kernel_rfl) (by kernel_rfl) (fun _ _ _ h => h) (Or.inl ⟨by rfl, ?_⟩) (by assumption) ?_
            · intro w9 hSw
              exact exec_index rfl rfl rfl (index_t w9 hkn)
            simp only [Act.put, List.setIfInBounds_toArray, List.set_cons_zero, List.set_cons_succ]
            refine wpAnyH_take (i := 3) (oi := { dst := some 95, op := _, type := _, pos := _, after := _, guard := _ }) (v := .pointer (some ⟨gA, k * 3 + 0, none⟩)) rfl (by kernel_rfl) (by kernel_rfl) (by kernel_rfl) (fun _ _ _ h => h) (Or.inl ⟨by rfl, ?_⟩) (by assumption) ?_
            · intro w9 hSw
              exact exec_field rfl rfl (fun w => field_t0 w _ _)
            simp only [Act.put, List.setIfInBounds_toArray, List.set_cons_zero, List.set_cons_succ]
            refine wpAnyH_take (i := 4) (oi := { dst := some 96, op := _, type := _, pos := _, after := _, guard := _ }) (v := .agg #[.int .i64 i.r, .int .i64 i.n]) rfl (by kernel_rfl) (by kernel_rfl) (by kernel_rfl) (fun _ _ _ h => h) (Or.inl ⟨by rfl, ?_⟩) (by assumption) ?_
            · intro w9 hSw
              exact exec_load (ad := ⟨gA, k * 3 + 0, none⟩) rfl rfl (load_d ((hSw.cell hgA).trans c0) ((hSw.cell hgA).trans c1))
            simp only [Act.put, List.setIfInBounds_toArray, List.set_cons_zero, List.set_cons_succ]
            refine wpAnyH_take (i := 5) (oi := { dst := some 97, op := _, type := _, pos := _, after := _, guard := _ }) (v := .slice (some ⟨gB, 0, none⟩) nn cB) rfl (by kernel_rfl) (by kernel_rfl) (by kernel_rfl) (fun _ _ _ h => h) (Or.inl ⟨by rfl, ?_⟩) (by assumption) ?_
            · intro w9 hSw
              exact exec_move rfl rfl
            simp only [Act.put, List.setIfInBounds_toArray, List.set_cons_zero, List.set_cons_succ]
            refine wpAnyH_take (i := 6) (oi := { dst := some 98, op := _, type := _, pos := _, after := _, guard := _ }) (v := .int .i64 (k : Int)) rfl (by kernel_rfl) (by kernel_rfl) (by kernel_rfl) (fun _ _ _ h => h) (Or.inl ⟨by rfl, ?_⟩) (by assumption) ?_
            · intro w9 hSw
              exact exec_move rfl rfl
            simp only [Act.put, List.setIfInBounds_toArray, List.set_cons_zero, List.set_cons_succ]
            refine wpAnyH_take (i := 7) (oi := { dst := some 99, op := _, type := _, pos := _, after := _, guard := _ }) (v := .pointer (some ⟨gB, k * 3, none⟩)) rfl (by kernel_rfl) (by kernel_rfl) (by kernel_rfl) (fun _ _ _ h => h) (Or.inl ⟨by rfl, ?_⟩) (by assumption) ?_
            · intro w9 hSw
              exact exec_index rfl rfl rfl (index_t2 w9 hkn)
            simp only [Act.put, List.setIfInBounds_toArray, List.set_cons_zero, List.set_cons_succ]
            refine wpAnyH_take (i := 8) (oi := { dst := some 100, op := _, type := _, pos := _, after := _, guard := _ }) (v := .pointer (some ⟨gB, k * 3 + 0, none⟩)) rfl (by kernel_rfl) (by kernel_rfl) (by kernel_rfl) (fun _ _ _ h => h) (Or.inl ⟨by rfl, ?_⟩) (by assumption) ?_
            · intro w9 hSw
              exact exec_field rfl rfl (fun w => field_s0 w _ _)
            simp only [Act.put, List.setIfInBounds_toArray, List.set_cons_zero, List.set_cons_succ]
            refine wpAnyH_take (i := 9) (oi := { dst := some 101, op := _, type := _, pos := _, after := _, guard := _ }) (v := .agg #[.int .i64 i.r, .int .i64 i.n]) rfl (by kernel_rfl) (by kernel_rfl) (by kernel_rfl) (fun _ _ _ h => h) (Or.inl ⟨by rfl, ?_⟩) (by assumption) ?_
            · intro w9 hSw
              exact exec_load (ad := ⟨gB, k * 3 + 0, none⟩) rfl rfl (load_d ((hSw.cell hgB).trans d0) ((hSw.cell hgB).trans d1))
            simp only [Act.put, List.setIfInBounds_toArray, List.set_cons_zero, List.set_cons_succ]
            refine wpAnyH_take (i := 10) (oi := { dst := some 102, op := _, type := _, pos := _, after := _, guard := _ }) (v := .bool false) rfl (by kernel_rfl) (by kernel_rfl) (by kernel_rfl) (fun _ _ _ h => h) (Or.inl ⟨by rfl, ?_⟩) (by assumption) ?_
            · intro w9 hSw
              exact exec_bin rfl rfl rfl (run_eqGuard_agg w9 _ _ _ _ _ _ plain_dot) (run_neq_dot w9 i.r i.n)
            simp only [Act.put, List.setIfInBounds_toArray, List.set_cons_zero, List.set_cons_succ]
            refine wpAnyH_take (i := 11) (oi := { dst := some 103, op := _, type := _, pos := _, after := _, guard := _ }) (v := .bool false) rfl (by kernel_rfl) (by kernel_rfl) (by kernel_rfl) (fun _ _ _ h => h) (Or.inl ⟨by rfl, ?_⟩) (by assumption) ?_
            · intro w9 hSw
              exact exec_move rfl rfl
            simp only [Act.put, List.setIfInBounds_toArray, List.set_cons_zero, List.set_cons_succ]
            refine wpAnyH_take (i := 12) (oi := { dst := some 104, op := _, type := _, pos := _, after := _, guard := _ }) (v := .slice (some ⟨gA, 0, none⟩) nn cA) rfl (by kernel_rfl) (by kernel_rfl) (by kernel_rfl) (fun _ _ _ h => h) (Or.inl ⟨by rfl, ?_⟩) (by assumption) ?_
            · intro w9 hSw
              exact exec_move rfl rfl
            simp only [Act.put, List.setIfInBounds_toArray, List.set_cons_zero, List.set_cons_succ]
            refine wpAnyH_take (i := 13) (oi := { dst := some 105, op := _, type := _, pos := _, after := _, guard := _ }) (v := .int .i64 (k : Int)) rfl (by kernel_rfl) (by kernel_rfl) (by kernel_rfl) (fun _ _ _ h => h) (Or.inl ⟨by rfl, ?_⟩) (by assumption) ?_
            · intro w9 hSw
              exact exec_move rfl rfl
            simp only [Act.put, List.setIfInBounds_toArray, List.set_cons_zero, List.set_cons_succ]
            refine wpAnyH_take (i := 14) (oi := { dst := some 106, op := _, type := _, pos := _, after := _, guard := _ }) (v := .pointer (some ⟨gA, k * 3, none⟩)) rfl (by kernel_rfl) (by kernel_rfl) (by kernel_rfl) (fun _ _ _ h => h) (Or.inl ⟨by rfl, ?_⟩) (by assumption) ?_
            · intro w9 hSw
              exact exec_index rfl rfl rfl (index_t w9 hkn)
            simp only [Act.put, List.setIfInBounds_toArray, List.set_cons_zero, List.set_cons_succ]
            refine wpAnyH_take (i := 15) (oi := { dst := some 107, op := _, type := _, pos := _, after := _, guard := _ }) (v := .pointer (some ⟨gA, k * 3 + 2, none⟩)) rfl (by kernel_rfl) (by kernel_rfl) (by kernel_rfl) (fun _ _ _ h => h) (Or.inl ⟨by rfl, ?_⟩) (by assumption) ?_
            · intro w9 hSw
              exact exec_field rfl rfl (fun w => field_t1 w _ _)
            simp only [Act.put, List.setIfInBounds_toArray, List.set_cons_zero, List.set_cons_succ]
            refine wpAnyH_take (i := 16) (oi := { dst := some 108, op := _, type := _, pos := _, after := _, guard := _ }) (v := .int .i64 i.x) rfl (by kernel_rfl) (by kernel_rfl) (by kernel_rfl) (fun _ _ _ h => h) (Or.inl ⟨by rfl, ?_⟩) (by assumption) ?_
            · intro w9 hSw
              exact exec_load (ad := ⟨gA, k * 3 + 2, none⟩) rfl rfl (load_i ((hSw.cell hgA).trans c2))
            simp only [Act.put, List.setIfInBounds_toArray, List.set_cons_zero, List.set_cons_succ]
            refine wpAnyH_take (i := 17) (oi := { dst := some 109, op := _, type := _, pos := _, after := _, guard := _ }) (v := .slice (some ⟨gB, 0, none⟩) nn cB) rfl (by kernel_rfl) (by kernel_rfl) (by kernel_rfl) (fun _ _ _ h => h) (Or.inl ⟨by rfl, ?_⟩) (by assumption) ?_
            · intro w9 hSw
              exact exec_move rfl rfl
            simp only [Act.put, List.setIfInBounds_toArray, List.set_cons_zero, List.set_cons_succ]
            refine wpAnyH_take (i := 18) (oi := { dst := some 110, op := _, type := _, pos := _, after := _, guard := _ }) (v := .int .i64 (k : Int)) rfl (by kernel_rfl) (by kernel_rfl) (by kernel_rfl) (fun _ _ _ h => h) (Or.inl ⟨by rfl, ?_⟩) (by assumption) ?_
            · intro w9 hSw
              exact exec_move rfl rfl
            simp only [Act.put, List.setIfInBounds_toArray, List.set_cons_zero, List.set_cons_succ]
            refine wpAnyH_take (i := 19) (oi := { dst := some 111, op := _, type := _, pos := _, after := _, guard := _ }) (v := .pointer (some ⟨gB, k * 3, none⟩)) rfl (by kernel_rfl) (by kernel_rfl) (by kernel_rfl) (fun _ _ _ h => h) (Or.inl ⟨by rfl, ?_⟩) (by assumption) ?_
            · intro w9 hSw
              exact exec_index rfl rfl rfl (index_t2 w9 hkn)
            simp only [Act.put, List.setIfInBounds_toArray, List.set_cons_zero, List.set_cons_succ]
            refine wpAnyH_take (i := 20) (oi := { dst := some 112, op := _, type := _, pos := _, after := _, guard := _ }) (v := .pointer (some ⟨gB, k * 3 + 2, none⟩)) rfl (by kernel_rfl) (by kernel_rfl) (by kernel_rfl) (fun _ _ _ h => h) (Or.inl ⟨by rfl, ?_⟩) (by assumption) ?_
            · intro w9 hSw
              exact exec_field rfl rfl (fun w => field_s1 w _ _)
            simp only [Act.put, List.setIfInBounds_toArray, List.set_cons_zero, List.set_cons_succ]
            refine wpAnyH_take (i := 21) (oi := { dst := some 113, op := _, type := _, pos := _, after := _, guard := _ }) (v := .string (txt i.x)) rfl (by kernel_rfl) (by kernel_rfl) (by kernel_rfl) (fun _ _ _ h => h) (Or.inl ⟨by rfl, ?_⟩) (by assumption) ?_
            · intro w9 hSw
              exact exec_load (ad := ⟨gB, k * 3 + 2, none⟩) rfl rfl (load_s ((hSw.cell hgB).trans d2))
            simp only [Act.put, List.setIfInBounds_toArray, List.set_cons_zero, List.set_cons_succ]
            refine wpAnyH_take (i := 22) (oi := { dst := some 114, op := _, type := _, pos := _, after := _, guard := _ }) (v := .int .i64 i.x) rfl (by kernel_rfl) (by kernel_rfl) (by kernel_rfl) (fun _ _ _ h => h) (Or.inl ⟨by rfl, ?_⟩) (by assumption) ?_
            · intro w9 hSw
              exact exec_lens rfl rfl (by rw [txt_size]; omega)
            simp only [Act.put, List.setIfInBounds_toArray, List.set_cons_zero, List.set_cons_succ]
            refine wpAnyH_take (i := 23) (oi := { dst := some 115, op := _, type := _, pos := _, after := _, guard := _ }) (v := .bool false) rfl (by kernel_rfl) (by kernel_rfl) (by kernel_rfl) (fun _ _ _ h => h) (Or.inl ⟨by rfl, ?_⟩) (by assumption) ?_
            · intro w9 hSw
              exact exec_neq rfl rfl rfl (by simp)
            simp only [Act.put, List.setIfInBounds_toArray, List.set_cons_zero, List.set_cons_succ]
            refine wpAnyH_take (i := 24) (oi := { dst := some 116, op := _, type := _, pos := _, after := _, guard := _ }) (v := .bool false) rfl (by kernel_rfl) (by kernel_rfl) (by kernel_rfl) (fun _ _ _ h => h) (Or.inl ⟨by rfl, ?_⟩) (by assumption) ?_
            · intro w9 hSw
              exact exec_pick (b := false) rfl rfl rfl rfl
            simp only [Act.put, List.setIfInBounds_toArray, List.set_cons_zero, List.set_cons_succ]
            refine wpAnyH_done (by kernel_rfl) ?_ _
            refine NoPanic.normal ?_
            have hfin' := hfin.drew
            have hh' : wr.drew.heap = w11.heap := hh
            clear hfin hh c0 c1 c2 d0 d1 d2 hHeld hgA hgB
            generalize wr.drew = W at *
            go_wp2
            go_roundw
            case rel => exact ⟨k + 1, by omega, by go_num, hh', hfin'⟩
            case measure => simp [intOf]; omega
          · have hkn' : ¬ (k : Int) < (nn : Int) := by omega
            go_wp2
            go_ret
            exact ⟨rfl, hfin⟩
end Go.Proofs.Yteihijejohgfpaa
