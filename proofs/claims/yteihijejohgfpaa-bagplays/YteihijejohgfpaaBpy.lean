/-
  What BagPlays comes to.
-/
import Derived.Test.YteihijejohgfpaaBrd
namespace Go.Proofs.Yteihijejohgfpaa
open Go.RowKit

theorem field_o2 (w : World) (b i : Nat) : (Instr.fieldAt 38 (.pointer (some ⟨b, i, none⟩)) 2).run Try.prog w = .ok (.pointer (some ⟨b, i + 3, none⟩)) w := by go_simp
theorem load_op {w : World} {g : Nat} {o : Cl} (h : LiesC w g o) (hv : o.v.length = 16) : (loadVar 38 ⟨g, 0, none⟩).run Try.prog w = .ok (.agg (clc o)) w := run_loadVar_mid (P := Try.prog) w g 0 38 _ _ h.range under_cl rfl (info_cl hv)
theorem exec_lensl {o : Oper} {a : Act} {w : World} {x : Operand} {b : Option Addr} {n c : Nat} (ho : o.op = .call { callee := .builtin .len, args := #[x], argTypes := #[27] }) (hx : a.eval x = .slice b n c) : (execOp a.eval o).run Try.prog w = .ok (.value (.int .i64 (n : Int))) w := by
  have h3 : Try.prog.underlying 27 = some (.slice (Try.prog.elem 27)) := by kernel_rfl
  unfold execOp
  simp only [ho, resolve, invoke, builtin, Sem.run_bind, Sem.run_pure, Result.andThen_ok, List.map_toArray, List.map_cons, List.map_nil, hx]
  rw [run_len_slice w 27 o.type b n c h3]
  rfl
theorem enters_rremove (xs : Array Value) (w : World) : (callFunc 16 xs).run Try.prog w = .ok (.enter 16 xs) w := enters Try.func16 (by kernel_rfl) (by kernel_rfl) xs w
theorem enters_drops (xs : Array Value) (w : World) : (callFunc 17 xs).run Try.prog w = .ok (.enter 17 xs) w := enters Try.func17 (by kernel_rfl) (by kernel_rfl) xs w
theorem enters_odd (xs : Array Value) (w : World) : (callFunc 19 xs).run Try.prog w = .ok (.enter 19 xs) w := enters Try.func19 (by kernel_rfl) (by kernel_rfl) xs w
theorem enters_rdrop (xs : Array Value) (w : World) : (callFunc 18 xs).run Try.prog w = .ok (.enter 18 xs) w := enters Try.func18 (by kernel_rfl) (by kernel_rfl) xs w
theorem enters_len (xs : Array Value) (w : World) : (callFunc 20 xs).run Try.prog w = .ok (.enter 20 xs) w := enters Try.func20 (by kernel_rfl) (by kernel_rfl) xs w

set_option maxHeartbeats 8000000 in
set_option maxRecDepth 100000 in
theorem bplays_walk (a : Option Addr) (len cap : Nat) (O : List Cl) (zero : Bool) (w : World) (hO : Lst cll 20 w a len cap O) (hO1 : ∀ o ∈ O, IsCl o) :
    Calls Try.prog 3 #[.slice a len cap, .bool zero] w fun e w' => e = .returned (.bool true) ∧ Below w.heap.size w w' := by
  have hlen := hO.1
  have hmx := hO.maxLen
  by_cases hl : 300 < len
  · have hl' : (300 : Int) < (len : Int) := by omega
    clear hO hO1
    go_enter Try.func3, Try.ntmps3
    go_wp2_with fail
    refine (awake_any w).mono ?_
    rintro e w1 ⟨rfl, hb1⟩
    go_wp2_with fail
    refine (awake_any w1).mono ?_
    rintro e w2 ⟨rfl, hb2⟩
    have hb := hb1.trans (hb2.mono hb1.size)
    go_wp2
    go_ret
    exact ⟨rfl, hb⟩
  · have hl' : ¬ (300 : Int) < (len : Int) := by omega
    have HO1 : Hid (∀ o ∈ O, IsCl o) := hO1
    clear hO1
    go_enter Try.func3, Try.ntmps3
    go_wp2_with fail
    refine (awake_any w).mono ?_
    rintro e w1 ⟨rfl, hbw1⟩
    have hO1 := hO.below hbw1 (Nat.le_refl _)
    clear hO
    go_wp2_with fail
    refine (new_any w1).mono ?_
    rintro e w2 ⟨rfl, hw2⟩
    have HS2 : Hid (w2.heap.size = w1.heap.size + 1) := by show _ = _; rw [hw2]; simp
    have HT0 : Hid (Br w1.heap.size (w2.alloc (.cells #[.slice none 0 0] 29)) w1.heap.size none [] (w1.heap.size + 1) (.slice none 0 0) []) := by rw [hw2]; exact br_new w1
    have HB0 : Hid (Below w1.heap.size w1 (w2.alloc (.cells #[.slice none 0 0] 29))) := by rw [hw2]; exact ((Below.refl _ w1).alloc (Nat.le_refl _) _).alloc (by simp) _
    have HT1 : Hid (Br w1.heap.size ((w2.alloc (.cells #[.slice none 0 0] 29)).alloc (.cells #[.map none] 32)) (w2.heap.size + 1) none [] (w1.heap.size + 1) (.slice none 0 0) []) := by
      have h1 := obg_new (w2.alloc (.cells #[.slice none 0 0] 29)) w1.heap.size HB0.out.size
      rw [World.size_alloc] at h1
      exact ⟨h1, HT0.out.b.below ((Below.refl _ _).alloc (Nat.le_refl _) _) (Nat.le_refl _), by omega⟩
    have HB1 : Hid (Below w1.heap.size w1 ((w2.alloc (.cells #[.slice none 0 0] 29)).alloc (.cells #[.map none] 32))) := HB0.out.alloc HB0.out.size _
    clear hw2
    cases zero
    · go_wp2_with fail
      have hT := HT0.out
      have hb3 := HB0.out
      clear HT0 HB0 HT1 HB1
      rw [HS2.out]
      clear HS2
      generalize w2.alloc (.cells #[.slice none 0 0] 29) = w3 at *
      obtain ⟨G, hG⟩ : ∃ G, Hid (w1.heap.size + 1 = G) := ⟨_, rfl⟩
      rw [hG.out] at hT ⊢
      obtain ⟨g, hg⟩ : ∃ g, Hid (w1.heap.size = g) := ⟨_, rfl⟩
      have hT' : Br w1.heap.size w3 g none [] G (.slice none 0 0) [] := by
        have h9 := hT
        have e9 := hg.out
        exact e9 ▸ h9
      rw [hg.out]
      clear hT hG
      clear hl'
      go_loopw [31] (fun c wr => ∃ (k : Nat) (m : Option Nat) (vR : Value) (L : List (It Int)), k ≤ len ∧ c = .int .i64 (k : Int) ∧ Br w1.heap.size wr g m L G vR L ∧ L.length ≤ k ∧ Below w1.heap.size w1 wr) (fun c _ => len - (intOf c).toNat)
      case atStart => exact ⟨0, none, .slice none 0 0, [], Nat.zero_le _, rfl, hT', Nat.zero_le _, hb3⟩
      case round =>
        clear hT' hb3
        obtain ⟨k, m, vR, L, hk, rfl, hT, hLk, hb2⟩ := hrel
        by_cases hlt : k < len
        · have hlt' : (k : Int) < (len : Int) := by omega
          obtain ⟨b, off, o, ha, ho, hblt, hR⟩ := (hO1.below hb2 (Nat.le_refl _)).atC hlt
          subst ha
          have hv16 := (HO1.out o (List.mem_of_getElem? ho)).v
          obtain ⟨kd, r, n, x, v⟩ := o
          simp only at hv16
          have hSr := hT.a.bg.srt
          have hD1 : g ≠ wr.heap.size := by have := hT.a.bg.lt; omega
          have hD2 : G ≠ wr.heap.size := by have := hT.b.lt; omega
          have hmD1 : ∀ q, m = some q → q ≠ wr.heap.size := fun q hq => by have := (hT.a.bg.own q hq).1; omega
          have HT : Hid (Br w1.heap.size wr g m L G vR L) := hT
          clear hT
          go_upto_region 12 with (first | refine load_cl rfl rfl rfl hR hv16 ?_ | refine store_cl rfl rfl rfl rfl (heap_alloc_new wr _) rfl hv16 ?_)
          have hC := liesC_past wr #[.int .i64 0, .int .i64 0, .int .i64 0, .int .i64 0, .int .i64 0, .int .i64 0, .int .i64 0, .int .i64 0, .int .i64 0, .int .i64 0, .int .i64 0, .int .i64 0, .int .i64 0, .int .i64 0, .int .i64 0, .int .i64 0, .int .i64 0, .int .i64 0, .int .i64 0, .int .i64 0] ⟨kd, r, n, x, v⟩
          have hb9 := below_past wr #[.int .i64 0, .int .i64 0, .int .i64 0, .int .i64 0, .int .i64 0, .int .i64 0, .int .i64 0, .int .i64 0, .int .i64 0, .int .i64 0, .int .i64 0, .int .i64 0, .int .i64 0, .int .i64 0, .int .i64 0, .int .i64 0, .int .i64 0, .int .i64 0, .int .i64 0, .int .i64 0] ⟨kd, r, n, x, v⟩
          have hM := HT.out.below hb9 (Nat.le_refl _)
          have hb := hb2.trans (hb9.mono hb2.size)
          clear hR hblt HT hb9 hb2
          generalize (wr.alloc (.cells #[.int .i64 0, .int .i64 0, .int .i64 0, .int .i64 0, .int .i64 0, .int .i64 0, .int .i64 0, .int .i64 0, .int .i64 0, .int .i64 0, .int .i64 0, .int .i64 0, .int .i64 0, .int .i64 0, .int .i64 0, .int .i64 0, .int .i64 0, .int .i64 0, .int .i64 0, .int .i64 0] 38)).setRow wr.heap.size (clc ⟨kd, r, n, x, v⟩) = W at *
          generalize wr.heap.size = D at *
          have c0 := hC.c0
          have c1 := hC.c1
          have c2 := hC.c2
          have c3 := hC.c3
          simp only at c0 c1 c2 c3
          by_cases h1 : kd = 1
          · subst h1
            go_wp2_with fail
            refine (put_any _ _ _ ⟨r, n, x⟩ W hM.a.bg).mono ?_
            rintro e w4 ⟨rfl, m4, hB4, ht4⟩
            have hC4 := hC.turn ht4 hD1 hmD1
            obtain ⟨hM4, hb4'⟩ := hM.left hb.size hB4 ht4
            have hb4 := hb.trans hb4'
            have hl4 := put_length_le L ⟨r, n, x⟩
            clear c0 c1 c2 c3 hC hM hb hB4 ht4 hb4'
            have c1 := hC4.c1
            have c2 := hC4.c2
            have c3 := hC4.c3
            simp only at c1 c2 c3
            go_wp2_with fail
            refine (rput_any _ _ _ _ hSr ⟨r, n, x⟩ w4 hM4.b (by omega)).mono ?_
            rintro e w7 ⟨rfl, v7, hB7, ht7⟩
            obtain ⟨hM7, hb7'⟩ := hM4.right hb4.size hB7 ht7
            have hb7 := hb4.trans hb7'
            clear c1 c2 c3 hC4 hM4 hb4 hB7 ht7 hb7'
            go_wp2_with fail
            obtain ⟨aR, cR, hvR, -, -⟩ := hM7.b.row.val
            subst hvR
            have hc27 := hM7.drew.b.c0
            refine wp_region_noPanic ?_
            refine wp_region_held_drew (S := fun W' : World => W'.cell? ⟨G, 0, none⟩ = some (.slice aR (put L ⟨r, n, x⟩).length cR)) (by kernel_rfl) hc27 (fun hHeld => ?_)
            refine wpAnyH_take (i := 0) (oi := { dst := some 102, op := _, type := _, pos := _, after := _, guard := _ }) (v := .pointer (some ⟨g, 0, none⟩)) rfl (by kernel_rfl) (by kernel_rfl) (by kernel_rfl) (fun _ _ _ h => h) (Or.inl ⟨by rfl, ?_⟩) (by assumption) ?_
            · intro w9 hSw
              exact exec_move rfl rfl
            simp only [Act.put, List.setIfInBounds_toArray, List.set_cons_zero, List.set_cons_succ]
            refine wpAnyH_take (i := 2) (oi := { dst := some 104, op := _, type := _, pos := _, after := _, guard := _ }) (v := .pointer (some ⟨G, 0, none⟩)) rfl (by kernel_rfl) (by kernel_rfl) (by kernel_rfl) (fun _ _ _ h => h) (Or.inl ⟨by rfl, ?_⟩) (by assumption) ?_
            · intro w9 hSw
              exact exec_move rfl rfl
            simp only [Act.put, List.setIfInBounds_toArray, List.set_cons_zero, List.set_cons_succ]
            refine wpAnyH_take (i := 3) (oi := { dst := some 105, op := _, type := _, pos := _, after := _, guard := _ }) (v := .pointer (some ⟨G, 0, none⟩)) rfl (by kernel_rfl) (by kernel_rfl) (by kernel_rfl) (fun _ _ _ h => h) (Or.inl ⟨by rfl, ?_⟩) (by assumption) ?_
            · intro w9 hSw
              exact exec_nil rfl rfl
            simp only [Act.put, List.setIfInBounds_toArray, List.set_cons_zero, List.set_cons_succ]
            refine wpAnyH_take (i := 4) (oi := { dst := some 106, op := _, type := _, pos := _, after := _, guard := _ }) (v := .pointer (some ⟨G, 0, none⟩)) rfl (by kernel_rfl) (by kernel_rfl) (by kernel_rfl) (fun _ _ _ h => h) (Or.inl ⟨by rfl, ?_⟩) (by assumption) ?_
            · intro w9 hSw
              exact exec_fieldR rfl rfl
            simp only [Act.put, List.setIfInBounds_toArray, List.set_cons_zero, List.set_cons_succ]
            refine wpAnyH_take (i := 5) (oi := { dst := some 107, op := _, type := _, pos := _, after := _, guard := _ }) (v := .slice aR (put L ⟨r, n, x⟩).length cR) rfl (by kernel_rfl) (by kernel_rfl) (by kernel_rfl) (fun _ _ _ h => h) (Or.inl ⟨by rfl, ?_⟩) (by assumption) ?_
            · intro w9 hSw
              exact exec_load (ad := ⟨G, 0, none⟩) rfl rfl (load_rl hSw)
            simp only [Act.put, List.setIfInBounds_toArray, List.set_cons_zero, List.set_cons_succ]
            refine wpAnyH_take (i := 6) (oi := { dst := some 108, op := _, type := _, pos := _, after := _, guard := _ }) (v := .int .i64 ((put L ⟨r, n, x⟩).length : Int)) rfl (by kernel_rfl) (by kernel_rfl) (by kernel_rfl) (fun _ _ _ h => h) (Or.inl ⟨by rfl, ?_⟩) (by assumption) ?_
            · intro w9 hSw
              exact exec_lensl rfl rfl
            simp only [Act.put, List.setIfInBounds_toArray, List.set_cons_zero, List.set_cons_succ]
            clear hHeld
            refine wpAnyH_ready (rs := [1]) (by kernel_rfl) (by simp) ?_
            refine AllReadyH.cons (o := { dst := some 103, op := _, type := _, pos := _, after := _, guard := _ }) rfl (fun K hK => ?_) AllReadyH.nil
            rw [if_pos (by rfl)]
            refine wp_callL (xs := [.tmp 102]) (vs := [.pointer (some ⟨g, 0, none⟩)]) rfl rfl (enters_len _ _) (len_any _ _ _ w7.drew hM7.drew.a.bg) ?_
            rintro e wx ⟨rfl, hwx⟩
            obtain rfl := hwx.symm
            clear hwx
            refine ⟨_, rfl, ?_⟩
            refine hK.out _ _ hc27 (fun hHeld => ?_)
            clear hK K
            simp only [Act.put, List.setIfInBounds_toArray, List.set_cons_zero, List.set_cons_succ]
            refine wpAnyH_take (i := 7) (oi := { dst := some 109, op := _, type := _, pos := _, after := _, guard := _ }) (v := .bool false) rfl (by kernel_rfl) (by kernel_rfl) (by kernel_rfl) (fun _ _ _ h => h) (Or.inl ⟨by rfl, ?_⟩) (by assumption) ?_
            · intro w9 hSw
              exact exec_neq rfl rfl rfl (bne_self_eq_false _)
            simp only [Act.put, List.setIfInBounds_toArray, List.set_cons_zero, List.set_cons_succ]
            refine wpAnyH_done (by kernel_rfl) ?_ _
            refine NoPanic.normal ?_
            clear hHeld
            have hM8 := hM7.drew
            have hb8 := hb7.drew
            clear hM7 hb7 hc27
            generalize w7.drew = w8 at *
            go_wp2
            go_roundw
            case rel => exact ⟨k + 1, m4, _, (put L ⟨r, n, x⟩), by omega, by go_num, hM8, by omega, hb8⟩
            case measure => simp [intOf]; omega
          · by_cases h2 : kd = 2
            · subst h2
              go_wp2_with fail
              refine (get_any _ _ _ r n W hM.a.bg).mono ?_
              rintro e w4 ⟨rfl, hb4'⟩
              have hC4 := hC.below hb4' hC.lt
              have hM4 := hM.below hb4' (Nat.le_refl _)
              have hb4 := hb.trans (hb4'.mono hb.size)
              clear c0 c1 c2 c3 hC hM hb hb4'
              have c1 := hC4.c1
              have c2 := hC4.c2
              simp only at c1 c2
              go_wp2_with fail
              refine (rget_any _ _ _ _ r n w4 hM4.b).mono ?_
              rintro e w7 ⟨rfl, hb7'⟩
              have hM7 := hM4.below hb7' (Nat.le_refl _)
              have hb7 := hb4.trans (hb7'.mono hb4.size)
              clear c1 c2 hC4 hM4 hb4 hb7'
              generalize (gets L r n).x = X at *
              generalize hasD L r n = Y at *
              go_wp2_with fail
              obtain ⟨aR, cR, hvR, -, -⟩ := hM7.b.row.val
              subst hvR
              have hc27 := hM7.drew.b.c0
              refine wp_region_noPanic ?_
              refine wp_region_held_drew (S := fun W' : World => W'.cell? ⟨G, 0, none⟩ = some (.slice aR (L).length cR)) (by kernel_rfl) hc27 (fun hHeld => ?_)
              refine wpAnyH_take (i := 0) (oi := { dst := some 102, op := _, type := _, pos := _, after := _, guard := _ }) (v := .pointer (some ⟨g, 0, none⟩)) rfl (by kernel_rfl) (by kernel_rfl) (by kernel_rfl) (fun _ _ _ h => h) (Or.inl ⟨by rfl, ?_⟩) (by assumption) ?_
              · intro w9 hSw
                exact exec_move rfl rfl
              simp only [Act.put, List.setIfInBounds_toArray, List.set_cons_zero, List.set_cons_succ]
              refine wpAnyH_take (i := 2) (oi := { dst := some 104, op := _, type := _, pos := _, after := _, guard := _ }) (v := .pointer (some ⟨G, 0, none⟩)) rfl (by kernel_rfl) (by kernel_rfl) (by kernel_rfl) (fun _ _ _ h => h) (Or.inl ⟨by rfl, ?_⟩) (by assumption) ?_
              · intro w9 hSw
                exact exec_move rfl rfl
              simp only [Act.put, List.setIfInBounds_toArray, List.set_cons_zero, List.set_cons_succ]
              refine wpAnyH_take (i := 3) (oi := { dst := some 105, op := _, type := _, pos := _, after := _, guard := _ }) (v := .pointer (some ⟨G, 0, none⟩)) rfl (by kernel_rfl) (by kernel_rfl) (by kernel_rfl) (fun _ _ _ h => h) (Or.inl ⟨by rfl, ?_⟩) (by assumption) ?_
              · intro w9 hSw
                exact exec_nil rfl rfl
              simp only [Act.put, List.setIfInBounds_toArray, List.set_cons_zero, List.set_cons_succ]
              refine wpAnyH_take (i := 4) (oi := { dst := some 106, op := _, type := _, pos := _, after := _, guard := _ }) (v := .pointer (some ⟨G, 0, none⟩)) rfl (by kernel_rfl) (by kernel_rfl) (by kernel_rfl) (fun _ _ _ h => h) (Or.inl ⟨by rfl, ?_⟩) (by assumption) ?_
              · intro w9 hSw
                exact exec_fieldR rfl rfl
              simp only [Act.put, List.setIfInBounds_toArray, List.set_cons_zero, List.set_cons_succ]
              refine wpAnyH_take (i := 5) (oi := { dst := some 107, op := _, type := _, pos := _, after := _, guard := _ }) (v := .slice aR (L).length cR) rfl (by kernel_rfl) (by kernel_rfl) (by kernel_rfl) (fun _ _ _ h => h) (Or.inl ⟨by rfl, ?_⟩) (by assumption) ?_
              · intro w9 hSw
                exact exec_load (ad := ⟨G, 0, none⟩) rfl rfl (load_rl hSw)
              simp only [Act.put, List.setIfInBounds_toArray, List.set_cons_zero, List.set_cons_succ]
              refine wpAnyH_take (i := 6) (oi := { dst := some 108, op := _, type := _, pos := _, after := _, guard := _ }) (v := .int .i64 ((L).length : Int)) rfl (by kernel_rfl) (by kernel_rfl) (by kernel_rfl) (fun _ _ _ h => h) (Or.inl ⟨by rfl, ?_⟩) (by assumption) ?_
              · intro w9 hSw
                exact exec_lensl rfl rfl
              simp only [Act.put, List.setIfInBounds_toArray, List.set_cons_zero, List.set_cons_succ]
              clear hHeld
              refine wpAnyH_ready (rs := [1]) (by kernel_rfl) (by simp) ?_
              refine AllReadyH.cons (o := { dst := some 103, op := _, type := _, pos := _, after := _, guard := _ }) rfl (fun K hK => ?_) AllReadyH.nil
              rw [if_pos (by rfl)]
              refine wp_callL (xs := [.tmp 102]) (vs := [.pointer (some ⟨g, 0, none⟩)]) rfl rfl (enters_len _ _) (len_any _ _ _ w7.drew hM7.drew.a.bg) ?_
              rintro e wx ⟨rfl, hwx⟩
              obtain rfl := hwx.symm
              clear hwx
              refine ⟨_, rfl, ?_⟩
              refine hK.out _ _ hc27 (fun hHeld => ?_)
              clear hK K
              simp only [Act.put, List.setIfInBounds_toArray, List.set_cons_zero, List.set_cons_succ]
              refine wpAnyH_take (i := 7) (oi := { dst := some 109, op := _, type := _, pos := _, after := _, guard := _ }) (v := .bool false) rfl (by kernel_rfl) (by kernel_rfl) (by kernel_rfl) (fun _ _ _ h => h) (Or.inl ⟨by rfl, ?_⟩) (by assumption) ?_
              · intro w9 hSw
                exact exec_neq rfl rfl rfl (bne_self_eq_false _)
              simp only [Act.put, List.setIfInBounds_toArray, List.set_cons_zero, List.set_cons_succ]
              refine wpAnyH_done (by kernel_rfl) ?_ _
              refine NoPanic.normal ?_
              clear hHeld
              have hM8 := hM7.drew
              have hb8 := hb7.drew
              clear hM7 hb7 hc27
              generalize w7.drew = w8 at *
              go_wp2
              go_roundw
              case rel => exact ⟨k + 1, m, _, (L), by omega, by go_num, hM8, by omega, hb8⟩
              case measure => simp [intOf]; omega
            · by_cases h3 : kd = 3
              · subst h3
                have hl4 : (del L r n).length ≤ L.length := List.length_filter_le _ _
                go_wp2_with fail
                clear c0 c1 c2 c3
                refine wp_region_noPanic ?_
                refine wp_region_held_drew (S := fun W' : World => LiesC W' D ⟨3, r, n, x, v⟩) (by kernel_rfl) hC.drew (fun hHeld => ?_)
                refine wpAnyH_take (i := 0) (oi := { dst := some 80, op := _, type := _, pos := _, after := _, guard := _ }) (v := .pointer (some ⟨g, 0, none⟩)) rfl (by kernel_rfl) (by kernel_rfl) (by kernel_rfl) (fun _ _ _ h => h) (Or.inl ⟨by rfl, ?_⟩) (by assumption) ?_
                · intro w9 hSw
                  exact exec_move rfl rfl
                simp only [Act.put, List.setIfInBounds_toArray, List.set_cons_zero, List.set_cons_succ]
                refine wpAnyH_take (i := 1) (oi := { dst := some 81, op := _, type := _, pos := _, after := _, guard := _ }) (v := .pointer (some ⟨D, 0 + 1, none⟩)) rfl (by kernel_rfl) (by kernel_rfl) (by kernel_rfl) (fun _ _ _ h => h) (Or.inl ⟨by rfl, ?_⟩) (by assumption) ?_
                · intro w9 hSw
                  exact exec_field rfl rfl (fun w => field_o1 w _ _)
                simp only [Act.put, List.setIfInBounds_toArray, List.set_cons_zero, List.set_cons_succ]
                refine wpAnyH_take (i := 2) (oi := { dst := some 82, op := _, type := _, pos := _, after := _, guard := _ }) (v := .agg #[.int .i64 r, .int .i64 n]) rfl (by kernel_rfl) (by kernel_rfl) (by kernel_rfl) (fun _ _ _ h => h) (Or.inl ⟨by rfl, ?_⟩) (by assumption) ?_
                · intro w9 hSw
                  exact exec_load (ad := ⟨D, 0 + 1, none⟩) rfl rfl (load_d (i := 0 + 1) hSw.c1 hSw.c2)
                simp only [Act.put, List.setIfInBounds_toArray, List.set_cons_zero, List.set_cons_succ]
                refine wpAnyH_take (i := 4) (oi := { dst := some 84, op := _, type := _, pos := _, after := _, guard := _ }) (v := .pointer (some ⟨G, 0, none⟩)) rfl (by kernel_rfl) (by kernel_rfl) (by kernel_rfl) (fun _ _ _ h => h) (Or.inl ⟨by rfl, ?_⟩) (by assumption) ?_
                · intro w9 hSw
                  exact exec_move rfl rfl
                simp only [Act.put, List.setIfInBounds_toArray, List.set_cons_zero, List.set_cons_succ]
                refine wpAnyH_take (i := 5) (oi := { dst := some 85, op := _, type := _, pos := _, after := _, guard := _ }) (v := .pointer (some ⟨D, 0 + 1, none⟩)) rfl (by kernel_rfl) (by kernel_rfl) (by kernel_rfl) (fun _ _ _ h => h) (Or.inl ⟨by rfl, ?_⟩) (by assumption) ?_
                · intro w9 hSw
                  exact exec_field rfl rfl (fun w => field_o1 w _ _)
                simp only [Act.put, List.setIfInBounds_toArray, List.set_cons_zero, List.set_cons_succ]
                refine wpAnyH_take (i := 6) (oi := { dst := some 86, op := _, type := _, pos := _, after := _, guard := _ }) (v := .agg #[.int .i64 r, .int .i64 n]) rfl (by kernel_rfl) (by kernel_rfl) (by kernel_rfl) (fun _ _ _ h => h) (Or.inl ⟨by rfl, ?_⟩) (by assumption) ?_
                · intro w9 hSw
                  exact exec_load (ad := ⟨D, 0 + 1, none⟩) rfl rfl (load_d (i := 0 + 1) hSw.c1 hSw.c2)
                simp only [Act.put, List.setIfInBounds_toArray, List.set_cons_zero, List.set_cons_succ]
                have hM5 := hM.drew
                have hb5 := hb.drew
                have hC5 := hC.drew
                clear hHeld hM hb hC
                generalize W.drew = w5 at *
                refine wpAnyH_ready (rs := [3]) (by kernel_rfl) (by simp) ?_
                refine AllReadyH.cons (o := { dst := some 83, op := _, type := _, pos := _, after := _, guard := _ }) rfl (fun K hK => ?_) AllReadyH.nil
                rw [if_pos (by rfl)]
                refine wp_callL (xs := [.tmp 80, .tmp 82]) (vs := [.pointer (some ⟨g, 0, none⟩), .agg (dotc r n)]) rfl rfl (enters_remove _ _) (remove_any _ _ _ r n w5 hM5.a.bg) ?_
                rintro e w6 ⟨rfl, hB6, ht6⟩
                have hC6 := hC5.turn ht6 hD1 hmD1
                obtain ⟨hM6, hb6'⟩ := hM5.left hb5.size hB6 ht6
                have hb6 := hb5.trans hb6'
                clear hB6 ht6 hM5 hb5 hC5 hb6'
                refine ⟨_, rfl, ?_⟩
                refine hK.out _ _ hC6 (fun hHeld => ?_)
                clear hK K
                simp only [Act.put, List.setIfInBounds_toArray, List.set_cons_zero, List.set_cons_succ]
                refine wpAnyH_ready (rs := [7]) (by kernel_rfl) (by simp) ?_
                refine AllReadyH.cons (o := { dst := some 87, op := _, type := _, pos := _, after := _, guard := _ }) rfl (fun K hK => ?_) AllReadyH.nil
                rw [if_pos (by rfl)]
                refine wp_callL (xs := [.tmp 84, .tmp 86]) (vs := [.pointer (some ⟨G, 0, none⟩), .agg (dotc r n)]) rfl rfl (enters_rremove _ _) (rremove_any _ _ _ _ r n w6 hM6.b (by omega)) ?_
                rintro e w7 ⟨rfl, v7, hB7, ht7⟩
                have hC7 := hC6.turn ht7 hD2 (fun q hq => nomatch hq)
                obtain ⟨hM7, hb7'⟩ := hM6.right hb6.size hB7 ht7
                have hb7 := hb6.trans hb7'
                clear hB7 ht7 hM6 hb6 hC6 hb7'
                refine ⟨_, rfl, ?_⟩
                refine hK.out _ _ hC7 (fun hHeld => ?_)
                clear hK K
                simp only [Act.put, List.setIfInBounds_toArray, List.set_cons_zero, List.set_cons_succ]
                refine wpAnyH_take (i := 8) (oi := { dst := some 88, op := _, type := _, pos := _, after := _, guard := _ }) (v := .bool false) rfl (by kernel_rfl) (by kernel_rfl) (by kernel_rfl) (fun _ _ _ h => h) (Or.inl ⟨by rfl, ?_⟩) (by assumption) ?_
                · intro w9 hSw
                  exact exec_neqb rfl rfl rfl (by simp)
                simp only [Act.put, List.setIfInBounds_toArray, List.set_cons_zero, List.set_cons_succ]
                refine wpAnyH_done (by kernel_rfl) ?_ _
                refine NoPanic.normal ?_
                clear hHeld
                clear hC7
                go_wp2_with fail
                obtain ⟨aR, cR, hvR, -, -⟩ := hM7.b.row.val
                subst hvR
                have hc27 := hM7.drew.b.c0
                refine wp_region_noPanic ?_
                refine wp_region_held_drew (S := fun W' : World => W'.cell? ⟨G, 0, none⟩ = some (.slice aR (del L r n).length cR)) (by kernel_rfl) hc27 (fun hHeld => ?_)
                refine wpAnyH_take (i := 0) (oi := { dst := some 102, op := _, type := _, pos := _, after := _, guard := _ }) (v := .pointer (some ⟨g, 0, none⟩)) rfl (by kernel_rfl) (by kernel_rfl) (by kernel_rfl) (fun _ _ _ h => h) (Or.inl ⟨by rfl, ?_⟩) (by assumption) ?_
                · intro w9 hSw
                  exact exec_move rfl rfl
                simp only [Act.put, List.setIfInBounds_toArray, List.set_cons_zero, List.set_cons_succ]
                refine wpAnyH_take (i := 2) (oi := { dst := some 104, op := _, type := _, pos := _, after := _, guard := _ }) (v := .pointer (some ⟨G, 0, none⟩)) rfl (by kernel_rfl) (by kernel_rfl) (by kernel_rfl) (fun _ _ _ h => h) (Or.inl ⟨by rfl, ?_⟩) (by assumption) ?_
                · intro w9 hSw
                  exact exec_move rfl rfl
                simp only [Act.put, List.setIfInBounds_toArray, List.set_cons_zero, List.set_cons_succ]
                refine wpAnyH_take (i := 3) (oi := { dst := some 105, op := _, type := _, pos := _, after := _, guard := _ }) (v := .pointer (some ⟨G, 0, none⟩)) rfl (by kernel_rfl) (by kernel_rfl) (by kernel_rfl) (fun _ _ _ h => h) (Or.inl ⟨by rfl, ?_⟩) (by assumption) ?_
                · intro w9 hSw
                  exact exec_nil rfl rfl
                simp only [Act.put, List.setIfInBounds_toArray, List.set_cons_zero, List.set_cons_succ]
                refine wpAnyH_take (i := 4) (oi := { dst := some 106, op := _, type := _, pos := _, after := _, guard := _ }) (v := .pointer (some ⟨G, 0, none⟩)) rfl (by kernel_rfl) (by kernel_rfl) (by kernel_rfl) (fun _ _ _ h => h) (Or.inl ⟨by rfl, ?_⟩) (by assumption) ?_
                · intro w9 hSw
                  exact exec_fieldR rfl rfl
                simp only [Act.put, List.setIfInBounds_toArray, List.set_cons_zero, List.set_cons_succ]
                refine wpAnyH_take (i := 5) (oi := { dst := some 107, op := _, type := _, pos := _, after := _, guard := _ }) (v := .slice aR (del L r n).length cR) rfl (by kernel_rfl) (by kernel_rfl) (by kernel_rfl) (fun _ _ _ h => h) (Or.inl ⟨by rfl, ?_⟩) (by assumption) ?_
                · intro w9 hSw
                  exact exec_load (ad := ⟨G, 0, none⟩) rfl rfl (load_rl hSw)
                simp only [Act.put, List.setIfInBounds_toArray, List.set_cons_zero, List.set_cons_succ]
                refine wpAnyH_take (i := 6) (oi := { dst := some 108, op := _, type := _, pos := _, after := _, guard := _ }) (v := .int .i64 ((del L r n).length : Int)) rfl (by kernel_rfl) (by kernel_rfl) (by kernel_rfl) (fun _ _ _ h => h) (Or.inl ⟨by rfl, ?_⟩) (by assumption) ?_
                · intro w9 hSw
                  exact exec_lensl rfl rfl
                simp only [Act.put, List.setIfInBounds_toArray, List.set_cons_zero, List.set_cons_succ]
                clear hHeld
                refine wpAnyH_ready (rs := [1]) (by kernel_rfl) (by simp) ?_
                refine AllReadyH.cons (o := { dst := some 103, op := _, type := _, pos := _, after := _, guard := _ }) rfl (fun K hK => ?_) AllReadyH.nil
                rw [if_pos (by rfl)]
                refine wp_callL (xs := [.tmp 102]) (vs := [.pointer (some ⟨g, 0, none⟩)]) rfl rfl (enters_len _ _) (len_any _ _ _ w7.drew hM7.drew.a.bg) ?_
                rintro e wx ⟨rfl, hwx⟩
                obtain rfl := hwx.symm
                clear hwx
                refine ⟨_, rfl, ?_⟩
                refine hK.out _ _ hc27 (fun hHeld => ?_)
                clear hK K
                simp only [Act.put, List.setIfInBounds_toArray, List.set_cons_zero, List.set_cons_succ]
                refine wpAnyH_take (i := 7) (oi := { dst := some 109, op := _, type := _, pos := _, after := _, guard := _ }) (v := .bool false) rfl (by kernel_rfl) (by kernel_rfl) (by kernel_rfl) (fun _ _ _ h => h) (Or.inl ⟨by rfl, ?_⟩) (by assumption) ?_
                · intro w9 hSw
                  exact exec_neq rfl rfl rfl (bne_self_eq_false _)
                simp only [Act.put, List.setIfInBounds_toArray, List.set_cons_zero, List.set_cons_succ]
                refine wpAnyH_done (by kernel_rfl) ?_ _
                refine NoPanic.normal ?_
                clear hHeld
                have hM8 := hM7.drew
                have hb8 := hb7.drew
                clear hM7 hb7 hc27
                generalize w7.drew = w8 at *
                go_wp2
                go_roundw
                case rel => exact ⟨k + 1, m, _, (del L r n), by omega, by go_num, hM8, by omega, hb8⟩
                case measure => simp [intOf]; omega
              · by_cases h4 : kd = 4
                · subst h4
                  have hl4 : (L.filter fun i => !gone v (wq (oddb x)) i).length ≤ L.length := List.length_filter_le _ _
                  go_wp2_with fail
                  clear c0 c1 c2 c3
                  refine wp_region_noPanic ?_
                  refine wp_region_held_drew (S := fun W' : World => LiesC W' D ⟨4, r, n, x, v⟩) (by kernel_rfl) hC.drew (fun hHeld => ?_)
                  refine wpAnyH_take (i := 0) (oi := { dst := some 91, op := _, type := _, pos := _, after := _, guard := _ }) (v := .pointer (some ⟨g, 0, none⟩)) rfl (by kernel_rfl) (by kernel_rfl) (by kernel_rfl) (fun _ _ _ h => h) (Or.inl ⟨by rfl, ?_⟩) (by assumption) ?_
                  · intro w9 hSw
                    exact exec_move rfl rfl
                  simp only [Act.put, List.setIfInBounds_toArray, List.set_cons_zero, List.set_cons_succ]
                  refine wpAnyH_take (i := 1) (oi := { dst := some 92, op := _, type := _, pos := _, after := _, guard := _ }) (v := .agg (clc ⟨4, r, n, x, v⟩)) rfl (by kernel_rfl) (by kernel_rfl) (by kernel_rfl) (fun _ _ _ h => h) (Or.inl ⟨by rfl, ?_⟩) (by assumption) ?_
                  · intro w9 hSw
                    exact exec_load (ad := ⟨D, 0, none⟩) rfl rfl (load_op hSw hv16)
                  simp only [Act.put, List.setIfInBounds_toArray, List.set_cons_zero, List.set_cons_succ]
                  refine wpAnyH_take (i := 3) (oi := { dst := some 94, op := _, type := _, pos := _, after := _, guard := _ }) (v := .pointer (some ⟨G, 0, none⟩)) rfl (by kernel_rfl) (by kernel_rfl) (by kernel_rfl) (fun _ _ _ h => h) (Or.inl ⟨by rfl, ?_⟩) (by assumption) ?_
                  · intro w9 hSw
                    exact exec_move rfl rfl
                  simp only [Act.put, List.setIfInBounds_toArray, List.set_cons_zero, List.set_cons_succ]
                  refine wpAnyH_take (i := 4) (oi := { dst := some 95, op := _, type := _, pos := _, after := _, guard := _ }) (v := .pointer (some ⟨D, 0 + 4, none⟩)) rfl (by kernel_rfl) (by kernel_rfl) (by kernel_rfl) (fun _ _ _ h => h) (Or.inl ⟨by rfl, ?_⟩) (by assumption) ?_
                  · intro w9 hSw
                    exact exec_field rfl rfl (fun w => field_o3 w _ _)
                  simp only [Act.put, List.setIfInBounds_toArray, List.set_cons_zero, List.set_cons_succ]
                  refine wpAnyH_take (i := 5) (oi := { dst := some 96, op := _, type := _, pos := _, after := _, guard := _ }) (v := .agg (vals v)) rfl (by kernel_rfl) (by kernel_rfl) (by kernel_rfl) (fun _ _ _ h => h) (Or.inl ⟨by rfl, ?_⟩) (by assumption) ?_
                  · intro w9 hSw
                    exact exec_load (ad := ⟨D, 0 + 4, none⟩) rfl rfl (load_vc hSw hv16)
                  simp only [Act.put, List.setIfInBounds_toArray, List.set_cons_zero, List.set_cons_succ]
                  refine wpAnyH_take (i := 6) (oi := { dst := some 97, op := _, type := _, pos := _, after := _, guard := _ }) (v := .pointer (some ⟨D, 0 + 3, none⟩)) rfl (by kernel_rfl) (by kernel_rfl) (by kernel_rfl) (fun _ _ _ h => h) (Or.inl ⟨by rfl, ?_⟩) (by assumption) ?_
                  · intro w9 hSw
                    exact exec_field rfl rfl (fun w => field_o2 w _ _)
                  simp only [Act.put, List.setIfInBounds_toArray, List.set_cons_zero, List.set_cons_succ]
                  refine wpAnyH_take (i := 7) (oi := { dst := some 98, op := _, type := _, pos := _, after := _, guard := _ }) (v := .int .i64 x) rfl (by kernel_rfl) (by kernel_rfl) (by kernel_rfl) (fun _ _ _ h => h) (Or.inl ⟨by rfl, ?_⟩) (by assumption) ?_
                  · intro w9 hSw
                    exact exec_load (ad := ⟨D, 0 + 3, none⟩) rfl rfl (load_i hSw.c3)
                  simp only [Act.put, List.setIfInBounds_toArray, List.set_cons_zero, List.set_cons_succ]
                  have hM5 := hM.drew
                  have hb5 := hb.drew
                  have hC5 := hC.drew
                  clear hHeld hM hb hC
                  generalize W.drew = w5 at *
                  refine wpAnyH_ready (rs := [2]) (by kernel_rfl) (by simp) ?_
                  refine AllReadyH.cons (o := { dst := some 93, op := _, type := _, pos := _, after := _, guard := _ }) rfl (fun K hK => ?_) AllReadyH.nil
                  rw [if_pos (by rfl)]
                  refine wp_callL (xs := [.tmp 91, .tmp 92]) (vs := [.pointer (some ⟨g, 0, none⟩), .agg (clc ⟨4, r, n, x, v⟩)]) rfl rfl (enters_drops _ _) (drops_any _ _ _ ⟨4, r, n, x, v⟩ hv16 w5 hM5.a.bg (by omega)) ?_
                  rintro e w6 ⟨rfl, hB6, ht6⟩
                  have hC6 := hC5.turn ht6 hD1 hmD1
                  obtain ⟨hM6, hb6'⟩ := hM5.left hb5.size hB6 ht6
                  have hb6 := hb5.trans hb6'
                  clear hB6 ht6 hM5 hb5 hC5 hb6'
                  refine ⟨_, rfl, ?_⟩
                  refine hK.out _ _ hC6 (fun hHeld => ?_)
                  clear hK K
                  simp only [Act.put, List.setIfInBounds_toArray, List.set_cons_zero, List.set_cons_succ]
                  refine wpAnyH_ready (rs := [8]) (by kernel_rfl) (by simp) ?_
                  refine AllReadyH.cons (o := { dst := some 99, op := _, type := _, pos := _, after := _, guard := _ }) rfl (fun K hK => ?_) AllReadyH.nil
                  rw [if_pos (by rfl)]
                  refine wp_callL (xs := [.tmp 98]) (vs := [.int .i64 x]) rfl rfl (enters_odd _ _) (odd_any x w6) ?_
                  rintro e wx ⟨rfl, hwx⟩
                  obtain rfl := hwx.symm
                  clear hwx
                  refine ⟨_, rfl, ?_⟩
                  refine hK.out _ _ hC6 (fun hHeld => ?_)
                  clear hK K
                  simp only [Act.put, List.setIfInBounds_toArray, List.set_cons_zero, List.set_cons_succ]
                  refine wpAnyH_ready (rs := [9]) (by kernel_rfl) (by simp) ?_
                  refine AllReadyH.cons (o := { dst := some 100, op := _, type := _, pos := _, after := _, guard := _ }) rfl (fun K hK => ?_) AllReadyH.nil
                  rw [if_pos (by rfl)]
                  refine wp_callL (xs := [.tmp 94, .tmp 96, .tmp 99]) (vs := [.pointer (some ⟨G, 0, none⟩), .agg (vals v), .bool (oddb x)]) rfl rfl (enters_rdrop _ _) (rdrop_any _ _ _ _ v hv16 (oddb x) w6 hM6.b (by omega)) ?_
                  rintro e w7 ⟨rfl, v7, hB7, ht7⟩
                  have hC7 := hC6.turn ht7 hD2 (fun q hq => nomatch hq)
                  obtain ⟨hM7, hb7'⟩ := hM6.right hb6.size hB7 ht7
                  have hb7 := hb6.trans hb7'
                  clear hB7 ht7 hM6 hb6 hC6 hb7'
                  refine ⟨_, rfl, ?_⟩
                  refine hK.out _ _ hC7 (fun hHeld => ?_)
                  clear hK K
                  simp only [Act.put, List.setIfInBounds_toArray, List.set_cons_zero, List.set_cons_succ]
                  refine wpAnyH_take (i := 10) (oi := { dst := some 101, op := _, type := _, pos := _, after := _, guard := _ }) (v := .bool false) rfl (by kernel_rfl) (by kernel_rfl) (by kernel_rfl) (fun _ _ _ h => h) (Or.inl ⟨by rfl, ?_⟩) (by assumption) ?_
                  · intro w9 hSw
                    exact exec_neq rfl rfl rfl (bne_self_eq_false _)
                  simp only [Act.put, List.setIfInBounds_toArray, List.set_cons_zero, List.set_cons_succ]
                  refine wpAnyH_done (by kernel_rfl) ?_ _
                  refine NoPanic.normal ?_
                  clear hHeld
                  clear hC7
                  go_wp2_with fail
                  obtain ⟨aR, cR, hvR, -, -⟩ := hM7.b.row.val
                  subst hvR
                  have hc27 := hM7.drew.b.c0
                  refine wp_region_noPanic ?_
                  refine wp_region_held_drew (S := fun W' : World => W'.cell? ⟨G, 0, none⟩ = some (.slice aR (L.filter fun i => !gone v (wq (oddb x)) i).length cR)) (by kernel_rfl) hc27 (fun hHeld => ?_)
                  refine wpAnyH_take (i := 0) (oi := { dst := some 102, op := _, type := _, pos := _, after := _, guard := _ }) (v := .pointer (some ⟨g, 0, none⟩)) rfl (by kernel_rfl) (by kernel_rfl) (by kernel_rfl) (fun _ _ _ h => h) (Or.inl ⟨by rfl, ?_⟩) (by assumption) ?_
                  · intro w9 hSw
                    exact exec_move rfl rfl
                  simp only [Act.put, List.setIfInBounds_toArray, List.set_cons_zero, List.set_cons_succ]
                  refine wpAnyH_take (i := 2) (oi := { dst := some 104, op := _, type := _, pos := _, after := _, guard := _ }) (v := .pointer (some ⟨G, 0, none⟩)) rfl (by kernel_rfl) (by kernel_rfl) (by kernel_rfl) (fun _ _ _ h => h) (Or.inl ⟨by rfl, ?_⟩) (by assumption) ?_
                  · intro w9 hSw
                    exact exec_move rfl rfl
                  simp only [Act.put, List.setIfInBounds_toArray, List.set_cons_zero, List.set_cons_succ]
                  refine wpAnyH_take (i := 3) (oi := { dst := some 105, op := _, type := _, pos := _, after := _, guard := _ }) (v := .pointer (some ⟨G, 0, none⟩)) rfl (by kernel_rfl) (by kernel_rfl) (by kernel_rfl) (fun _ _ _ h => h) (Or.inl ⟨by rfl, ?_⟩) (by assumption) ?_
                  · intro w9 hSw
                    exact exec_nil rfl rfl
                  simp only [Act.put, List.setIfInBounds_toArray, List.set_cons_zero, List.set_cons_succ]
                  refine wpAnyH_take (i := 4) (oi := { dst := some 106, op := _, type := _, pos := _, after := _, guard := _ }) (v := .pointer (some ⟨G, 0, none⟩)) rfl (by kernel_rfl) (by kernel_rfl) (by kernel_rfl) (fun _ _ _ h => h) (Or.inl ⟨by rfl, ?_⟩) (by assumption) ?_
                  · intro w9 hSw
                    exact exec_fieldR rfl rfl
                  simp only [Act.put, List.setIfInBounds_toArray, List.set_cons_zero, List.set_cons_succ]
                  refine wpAnyH_take (i := 5) (oi := { dst := some 107, op := _, type := _, pos := _, after := _, guard := _ }) (v := .slice aR (L.filter fun i => !gone v (wq (oddb x)) i).length cR) rfl (by kernel_rfl) (by kernel_rfl) (by kernel_rfl) (fun _ _ _ h => h) (Or.inl ⟨by rfl, ?_⟩) (by assumption) ?_
                  · intro w9 hSw
                    exact exec_load (ad := ⟨G, 0, none⟩) rfl rfl (load_rl hSw)
                  simp only [Act.put, List.setIfInBounds_toArray, List.set_cons_zero, List.set_cons_succ]
                  refine wpAnyH_take (i := 6) (oi := { dst := some 108, op := _, type := _, pos := _, after := _, guard := _ }) (v := .int .i64 ((L.filter fun i => !gone v (wq (oddb x)) i).length : Int)) rfl (by kernel_rfl) (by kernel_rfl) (by kernel_rfl) (fun _ _ _ h => h) (Or.inl ⟨by rfl, ?_⟩) (by assumption) ?_
                  · intro w9 hSw
                    exact exec_lensl rfl rfl
                  simp only [Act.put, List.setIfInBounds_toArray, List.set_cons_zero, List.set_cons_succ]
                  clear hHeld
                  refine wpAnyH_ready (rs := [1]) (by kernel_rfl) (by simp) ?_
                  refine AllReadyH.cons (o := { dst := some 103, op := _, type := _, pos := _, after := _, guard := _ }) rfl (fun K hK => ?_) AllReadyH.nil
                  rw [if_pos (by rfl)]
                  refine wp_callL (xs := [.tmp 102]) (vs := [.pointer (some ⟨g, 0, none⟩)]) rfl rfl (enters_len _ _) (len_any _ _ _ w7.drew hM7.drew.a.bg) ?_
                  rintro e wx ⟨rfl, hwx⟩
                  obtain rfl := hwx.symm
                  clear hwx
                  refine ⟨_, rfl, ?_⟩
                  refine hK.out _ _ hc27 (fun hHeld => ?_)
                  clear hK K
                  simp only [Act.put, List.setIfInBounds_toArray, List.set_cons_zero, List.set_cons_succ]
                  refine wpAnyH_take (i := 7) (oi := { dst := some 109, op := _, type := _, pos := _, after := _, guard := _ }) (v := .bool false) rfl (by kernel_rfl) (by kernel_rfl) (by kernel_rfl) (fun _ _ _ h => h) (Or.inl ⟨by rfl, ?_⟩) (by assumption) ?_
                  · intro w9 hSw
                    exact exec_neq rfl rfl rfl (bne_self_eq_false _)
                  simp only [Act.put, List.setIfInBounds_toArray, List.set_cons_zero, List.set_cons_succ]
                  refine wpAnyH_done (by kernel_rfl) ?_ _
                  refine NoPanic.normal ?_
                  clear hHeld
                  have hM8 := hM7.drew
                  have hb8 := hb7.drew
                  clear hM7 hb7 hc27
                  generalize w7.drew = w8 at *
                  go_wp2
                  go_roundw
                  case rel => exact ⟨k + 1, m, _, (L.filter fun i => !gone v (wq (oddb x)) i), by omega, by go_num, hM8, by omega, hb8⟩
                  case measure => simp [intOf]; omega
                · have hM7 := hM
                  have hb7 := hb
                  clear hM hb hC
                  generalize hW7 : W = w7 at *
                  clear hW7
                  go_wp2_with fail
                  clear c0 c1 c2 c3
                  obtain ⟨aR, cR, hvR, -, -⟩ := hM7.b.row.val
                  subst hvR
                  have hc27 := hM7.drew.b.c0
                  refine wp_region_noPanic ?_
                  refine wp_region_held_drew (S := fun W' : World => W'.cell? ⟨G, 0, none⟩ = some (.slice aR (L).length cR)) (by kernel_rfl) hc27 (fun hHeld => ?_)
                  refine wpAnyH_take (i := 0) (oi := { dst := some 102, op := _, type := _, pos := _, after := _, guard := _ }) (v := .pointer (some ⟨g, 0, none⟩)) rfl (by kernel_rfl) (by kernel_rfl) (by kernel_rfl) (fun _ _ _ h => h) (Or.inl ⟨by rfl, ?_⟩) (by assumption) ?_
                  · intro w9 hSw
                    exact exec_move rfl rfl
                  simp only [Act.put, List.setIfInBounds_toArray, List.set_cons_zero, List.set_cons_succ]
                  refine wpAnyH_take (i := 2) (oi := { dst := some 104, op := _, type := _, pos := _, after := _, guard := _ }) (v := .pointer (some ⟨G, 0, none⟩)) rfl (by kernel_rfl) (by kernel_rfl) (by kernel_rfl) (fun _ _ _ h => h) (Or.inl ⟨by rfl, ?_⟩) (by assumption) ?_
                  · intro w9 hSw
                    exact exec_move rfl rfl
                  simp only [Act.put, List.setIfInBounds_toArray, List.set_cons_zero, List.set_cons_succ]
                  refine wpAnyH_take (i := 3) (oi := { dst := some 105, op := _, type := _, pos := _, after := _, guard := _ }) (v := .pointer (some ⟨G, 0, none⟩)) rfl (by kernel_rfl) (by kernel_rfl) (by kernel_rfl) (fun _ _ _ h => h) (Or.inl ⟨by rfl, ?_⟩) (by assumption) ?_
                  · intro w9 hSw
                    exact exec_nil rfl rfl
                  simp only [Act.put, List.setIfInBounds_toArray, List.set_cons_zero, List.set_cons_succ]
                  refine wpAnyH_take (i := 4) (oi := { dst := some 106, op := _, type := _, pos := _, after := _, guard := _ }) (v := .pointer (some ⟨G, 0, none⟩)) rfl (by kernel_rfl) (by kernel_rfl) (by kernel_rfl) (fun _ _ _ h => h) (Or.inl ⟨by rfl, ?_⟩) (by assumption) ?_
                  · intro w9 hSw
                    exact exec_fieldR rfl rfl
                  simp only [Act.put, List.setIfInBounds_toArray, List.set_cons_zero, List.set_cons_succ]
                  refine wpAnyH_take (i := 5) (oi := { dst := some 107, op := _, type := _, pos := _, after := _, guard := _ }) (v := .slice aR (L).length cR) rfl (by kernel_rfl) (by kernel_rfl) (by kernel_rfl) (fun _ _ _ h => h) (Or.inl ⟨by rfl, ?_⟩) (by assumption) ?_
                  · intro w9 hSw
                    exact exec_load (ad := ⟨G, 0, none⟩) rfl rfl (load_rl hSw)
                  simp only [Act.put, List.setIfInBounds_toArray, List.set_cons_zero, List.set_cons_succ]
                  refine wpAnyH_take (i := 6) (oi := { dst := some 108, op := _, type := _, pos := _, after := _, guard := _ }) (v := .int .i64 ((L).length : Int)) rfl (by kernel_rfl) (by kernel_rfl) (by kernel_rfl) (fun _ _ _ h => h) (Or.inl ⟨by rfl, ?_⟩) (by assumption) ?_
                  · intro w9 hSw
                    exact exec_lensl rfl rfl
                  simp only [Act.put, List.setIfInBounds_toArray, List.set_cons_zero, List.set_cons_succ]
                  clear hHeld
                  refine wpAnyH_ready (rs := [1]) (by kernel_rfl) (by simp) ?_
                  refine AllReadyH.cons (o := { dst := some 103, op := _, type := _, pos := _, after := _, guard := _ }) rfl (fun K hK => ?_) AllReadyH.nil
                  rw [if_pos (by rfl)]
                  refine wp_callL (xs := [.tmp 102]) (vs := [.pointer (some ⟨g, 0, none⟩)]) rfl rfl (enters_len _ _) (len_any _ _ _ w7.drew hM7.drew.a.bg) ?_
                  rintro e wx ⟨rfl, hwx⟩
                  obtain rfl := hwx.symm
                  clear hwx
                  refine ⟨_, rfl, ?_⟩
                  refine hK.out _ _ hc27 (fun hHeld => ?_)
                  clear hK K
                  simp only [Act.put, List.setIfInBounds_toArray, List.set_cons_zero, List.set_cons_succ]
                  refine wpAnyH_take (i := 7) (oi := { dst := some 109, op := _, type := _, pos := _, after := _, guard := _ }) (v := .bool false) rfl (by kernel_rfl) (by kernel_rfl) (by kernel_rfl) (fun _ _ _ h => h) (Or.inl ⟨by rfl, ?_⟩) (by assumption) ?_
                  · intro w9 hSw
                    exact exec_neq rfl rfl rfl (bne_self_eq_false _)
                  simp only [Act.put, List.setIfInBounds_toArray, List.set_cons_zero, List.set_cons_succ]
                  refine wpAnyH_done (by kernel_rfl) ?_ _
                  refine NoPanic.normal ?_
                  clear hHeld
                  have hM8 := hM7.drew
                  have hb8 := hb7.drew
                  clear hM7 hb7 hc27
                  generalize w7.drew = w8 at *
                  go_wp2
                  go_roundw
                  case rel => exact ⟨k + 1, m, _, (L), by omega, by go_num, hM8, by omega, hb8⟩
                  case measure => simp [intOf]; omega
        · have hlt' : ¬ (k : Int) < (len : Int) := by omega
          have hc30 : wr.drew.cell? ⟨G, 0, none⟩ = some vR := hT.drew.b.c0
          have hBd := hT.drew
          have hbd := hb2.drew
          clear hT hb2 hO1
          go_wp2_with fail
          refine wp_region_noPanic ?_
          refine wp_region_held_drew (S := fun W' : World => W'.cell? ⟨G, 0, none⟩ = some vR) (by kernel_rfl) hc30 (fun hHeld => ?_)
          refine wpAnyH_take (i := 0) (oi := { dst := some 111, op := _, type := _, pos := _, after := _, guard := _ }) (v := .pointer (some ⟨g, 0, none⟩)) rfl (by kernel_rfl) (by kernel_rfl) (by kernel_rfl) (fun _ _ _ h => h) (Or.inl ⟨by rfl, ?_⟩) (by assumption) ?_
          · intro w9 hSw
            exact exec_move rfl rfl
          simp only [Act.put, List.setIfInBounds_toArray, List.set_cons_zero, List.set_cons_succ]
          refine wpAnyH_take (i := 2) (oi := { dst := some 113, op := _, type := _, pos := _, after := _, guard := _ }) (v := .pointer (some ⟨G, 0, none⟩)) rfl (by kernel_rfl) (by kernel_rfl) (by kernel_rfl) (fun _ _ _ h => h) (Or.inl ⟨by rfl, ?_⟩) (by assumption) ?_
          · intro w9 hSw
            exact exec_move rfl rfl
          simp only [Act.put, List.setIfInBounds_toArray, List.set_cons_zero, List.set_cons_succ]
          refine wpAnyH_take (i := 3) (oi := { dst := some 114, op := _, type := _, pos := _, after := _, guard := _ }) (v := .pointer (some ⟨G, 0, none⟩)) rfl (by kernel_rfl) (by kernel_rfl) (by kernel_rfl) (fun _ _ _ h => h) (Or.inl ⟨by rfl, ?_⟩) (by assumption) ?_
          · intro w9 hSw
            exact exec_nil rfl rfl
          simp only [Act.put, List.setIfInBounds_toArray, List.set_cons_zero, List.set_cons_succ]
          refine wpAnyH_take (i := 4) (oi := { dst := some 115, op := _, type := _, pos := _, after := _, guard := _ }) (v := .pointer (some ⟨G, 0, none⟩)) rfl (by kernel_rfl) (by kernel_rfl) (by kernel_rfl) (fun _ _ _ h => h) (Or.inl ⟨by rfl, ?_⟩) (by assumption) ?_
          · intro w9 hSw
            exact exec_fieldR rfl rfl
          simp only [Act.put, List.setIfInBounds_toArray, List.set_cons_zero, List.set_cons_succ]
          refine wpAnyH_take (i := 5) (oi := { dst := some 116, op := _, type := _, pos := _, after := _, guard := _ }) (v := vR) rfl (by kernel_rfl) (by kernel_rfl) (by kernel_rfl) (fun _ _ _ h => h) (Or.inl ⟨by rfl, ?_⟩) (by assumption) ?_
          · intro w9 hSw
            exact exec_load (ad := ⟨G, 0, none⟩) rfl rfl (load_rl hSw)
          simp only [Act.put, List.setIfInBounds_toArray, List.set_cons_zero, List.set_cons_succ]
          clear hHeld
          refine wpAnyH_ready (rs := [1]) (by kernel_rfl) (by simp) ?_
          refine AllReadyH.cons (o := { dst := some 112, op := _, type := _, pos := _, after := _, guard := _ }) rfl (fun K hK => ?_) AllReadyH.nil
          rw [if_pos (by rfl)]
          refine wp_callL (xs := [.tmp 111]) (vs := [.pointer (some ⟨g, 0, none⟩)]) rfl rfl (enters_items _ _) (items_any _ _ _ _ hBd.a.bg (by omega)) ?_
          rintro e w12 ⟨vX, rfl, hX, hbX⟩
          refine ⟨_, rfl, ?_⟩
          have hB12 := hBd.below hbX (Nat.le_refl _)
          have hb12 := hbd.trans (hbX.mono hbd.size)
          refine hK.out _ _ hB12.b.c0 (fun hHeld => ?_)
          clear hK K
          simp only [Act.put, List.setIfInBounds_toArray, List.set_cons_zero, List.set_cons_succ]
          refine wpAnyH_ready (rs := [6]) (by kernel_rfl) (by simp) ?_
          refine AllReadyH.cons (o := { dst := some 117, op := _, type := _, pos := _, after := _, guard := _ }) rfl (fun K hK => ?_) AllReadyH.nil
          rw [if_pos (by rfl)]
          refine wp_callL (xs := [.tmp 112, .tmp 116]) (vs := [vX, vR]) rfl rfl (enters_same _ _) (same_any _ _ _ _ _ w12 hX hB12.b.row) ?_
          rintro e w13 ⟨rfl, hb13'⟩
          refine ⟨_, rfl, ?_⟩
          have hb13 := hb12.trans (hb13'.mono hb12.size)
          have hB13 := hB12.below hb13' (Nat.le_refl _)
          refine hK.out _ _ hB13.b.c0 (fun hHeld => ?_)
          clear hK K
          simp only [Act.put, List.setIfInBounds_toArray, List.set_cons_zero, List.set_cons_succ]
          refine wpAnyH_take (i := 7) (oi := { dst := some 4, op := _, type := _, pos := _, after := _, guard := _ }) (v := .bool true) rfl (by kernel_rfl) (by kernel_rfl) (by kernel_rfl) (fun _ _ _ h => h) (Or.inl ⟨by rfl, ?_⟩) (by assumption) ?_
          · intro w9 hSw
            exact exec_assign rfl rfl
          simp only [Act.put, List.setIfInBounds_toArray, List.set_cons_zero, List.set_cons_succ]
          refine wpAnyH_done (by kernel_rfl) ?_ _
          refine NoPanic.normal ?_
          clear hHeld
          have hfin := hbw1.trans (hb13.mono hbw1.size)
          clear hB13 hb13 hb13' hB12 hb12 hX hbX
          go_wp2
          go_ret
          exact ⟨rfl, hfin⟩
    · go_wp2_with fail
      have hT := HT1.out
      have hb3 := HB1.out
      clear HT0 HB0 HT1 HB1
      generalize (w2.alloc (.cells #[.slice none 0 0] 29)).alloc (.cells #[.map none] 32) = w3 at *
      obtain ⟨g, hg⟩ : ∃ g, Hid (w2.heap.size + 1 = g) := ⟨_, rfl⟩
      rw [hg.out] at hT ⊢
      rw [HS2.out]
      clear HS2
      obtain ⟨G, hG⟩ : ∃ G, Hid (w1.heap.size + 1 = G) := ⟨_, rfl⟩
      rw [hG.out] at hT ⊢
      have hT' : Br w1.heap.size w3 g none [] G (.slice none 0 0) [] := hT
      clear hT hG hg
      clear hl'
      go_loopw [31] (fun c wr => ∃ (k : Nat) (m : Option Nat) (vR : Value) (L : List (It Int)), k ≤ len ∧ c = .int .i64 (k : Int) ∧ Br w1.heap.size wr g m L G vR L ∧ L.length ≤ k ∧ Below w1.heap.size w1 wr) (fun c _ => len - (intOf c).toNat)
      case atStart => exact ⟨0, none, .slice none 0 0, [], Nat.zero_le _, rfl, hT', Nat.zero_le _, hb3⟩
      case round =>
        clear hT' hb3
        obtain ⟨k, m, vR, L, hk, rfl, hT, hLk, hb2⟩ := hrel
        by_cases hlt : k < len
        · have hlt' : (k : Int) < (len : Int) := by omega
          obtain ⟨b, off, o, ha, ho, hblt, hR⟩ := (hO1.below hb2 (Nat.le_refl _)).atC hlt
          subst ha
          have hv16 := (HO1.out o (List.mem_of_getElem? ho)).v
          obtain ⟨kd, r, n, x, v⟩ := o
          simp only at hv16
          have hSr := hT.a.bg.srt
          have hD1 : g ≠ wr.heap.size := by have := hT.a.bg.lt; omega
          have hD2 : G ≠ wr.heap.size := by have := hT.b.lt; omega
          have hmD1 : ∀ q, m = some q → q ≠ wr.heap.size := fun q hq => by have := (hT.a.bg.own q hq).1; omega
          have HT : Hid (Br w1.heap.size wr g m L G vR L) := hT
          clear hT
          go_upto_region 12 with (first | refine load_cl rfl rfl rfl hR hv16 ?_ | refine store_cl rfl rfl rfl rfl (heap_alloc_new wr _) rfl hv16 ?_)
          have hC := liesC_past wr #[.int .i64 0, .int .i64 0, .int .i64 0, .int .i64 0, .int .i64 0, .int .i64 0, .int .i64 0, .int .i64 0, .int .i64 0, .int .i64 0, .int .i64 0, .int .i64 0, .int .i64 0, .int .i64 0, .int .i64 0, .int .i64 0, .int .i64 0, .int .i64 0, .int .i64 0, .int .i64 0] ⟨kd, r, n, x, v⟩
          have hb9 := below_past wr #[.int .i64 0, .int .i64 0, .int .i64 0, .int .i64 0, .int .i64 0, .int .i64 0, .int .i64 0, .int .i64 0, .int .i64 0, .int .i64 0, .int .i64 0, .int .i64 0, .int .i64 0, .int .i64 0, .int .i64 0, .int .i64 0, .int .i64 0, .int .i64 0, .int .i64 0, .int .i64 0] ⟨kd, r, n, x, v⟩
          have hM := HT.out.below hb9 (Nat.le_refl _)
          have hb := hb2.trans (hb9.mono hb2.size)
          clear hR hblt HT hb9 hb2
          generalize (wr.alloc (.cells #[.int .i64 0, .int .i64 0, .int .i64 0, .int .i64 0, .int .i64 0, .int .i64 0, .int .i64 0, .int .i64 0, .int .i64 0, .int .i64 0, .int .i64 0, .int .i64 0, .int .i64 0, .int .i64 0, .int .i64 0, .int .i64 0, .int .i64 0, .int .i64 0, .int .i64 0, .int .i64 0] 38)).setRow wr.heap.size (clc ⟨kd, r, n, x, v⟩) = W at *
          generalize wr.heap.size = D at *
          have c0 := hC.c0
          have c1 := hC.c1
          have c2 := hC.c2
          have c3 := hC.c3
          simp only at c0 c1 c2 c3
          by_cases h1 : kd = 1
          · subst h1
            go_wp2_with fail
            refine (put_any _ _ _ ⟨r, n, x⟩ W hM.a.bg).mono ?_
            rintro e w4 ⟨rfl, m4, hB4, ht4⟩
            have hC4 := hC.turn ht4 hD1 hmD1
            obtain ⟨hM4, hb4'⟩ := hM.left hb.size hB4 ht4
            have hb4 := hb.trans hb4'
            have hl4 := put_length_le L ⟨r, n, x⟩
            clear c0 c1 c2 c3 hC hM hb hB4 ht4 hb4'
            have c1 := hC4.c1
            have c2 := hC4.c2
            have c3 := hC4.c3
            simp only at c1 c2 c3
            go_wp2_with fail
            refine (rput_any _ _ _ _ hSr ⟨r, n, x⟩ w4 hM4.b (by omega)).mono ?_
            rintro e w7 ⟨rfl, v7, hB7, ht7⟩
            obtain ⟨hM7, hb7'⟩ := hM4.right hb4.size hB7 ht7
            have hb7 := hb4.trans hb7'
            clear c1 c2 c3 hC4 hM4 hb4 hB7 ht7 hb7'
            go_wp2_with fail
            obtain ⟨aR, cR, hvR, -, -⟩ := hM7.b.row.val
            subst hvR
            have hc27 := hM7.drew.b.c0
            refine wp_region_noPanic ?_
            refine wp_region_held_drew (S := fun W' : World => W'.cell? ⟨G, 0, none⟩ = some (.slice aR (put L ⟨r, n, x⟩).length cR)) (by kernel_rfl) hc27 (fun hHeld => ?_)
            refine wpAnyH_take (i := 0) (oi := { dst := some 102, op := _, type := _, pos := _, after := _, guard := _ }) (v := .pointer (some ⟨g, 0, none⟩)) rfl (by kernel_rfl) (by kernel_rfl) (by kernel_rfl) (fun _ _ _ h => h) (Or.inl ⟨by rfl, ?_⟩) (by assumption) ?_
            · intro w9 hSw
              exact exec_move rfl rfl
            simp only [Act.put, List.setIfInBounds_toArray, List.set_cons_zero, List.set_cons_succ]
            refine wpAnyH_take (i := 2) (oi := { dst := some 104, op := _, type := _, pos := _, after := _, guard := _ }) (v := .pointer (some ⟨G, 0, none⟩)) rfl (by kernel_rfl) (by kernel_rfl) (by kernel_rfl) (fun _ _ _ h => h) (Or.inl ⟨by rfl, ?_⟩) (by assumption) ?_
            · intro w9 hSw
              exact exec_move rfl rfl
            simp only [Act.put, List.setIfInBounds_toArray, List.set_cons_zero, List.set_cons_succ]
            refine wpAnyH_take (i := 3) (oi := { dst := some 105, op := _, type := _, pos := _, after := _, guard := _ }) (v := .pointer (some ⟨G, 0, none⟩)) rfl (by kernel_rfl) (by kernel_rfl) (by kernel_rfl) (fun _ _ _ h => h) (Or.inl ⟨by rfl, ?_⟩) (by assumption) ?_
            · intro w9 hSw
              exact exec_nil rfl rfl
            simp only [Act.put, List.setIfInBounds_toArray, List.set_cons_zero, List.set_cons_succ]
            refine wpAnyH_take (i := 4) (oi := { dst := some 106, op := _, type := _, pos := _, after := _, guard := _ }) (v := .pointer (some ⟨G, 0, none⟩)) rfl (by kernel_rfl) (by kernel_rfl) (by kernel_rfl) (fun _ _ _ h => h) (Or.inl ⟨by rfl, ?_⟩) (by assumption) ?_
            · intro w9 hSw
              exact exec_fieldR rfl rfl
            simp only [Act.put, List.setIfInBounds_toArray, List.set_cons_zero, List.set_cons_succ]
            refine wpAnyH_take (i := 5) (oi := { dst := some 107, op := _, type := _, pos := _, after := _, guard := _ }) (v := .slice aR (put L ⟨r, n, x⟩).length cR) rfl (by kernel_rfl) (by kernel_rfl) (by kernel_rfl) (fun _ _ _ h => h) (Or.inl ⟨by rfl, ?_⟩) (by assumption) ?_
            · intro w9 hSw
              exact exec_load (ad := ⟨G, 0, none⟩) rfl rfl (load_rl hSw)
            simp only [Act.put, List.setIfInBounds_toArray, List.set_cons_zero, List.set_cons_succ]
            refine wpAnyH_take (i := 6) (oi := { dst := some 108, op := _, type := _, pos := _, after := _, guard := _ }) (v := .int .i64 ((put L ⟨r, n, x⟩).length : Int)) rfl (by kernel_rfl) (by kernel_rfl) (by kernel_rfl) (fun _ _ _ h => h) (Or.inl ⟨by rfl, ?_⟩) (by assumption) ?_
            · intro w9 hSw
              exact exec_lensl rfl rfl
            simp only [Act.put, List.setIfInBounds_toArray, List.set_cons_zero, List.set_cons_succ]
            clear hHeld
            refine wpAnyH_ready (rs := [1]) (by kernel_rfl) (by simp) ?_
            refine AllReadyH.cons (o := { dst := some 103, op := _, type := _, pos := _, after := _, guard := _ }) rfl (fun K hK => ?_) AllReadyH.nil
            rw [if_pos (by rfl)]
            refine wp_callL (xs := [.tmp 102]) (vs := [.pointer (some ⟨g, 0, none⟩)]) rfl rfl (enters_len _ _) (len_any _ _ _ w7.drew hM7.drew.a.bg) ?_
            rintro e wx ⟨rfl, hwx⟩
            obtain rfl := hwx.symm
            clear hwx
            refine ⟨_, rfl, ?_⟩
            refine hK.out _ _ hc27 (fun hHeld => ?_)
            clear hK K
            simp only [Act.put, List.setIfInBounds_toArray, List.set_cons_zero, List.set_cons_succ]
            refine wpAnyH_take (i := 7) (oi := { dst := some 109, op := _, type := _, pos := _, after := _, guard := _ }) (v := .bool false) rfl (by kernel_rfl) (by kernel_rfl) (by kernel_rfl) (fun _ _ _ h => h) (Or.inl ⟨by rfl, ?_⟩) (by assumption) ?_
            · intro w9 hSw
              exact exec_neq rfl rfl rfl (bne_self_eq_false _)
            simp only [Act.put, List.setIfInBounds_toArray, List.set_cons_zero, List.set_cons_succ]
            refine wpAnyH_done (by kernel_rfl) ?_ _
            refine NoPanic.normal ?_
            clear hHeld
            have hM8 := hM7.drew
            have hb8 := hb7.drew
            clear hM7 hb7 hc27
            generalize w7.drew = w8 at *
            go_wp2
            go_roundw
            case rel => exact ⟨k + 1, m4, _, (put L ⟨r, n, x⟩), by omega, by go_num, hM8, by omega, hb8⟩
            case measure => simp [intOf]; omega
          · by_cases h2 : kd = 2
            · subst h2
              go_wp2_with fail
              refine (get_any _ _ _ r n W hM.a.bg).mono ?_
              rintro e w4 ⟨rfl, hb4'⟩
              have hC4 := hC.below hb4' hC.lt
              have hM4 := hM.below hb4' (Nat.le_refl _)
              have hb4 := hb.trans (hb4'.mono hb.size)
              clear c0 c1 c2 c3 hC hM hb hb4'
              have c1 := hC4.c1
              have c2 := hC4.c2
              simp only at c1 c2
              go_wp2_with fail
              refine (rget_any _ _ _ _ r n w4 hM4.b).mono ?_
              rintro e w7 ⟨rfl, hb7'⟩
              have hM7 := hM4.below hb7' (Nat.le_refl _)
              have hb7 := hb4.trans (hb7'.mono hb4.size)
              clear c1 c2 hC4 hM4 hb4 hb7'
              generalize (gets L r n).x = X at *
              generalize hasD L r n = Y at *
              go_wp2_with fail
              obtain ⟨aR, cR, hvR, -, -⟩ := hM7.b.row.val
              subst hvR
              have hc27 := hM7.drew.b.c0
              refine wp_region_noPanic ?_
              refine wp_region_held_drew (S := fun W' : World => W'.cell? ⟨G, 0, none⟩ = some (.slice aR (L).length cR)) (by kernel_rfl) hc27 (fun hHeld => ?_)
              refine wpAnyH_take (i := 0) (oi := { dst := some 102, op := _, type := _, pos := _, after := _, guard := _ }) (v := .pointer (some ⟨g, 0, none⟩)) rfl (by kernel_rfl) (by kernel_rfl) (by kernel_rfl) (fun _ _ _ h => h) (Or.inl ⟨by rfl, ?_⟩) (by assumption) ?_
              · intro w9 hSw
                exact exec_move rfl rfl
              simp only [Act.put, List.setIfInBounds_toArray, List.set_cons_zero, List.set_cons_succ]
              refine wpAnyH_take (i := 2) (oi := { dst := some 104, op := _, type := _, pos := _, after := _, guard := _ }) (v := .pointer (some ⟨G, 0, none⟩)) rfl (by kernel_rfl) (by kernel_rfl) (by kernel_rfl) (fun _ _ _ h => h) (Or.inl ⟨by rfl, ?_⟩) (by assumption) ?_
              · intro w9 hSw
                exact exec_move rfl rfl
              simp only [Act.put, List.setIfInBounds_toArray, List.set_cons_zero, List.set_cons_succ]
              refine wpAnyH_take (i := 3) (oi := { dst := some 105, op := _, type := _, pos := _, after := _, guard := _ }) (v := .pointer (some ⟨G, 0, none⟩)) rfl (by kernel_rfl) (by kernel_rfl) (by kernel_rfl) (fun _ _ _ h => h) (Or.inl ⟨by rfl, ?_⟩) (by assumption) ?_
              · intro w9 hSw
                exact exec_nil rfl rfl
              simp only [Act.put, List.setIfInBounds_toArray, List.set_cons_zero, List.set_cons_succ]
              refine wpAnyH_take (i := 4) (oi := { dst := some 106, op := _, type := _, pos := _, after := _, guard := _ }) (v := .pointer (some ⟨G, 0, none⟩)) rfl (by kernel_rfl) (by kernel_rfl) (by kernel_rfl) (fun _ _ _ h => h) (Or.inl ⟨by rfl, ?_⟩) (by assumption) ?_
              · intro w9 hSw
                exact exec_fieldR rfl rfl
              simp only [Act.put, List.setIfInBounds_toArray, List.set_cons_zero, List.set_cons_succ]
              refine wpAnyH_take (i := 5) (oi := { dst := some 107, op := _, type := _, pos := _, after := _, guard := _ }) (v := .slice aR (L).length cR) rfl (by kernel_rfl) (by kernel_rfl) (by kernel_rfl) (fun _ _ _ h => h) (Or.inl ⟨by rfl, ?_⟩) (by assumption) ?_
              · intro w9 hSw
                exact exec_load (ad := ⟨G, 0, none⟩) rfl rfl (load_rl hSw)
              simp only [Act.put, List.setIfInBounds_toArray, List.set_cons_zero, List.set_cons_succ]
              refine wpAnyH_take (i := 6) (oi := { dst := some 108, op := _, type := _, pos := _, after := _, guard := _ }) (v := .int .i64 ((L).length : Int)) rfl (by kernel_rfl) (by kernel_rfl) (by kernel_rfl) (fun _ _ _ h => h) (Or.inl ⟨by rfl, ?_⟩) (by assumption) ?_
              · intro w9 hSw
                exact exec_lensl rfl rfl
              simp only [Act.put, List.setIfInBounds_toArray, List.set_cons_zero, List.set_cons_succ]
              clear hHeld
              refine wpAnyH_ready (rs := [1]) (by kernel_rfl) (by simp) ?_
              refine AllReadyH.cons (o := { dst := some 103, op := _, type := _, pos := _, after := _, guard := _ }) rfl (fun K hK => ?_) AllReadyH.nil
              rw [if_pos (by rfl)]
              refine wp_callL (xs := [.tmp 102]) (vs := [.pointer (some ⟨g, 0, none⟩)]) rfl rfl (enters_len _ _) (len_any _ _ _ w7.drew hM7.drew.a.bg) ?_
              rintro e wx ⟨rfl, hwx⟩
              obtain rfl := hwx.symm
              clear hwx
              refine ⟨_, rfl, ?_⟩
              refine hK.out _ _ hc27 (fun hHeld => ?_)
              clear hK K
              simp only [Act.put, List.setIfInBounds_toArray, List.set_cons_zero, List.set_cons_succ]
              refine wpAnyH_take (i := 7) (oi := { dst := some 109, op := _, type := _, pos := _, after := _, guard := _ }) (v := .bool false) rfl (by kernel_rfl) (by kernel_rfl) (by kernel_rfl) (fun _ _ _ h => h) (Or.inl ⟨by rfl, ?_⟩) (by assumption) ?_
              · intro w9 hSw
                exact exec_neq rfl rfl rfl (bne_self_eq_false _)
              simp only [Act.put, List.setIfInBounds_toArray, List.set_cons_zero, List.set_cons_succ]
              refine wpAnyH_done (by kernel_rfl) ?_ _
              refine NoPanic.normal ?_
              clear hHeld
              have hM8 := hM7.drew
              have hb8 := hb7.drew
              clear hM7 hb7 hc27
              generalize w7.drew = w8 at *
              go_wp2
              go_roundw
              case rel => exact ⟨k + 1, m, _, (L), by omega, by go_num, hM8, by omega, hb8⟩
              case measure => simp [intOf]; omega
            · by_cases h3 : kd = 3
              · subst h3
                have hl4 : (del L r n).length ≤ L.length := List.length_filter_le _ _
                go_wp2_with fail
                clear c0 c1 c2 c3
                refine wp_region_noPanic ?_
                refine wp_region_held_drew (S := fun W' : World => LiesC W' D ⟨3, r, n, x, v⟩) (by kernel_rfl) hC.drew (fun hHeld => ?_)
                refine wpAnyH_take (i := 0) (oi := { dst := some 80, op := _, type := _, pos := _, after := _, guard := _ }) (v := .pointer (some ⟨g, 0, none⟩)) rfl (by kernel_rfl) (by kernel_rfl) (by kernel_rfl) (fun _ _ _ h => h) (Or.inl ⟨by rfl, ?_⟩) (by assumption) ?_
                · intro w9 hSw
                  exact exec_move rfl rfl
                simp only [Act.put, List.setIfInBounds_toArray, List.set_cons_zero, List.set_cons_succ]
                refine wpAnyH_take (i := 1) (oi := { dst := some 81, op := _, type := _, pos := _, after := _, guard := _ }) (v := .pointer (some ⟨D, 0 + 1, none⟩)) rfl (by kernel_rfl) (by kernel_rfl) (by kernel_rfl) (fun _ _ _ h => h) (Or.inl ⟨by rfl, ?_⟩) (by assumption) ?_
                · intro w9 hSw
                  exact exec_field rfl rfl (fun w => field_o1 w _ _)
                simp only [Act.put, List.setIfInBounds_toArray, List.set_cons_zero, List.set_cons_succ]
                refine wpAnyH_take (i := 2) (oi := { dst := some 82, op := _, type := _, pos := _, after := _, guard := _ }) (v := .agg #[.int .i64 r, .int .i64 n]) rfl (by kernel_rfl) (by kernel_rfl) (by kernel_rfl) (fun _ _ _ h => h) (Or.inl ⟨by rfl, ?_⟩) (by assumption) ?_
                · intro w9 hSw
                  exact exec_load (ad := ⟨D, 0 + 1, none⟩) rfl rfl (load_d (i := 0 + 1) hSw.c1 hSw.c2)
                simp only [Act.put, List.setIfInBounds_toArray, List.set_cons_zero, List.set_cons_succ]
                refine wpAnyH_take (i := 4) (oi := { dst := some 84, op := _, type := _, pos := _, after := _, guard := _ }) (v := .pointer (some ⟨G, 0, none⟩)) rfl (by kernel_rfl) (by kernel_rfl) (by kernel_rfl) (fun _ _ _ h => h) (Or.inl ⟨by rfl, ?_⟩) (by assumption) ?_
                · intro w9 hSw
                  exact exec_move rfl rfl
                simp only [Act.put, List.setIfInBounds_toArray, List.set_cons_zero, List.set_cons_succ]
                refine wpAnyH_take (i := 5) (oi := { dst := some 85, op := _, type := _, pos := _, after := _, guard := _ }) (v := .pointer (some ⟨D, 0 + 1, none⟩)) rfl (by kernel_rfl) (by kernel_rfl) (by kernel_rfl) (fun _ _ _ h => h) (Or.inl ⟨by rfl, ?_⟩) (by assumption) ?_
                · intro w9 hSw
                  exact exec_field rfl rfl (fun w => field_o1 w _ _)
                simp only [Act.put, List.setIfInBounds_toArray, List.set_cons_zero, List.set_cons_succ]
                refine wpAnyH_take (i := 6) (oi := { dst := some 86, op := _, type := _, pos := _, after := _, guard := _ }) (v := .agg #[.int .i64 r, .int .i64 n]) rfl (by kernel_rfl) (by kernel_rfl) (by kernel_rfl) (fun _ _ _ h => h) (Or.inl ⟨by rfl, ?_⟩) (by assumption) ?_
                · intro w9 hSw
                  exact exec_load (ad := ⟨D, 0 + 1, none⟩) rfl rfl (load_d (i := 0 + 1) hSw.c1 hSw.c2)
                simp only [Act.put, List.setIfInBounds_toArray, List.set_cons_zero, List.set_cons_succ]
                have hM5 := hM.drew
                have hb5 := hb.drew
                have hC5 := hC.drew
                clear hHeld hM hb hC
                generalize W.drew = w5 at *
                refine wpAnyH_ready (rs := [3]) (by kernel_rfl) (by simp) ?_
                refine AllReadyH.cons (o := { dst := some 83, op := _, type := _, pos := _, after := _, guard := _ }) rfl (fun K hK => ?_) AllReadyH.nil
                rw [if_pos (by rfl)]
                refine wp_callL (xs := [.tmp 80, .tmp 82]) (vs := [.pointer (some ⟨g, 0, none⟩), .agg (dotc r n)]) rfl rfl (enters_remove _ _) (remove_any _ _ _ r n w5 hM5.a.bg) ?_
                rintro e w6 ⟨rfl, hB6, ht6⟩
                have hC6 := hC5.turn ht6 hD1 hmD1
                obtain ⟨hM6, hb6'⟩ := hM5.left hb5.size hB6 ht6
                have hb6 := hb5.trans hb6'
                clear hB6 ht6 hM5 hb5 hC5 hb6'
                refine ⟨_, rfl, ?_⟩
                refine hK.out _ _ hC6 (fun hHeld => ?_)
                clear hK K
                simp only [Act.put, List.setIfInBounds_toArray, List.set_cons_zero, List.set_cons_succ]
                refine wpAnyH_ready (rs := [7]) (by kernel_rfl) (by simp) ?_
                refine AllReadyH.cons (o := { dst := some 87, op := _, type := _, pos := _, after := _, guard := _ }) rfl (fun K hK => ?_) AllReadyH.nil
                rw [if_pos (by rfl)]
                refine wp_callL (xs := [.tmp 84, .tmp 86]) (vs := [.pointer (some ⟨G, 0, none⟩), .agg (dotc r n)]) rfl rfl (enters_rremove _ _) (rremove_any _ _ _ _ r n w6 hM6.b (by omega)) ?_
                rintro e w7 ⟨rfl, v7, hB7, ht7⟩
                have hC7 := hC6.turn ht7 hD2 (fun q hq => nomatch hq)
                obtain ⟨hM7, hb7'⟩ := hM6.right hb6.size hB7 ht7
                have hb7 := hb6.trans hb7'
                clear hB7 ht7 hM6 hb6 hC6 hb7'
                refine ⟨_, rfl, ?_⟩
                refine hK.out _ _ hC7 (fun hHeld => ?_)
                clear hK K
                simp only [Act.put, List.setIfInBounds_toArray, List.set_cons_zero, List.set_cons_succ]
                refine wpAnyH_take (i := 8) (oi := { dst := some 88, op := _, type := _, pos := _, after := _, guard := _ }) (v := .bool false) rfl (by kernel_rfl) (by kernel_rfl) (by kernel_rfl) (fun _ _ _ h => h) (Or.inl ⟨by rfl, ?_⟩) (by assumption) ?_
                · intro w9 hSw
                  exact exec_neqb rfl rfl rfl (by simp)
                simp only [Act.put, List.setIfInBounds_toArray, List.set_cons_zero, List.set_cons_succ]
                refine wpAnyH_done (by kernel_rfl) ?_ _
                refine NoPanic.normal ?_
                clear hHeld
                clear hC7
                go_wp2_with fail
                obtain ⟨aR, cR, hvR, -, -⟩ := hM7.b.row.val
                subst hvR
                have hc27 := hM7.drew.b.c0
                refine wp_region_noPanic ?_
                refine wp_region_held_drew (S := fun W' : World => W'.cell? ⟨G, 0, none⟩ = some (.slice aR (del L r n).length cR)) (by kernel_rfl) hc27 (fun hHeld => ?_)
                refine wpAnyH_take (i := 0) (oi := { dst := some 102, op := _, type := _, pos := _, after := _, guard := _ }) (v := .pointer (some ⟨g, 0, none⟩)) rfl (by kernel_rfl) (by kernel_rfl) (by kernel_rfl) (fun _ _ _ h => h) (Or.inl ⟨by rfl, ?_⟩) (by assumption) ?_
                · intro w9 hSw
                  exact exec_move rfl rfl
                simp only [Act.put, List.setIfInBounds_toArray, List.set_cons_zero, List.set_cons_succ]
                refine wpAnyH_take (i := 2) (oi := { dst := some 104, op := _, type := _, pos := _, after := _, guard := _ }) (v := .pointer (some ⟨G, 0, none⟩)) rfl (by kernel_rfl) (by kernel_rfl) (by kernel_rfl) (fun _ _ _ h => h) (Or.inl ⟨by rfl, ?_⟩) (by assumption) ?_
                · intro w9 hSw
                  exact exec_move rfl rfl
                simp only [Act.put, List.setIfInBounds_toArray, List.set_cons_zero, List.set_cons_succ]
                refine wpAnyH_take (i := 3) (oi := { dst := some 105, op := _, type := _, pos := _, after := _, guard := _ }) (v := .pointer (some ⟨G, 0, none⟩)) rfl (by kernel_rfl) (by kernel_rfl) (by kernel_rfl) (fun _ _ _ h => h) (Or.inl ⟨by rfl, ?_⟩) (by assumption) ?_
                · intro w9 hSw
                  exact exec_nil rfl rfl
                simp only [Act.put, List.setIfInBounds_toArray, List.set_cons_zero, List.set_cons_succ]
                refine wpAnyH_take (i := 4) (oi := { dst := some 106, op := _, type := _, pos := _, after := _, guard := _ }) (v := .pointer (some ⟨G, 0, none⟩)) rfl (by kernel_rfl) (by kernel_rfl) (by kernel_rfl) (fun _ _ _ h => h) (Or.inl ⟨by rfl, ?_⟩) (by assumption) ?_
                · intro w9 hSw
                  exact exec_fieldR rfl rfl
                simp only [Act.put, List.setIfInBounds_toArray, List.set_cons_zero, List.set_cons_succ]
                refine wpAnyH_take (i := 5) (oi := { dst := some 107, op := _, type := _, pos := _, after := _, guard := _ }) (v := .slice aR (del L r n).length cR) rfl (by kernel_rfl) (by kernel_rfl) (by kernel_rfl) (fun _ _ _ h => h) (Or.inl ⟨by rfl, ?_⟩) (by assumption) ?_
                · intro w9 hSw
                  exact exec_load (ad := ⟨G, 0, none⟩) rfl rfl (load_rl hSw)
                simp only [Act.put, List.setIfInBounds_toArray, List.set_cons_zero, List.set_cons_succ]
                refine wpAnyH_take (i := 6) (oi := { dst := some 108, op := _, type := _, pos := _, after := _, guard := _ }) (v := .int .i64 ((del L r n).length : Int)) rfl (by kernel_rfl) (by kernel_rfl) (by kernel_rfl) (fun _ _ _ h => h) (Or.inl ⟨by rfl, ?_⟩) (by assumption) ?_
                · intro w9 hSw
                  exact exec_lensl rfl rfl
                simp only [Act.put, List.setIfInBounds_toArray, List.set_cons_zero, List.set_cons_succ]
                clear hHeld
                refine wpAnyH_ready (rs := [1]) (by kernel_rfl) (by simp) ?_
                refine AllReadyH.cons (o := { dst := some 103, op := _, type := _, pos := _, after := _, guard := _ }) rfl (fun K hK => ?_) AllReadyH.nil
                rw [if_pos (by rfl)]
                refine wp_callL (xs := [.tmp 102]) (vs := [.pointer (some ⟨g, 0, none⟩)]) rfl rfl (enters_len _ _) (len_any _ _ _ w7.drew hM7.drew.a.bg) ?_
                rintro e wx ⟨rfl, hwx⟩
                obtain rfl := hwx.symm
                clear hwx
                refine ⟨_, rfl, ?_⟩
                refine hK.out _ _ hc27 (fun hHeld => ?_)
                clear hK K
                simp only [Act.put, List.setIfInBounds_toArray, List.set_cons_zero, List.set_cons_succ]
                refine wpAnyH_take (i := 7) (oi := { dst := some 109, op := _, type := _, pos := _, after := _, guard := _ }) (v := .bool false) rfl (by kernel_rfl) (by kernel_rfl) (by kernel_rfl) (fun _ _ _ h => h) (Or.inl ⟨by rfl, ?_⟩) (by assumption) ?_
                · intro w9 hSw
                  exact exec_neq rfl rfl rfl (bne_self_eq_false _)
                simp only [Act.put, List.setIfInBounds_toArray, List.set_cons_zero, List.set_cons_succ]
                refine wpAnyH_done (by kernel_rfl) ?_ _
                refine NoPanic.normal ?_
                clear hHeld
                have hM8 := hM7.drew
                have hb8 := hb7.drew
                clear hM7 hb7 hc27
                generalize w7.drew = w8 at *
                go_wp2
                go_roundw
                case rel => exact ⟨k + 1, m, _, (del L r n), by omega, by go_num, hM8, by omega, hb8⟩
                case measure => simp [intOf]; omega
              · by_cases h4 : kd = 4
                · subst h4
                  have hl4 : (L.filter fun i => !gone v (wq (oddb x)) i).length ≤ L.length := List.length_filter_le _ _
                  go_wp2_with fail
                  clear c0 c1 c2 c3
                  refine wp_region_noPanic ?_
                  refine wp_region_held_drew (S := fun W' : World => LiesC W' D ⟨4, r, n, x, v⟩) (by kernel_rfl) hC.drew (fun hHeld => ?_)
                  refine wpAnyH_take (i := 0) (oi := { dst := some 91, op := _, type := _, pos := _, after := _, guard := _ }) (v := .pointer (some ⟨g, 0, none⟩)) rfl (by kernel_rfl) (by kernel_rfl) (by kernel_rfl) (fun _ _ _ h => h) (Or.inl ⟨by rfl, ?_⟩) (by assumption) ?_
                  · intro w9 hSw
                    exact exec_move rfl rfl
                  simp only [Act.put, List.setIfInBounds_toArray, List.set_cons_zero, List.set_cons_succ]
                  refine wpAnyH_take (i := 1) (oi := { dst := some 92, op := _, type := _, pos := _, after := _, guard := _ }) (v := .agg (clc ⟨4, r, n, x, v⟩)) rfl (by kernel_rfl) (by kernel_rfl) (by kernel_rfl) (fun _ _ _ h => h) (Or.inl ⟨by rfl, ?_⟩) (by assumption) ?_
                  · intro w9 hSw
                    exact exec_load (ad := ⟨D, 0, none⟩) rfl rfl (load_op hSw hv16)
                  simp only [Act.put, List.setIfInBounds_toArray, List.set_cons_zero, List.set_cons_succ]
                  refine wpAnyH_take (i := 3) (oi := { dst := some 94, op := _, type := _, pos := _, after := _, guard := _ }) (v := .pointer (some ⟨G, 0, none⟩)) rfl (by kernel_rfl) (by kernel_rfl) (by kernel_rfl) (fun _ _ _ h => h) (Or.inl ⟨by rfl, ?_⟩) (by assumption) ?_
                  · intro w9 hSw
                    exact exec_move rfl rfl
                  simp only [Act.put, List.setIfInBounds_toArray, List.set_cons_zero, List.set_cons_succ]
                  refine wpAnyH_take (i := 4) (oi := { dst := some 95, op := _, type := _, pos := _, after := _, guard := _ }) (v := .pointer (some ⟨D, 0 + 4, none⟩)) rfl (by kernel_rfl) (by kernel_rfl) (by kernel_rfl) (fun _ _ _ h => h) (Or.inl ⟨by rfl, ?_⟩) (by assumption) ?_
                  · intro w9 hSw
                    exact exec_field rfl rfl (fun w => field_o3 w _ _)
                  simp only [Act.put, List.setIfInBounds_toArray, List.set_cons_zero, List.set_cons_succ]
                  refine wpAnyH_take (i := 5) (oi := { dst := some 96, op := _, type := _, pos := _, after := _, guard := _ }) (v := .agg (vals v)) rfl (by kernel_rfl) (by kernel_rfl) (by kernel_rfl) (fun _ _ _ h => h) (Or.inl ⟨by rfl, ?_⟩) (by assumption) ?_
                  · intro w9 hSw
                    exact exec_load (ad := ⟨D, 0 + 4, none⟩) rfl rfl (load_vc hSw hv16)
                  simp only [Act.put, List.setIfInBounds_toArray, List.set_cons_zero, List.set_cons_succ]
                  refine wpAnyH_take (i := 6) (oi := { dst := some 97, op := _, type := _, pos := _, after := _, guard := _ }) (v := .pointer (some ⟨D, 0 + 3, none⟩)) rfl (by kernel_rfl) (by kernel_rfl) (by kernel_rfl) (fun _ _ _ h => h) (Or.inl ⟨by rfl, ?_⟩) (by assumption) ?_
                  · intro w9 hSw
                    exact exec_field rfl rfl (fun w => field_o2 w _ _)
                  simp only [Act.put, List.setIfInBounds_toArray, List.set_cons_zero, List.set_cons_succ]
                  refine wpAnyH_take (i := 7) (oi := { dst := some 98, op := _, type := _, pos := _, after := _, guard := _ }) (v := .int .i64 x) rfl (by kernel_rfl) (by kernel_rfl) (by kernel_rfl) (fun _ _ _ h => h) (Or.inl ⟨by rfl, ?_⟩) (by assumption) ?_
                  · intro w9 hSw
                    exact exec_load (ad := ⟨D, 0 + 3, none⟩) rfl rfl (load_i hSw.c3)
                  simp only [Act.put, List.setIfInBounds_toArray, List.set_cons_zero, List.set_cons_succ]
                  have hM5 := hM.drew
                  have hb5 := hb.drew
                  have hC5 := hC.drew
                  clear hHeld hM hb hC
                  generalize W.drew = w5 at *
                  refine wpAnyH_ready (rs := [2]) (by kernel_rfl) (by simp) ?_
                  refine AllReadyH.cons (o := { dst := some 93, op := _, type := _, pos := _, after := _, guard := _ }) rfl (fun K hK => ?_) AllReadyH.nil
                  rw [if_pos (by rfl)]
                  refine wp_callL (xs := [.tmp 91, .tmp 92]) (vs := [.pointer (some ⟨g, 0, none⟩), .agg (clc ⟨4, r, n, x, v⟩)]) rfl rfl (enters_drops _ _) (drops_any _ _ _ ⟨4, r, n, x, v⟩ hv16 w5 hM5.a.bg (by omega)) ?_
                  rintro e w6 ⟨rfl, hB6, ht6⟩
                  have hC6 := hC5.turn ht6 hD1 hmD1
                  obtain ⟨hM6, hb6'⟩ := hM5.left hb5.size hB6 ht6
                  have hb6 := hb5.trans hb6'
                  clear hB6 ht6 hM5 hb5 hC5 hb6'
                  refine ⟨_, rfl, ?_⟩
                  refine hK.out _ _ hC6 (fun hHeld => ?_)
                  clear hK K
                  simp only [Act.put, List.setIfInBounds_toArray, List.set_cons_zero, List.set_cons_succ]
                  refine wpAnyH_ready (rs := [8]) (by kernel_rfl) (by simp) ?_
                  refine AllReadyH.cons (o := { dst := some 99, op := _, type := _, pos := _, after := _, guard := _ }) rfl (fun K hK => ?_) AllReadyH.nil
                  rw [if_pos (by rfl)]
                  refine wp_callL (xs := [.tmp 98]) (vs := [.int .i64 x]) rfl rfl (enters_odd _ _) (odd_any x w6) ?_
                  rintro e wx ⟨rfl, hwx⟩
                  obtain rfl := hwx.symm
                  clear hwx
                  refine ⟨_, rfl, ?_⟩
                  refine hK.out _ _ hC6 (fun hHeld => ?_)
                  clear hK K
                  simp only [Act.put, List.setIfInBounds_toArray, List.set_cons_zero, List.set_cons_succ]
                  refine wpAnyH_ready (rs := [9]) (by kernel_rfl) (by simp) ?_
                  refine AllReadyH.cons (o := { dst := some 100, op := _, type := _, pos := _, after := _, guard := _ }) rfl (fun K hK => ?_) AllReadyH.nil
                  rw [if_pos (by rfl)]
                  refine wp_callL (xs := [.tmp 94, .tmp 96, .tmp 99]) (vs := [.pointer (some ⟨G, 0, none⟩), .agg (vals v), .bool (oddb x)]) rfl rfl (enters_rdrop _ _) (rdrop_any _ _ _ _ v hv16 (oddb x) w6 hM6.b (by omega)) ?_
                  rintro e w7 ⟨rfl, v7, hB7, ht7⟩
                  have hC7 := hC6.turn ht7 hD2 (fun q hq => nomatch hq)
                  obtain ⟨hM7, hb7'⟩ := hM6.right hb6.size hB7 ht7
                  have hb7 := hb6.trans hb7'
                  clear hB7 ht7 hM6 hb6 hC6 hb7'
                  refine ⟨_, rfl, ?_⟩
                  refine hK.out _ _ hC7 (fun hHeld => ?_)
                  clear hK K
                  simp only [Act.put, List.setIfInBounds_toArray, List.set_cons_zero, List.set_cons_succ]
                  refine wpAnyH_take (i := 10) (oi := { dst := some 101, op := _, type := _, pos := _, after := _, guard := _ }) (v := .bool false) rfl (by kernel_rfl) (by kernel_rfl) (by kernel_rfl) (fun _ _ _ h => h) (Or.inl ⟨by rfl, ?_⟩) (by assumption) ?_
                  · intro w9 hSw
                    exact exec_neq rfl rfl rfl (bne_self_eq_false _)
                  simp only [Act.put, List.setIfInBounds_toArray, List.set_cons_zero, List.set_cons_succ]
                  refine wpAnyH_done (by kernel_rfl) ?_ _
                  refine NoPanic.normal ?_
                  clear hHeld
                  clear hC7
                  go_wp2_with fail
                  obtain ⟨aR, cR, hvR, -, -⟩ := hM7.b.row.val
                  subst hvR
                  have hc27 := hM7.drew.b.c0
                  refine wp_region_noPanic ?_
                  refine wp_region_held_drew (S := fun W' : World => W'.cell? ⟨G, 0, none⟩ = some (.slice aR (L.filter fun i => !gone v (wq (oddb x)) i).length cR)) (by kernel_rfl) hc27 (fun hHeld => ?_)
                  refine wpAnyH_take (i := 0) (oi := { dst := some 102, op := _, type := _, pos := _, after := _, guard := _ }) (v := .pointer (some ⟨g, 0, none⟩)) rfl (by kernel_rfl) (by kernel_rfl) (by kernel_rfl) (fun _ _ _ h => h) (Or.inl ⟨by rfl, ?_⟩) (by assumption) ?_
                  · intro w9 hSw
                    exact exec_move rfl rfl
                  simp only [Act.put, List.setIfInBounds_toArray, List.set_cons_zero, List.set_cons_succ]
                  refine wpAnyH_take (i := 2) (oi := { dst := some 104, op := _, type := _, pos := _, after := _, guard := _ }) (v := .pointer (some ⟨G, 0, none⟩)) rfl (by kernel_rfl) (by kernel_rfl) (by kernel_rfl) (fun _ _ _ h => h) (Or.inl ⟨by rfl, ?_⟩) (by assumption) ?_
                  · intro w9 hSw
                    exact exec_move rfl rfl
                  simp only [Act.put, List.setIfInBounds_toArray, List.set_cons_zero, List.set_cons_succ]
                  refine wpAnyH_take (i := 3) (oi := { dst := some 105, op := _, type := _, pos := _, after := _, guard := _ }) (v := .pointer (some ⟨G, 0, none⟩)) rfl (by kernel_rfl) (by kernel_rfl) (by kernel_rfl) (fun _ _ _ h => h) (Or.inl ⟨by rfl, ?_⟩) (by assumption) ?_
                  · intro w9 hSw
                    exact exec_nil rfl rfl
                  simp only [Act.put, List.setIfInBounds_toArray, List.set_cons_zero, List.set_cons_succ]
                  refine wpAnyH_take (i := 4) (oi := { dst := some 106, op := _, type := _, pos := _, after := _, guard := _ }) (v := .pointer (some ⟨G, 0, none⟩)) rfl (by kernel_rfl) (by kernel_rfl) (by kernel_rfl) (fun _ _ _ h => h) (Or.inl ⟨by rfl, ?_⟩) (by assumption) ?_
                  · intro w9 hSw
                    exact exec_fieldR rfl rfl
                  simp only [Act.put, List.setIfInBounds_toArray, List.set_cons_zero, List.set_cons_succ]
                  refine wpAnyH_take (i := 5) (oi := { dst := some 107, op := _, type := _, pos := _, after := _, guard := _ }) (v := .slice aR (L.filter fun i => !gone v (wq (oddb x)) i).length cR) rfl (by kernel_rfl) (by kernel_rfl) (by kernel_rfl) (fun _ _ _ h => h) (Or.inl ⟨by rfl, ?_⟩) (by assumption) ?_
                  · intro w9 hSw
                    exact exec_load (ad := ⟨G, 0, none⟩) rfl rfl (load_rl hSw)
                  simp only [Act.put, List.setIfInBounds_toArray, List.set_cons_zero, List.set_cons_succ]
                  refine wpAnyH_take (i := 6) (oi := { dst := some 108, op := _, type := _, pos := _, after := _, guard := _ }) (v := .int .i64 ((L.filter fun i => !gone v (wq (oddb x)) i).length : Int)) rfl (by kernel_rfl) (by kernel_rfl) (by kernel_rfl) (fun _ _ _ h => h) (Or.inl ⟨by rfl, ?_⟩) (by assumption) ?_
                  · intro w9 hSw
                    exact exec_lensl rfl rfl
                  simp only [Act.put, List.setIfInBounds_toArray, List.set_cons_zero, List.set_cons_succ]
                  clear hHeld
                  refine wpAnyH_ready (rs := [1]) (by kernel_rfl) (by simp) ?_
                  refine AllReadyH.cons (o := { dst := some 103, op := _, type := _, pos := _, after := _, guard := _ }) rfl (fun K hK => ?_) AllReadyH.nil
                  rw [if_pos (by rfl)]
                  refine wp_callL (xs := [.tmp 102]) (vs := [.pointer (some ⟨g, 0, none⟩)]) rfl rfl (enters_len _ _) (len_any _ _ _ w7.drew hM7.drew.a.bg) ?_
                  rintro e wx ⟨rfl, hwx⟩
                  obtain rfl := hwx.symm
                  clear hwx
                  refine ⟨_, rfl, ?_⟩
                  refine hK.out _ _ hc27 (fun hHeld => ?_)
                  clear hK K
                  simp only [Act.put, List.setIfInBounds_toArray, List.set_cons_zero, List.set_cons_succ]
                  refine wpAnyH_take (i := 7) (oi := { dst := some 109, op := _, type := _, pos := _, after := _, guard := _ }) (v := .bool false) rfl (by kernel_rfl) (by kernel_rfl) (by kernel_rfl) (fun _ _ _ h => h) (Or.inl ⟨by rfl, ?_⟩) (by assumption) ?_
                  · intro w9 hSw
                    exact exec_neq rfl rfl rfl (bne_self_eq_false _)
                  simp only [Act.put, List.setIfInBounds_toArray, List.set_cons_zero, List.set_cons_succ]
                  refine wpAnyH_done (by kernel_rfl) ?_ _
                  refine NoPanic.normal ?_
                  clear hHeld
                  have hM8 := hM7.drew
                  have hb8 := hb7.drew
                  clear hM7 hb7 hc27
                  generalize w7.drew = w8 at *
                  go_wp2
                  go_roundw
                  case rel => exact ⟨k + 1, m, _, (L.filter fun i => !gone v (wq (oddb x)) i), by omega, by go_num, hM8, by omega, hb8⟩
                  case measure => simp [intOf]; omega
                · have hM7 := hM
                  have hb7 := hb
                  clear hM hb hC
                  generalize hW7 : W = w7 at *
                  clear hW7
                  go_wp2_with fail
                  clear c0 c1 c2 c3
                  obtain ⟨aR, cR, hvR, -, -⟩ := hM7.b.row.val
                  subst hvR
                  have hc27 := hM7.drew.b.c0
                  refine wp_region_noPanic ?_
                  refine wp_region_held_drew (S := fun W' : World => W'.cell? ⟨G, 0, none⟩ = some (.slice aR (L).length cR)) (by kernel_rfl) hc27 (fun hHeld => ?_)
                  refine wpAnyH_take (i := 0) (oi := { dst := some 102, op := _, type := _, pos := _, after := _, guard := _ }) (v := .pointer (some ⟨g, 0, none⟩)) rfl (by kernel_rfl) (by kernel_rfl) (by kernel_rfl) (fun _ _ _ h => h) (Or.inl ⟨by rfl, ?_⟩) (by assumption) ?_
                  · intro w9 hSw
                    exact exec_move rfl rfl
                  simp only [Act.put, List.setIfInBounds_toArray, List.set_cons_zero, List.set_cons_succ]
                  refine wpAnyH_take (i := 2) (oi := { dst := some 104, op := _, type := _, pos := _, after := _, guard := _ }) (v := .pointer (some ⟨G, 0, none⟩)) rfl (by kernel_rfl) (by kernel_rfl) (by kernel_rfl) (fun _ _ _ h => h) (Or.inl ⟨by rfl, ?_⟩) (by assumption) ?_
                  · intro w9 hSw
                    exact exec_move rfl rfl
                  simp only [Act.put, List.setIfInBounds_toArray, List.set_cons_zero, List.set_cons_succ]
                  refine wpAnyH_take (i := 3) (oi := { dst := some 105, op := _, type := _, pos := _, after := _, guard := _ }) (v := .pointer (some ⟨G, 0, none⟩)) rfl (by kernel_rfl) (by kernel_rfl) (by kernel_rfl) (fun _ _ _ h => h) (Or.inl ⟨by rfl, ?_⟩) (by assumption) ?_
                  · intro w9 hSw
                    exact exec_nil rfl rfl
                  simp only [Act.put, List.setIfInBounds_toArray, List.set_cons_zero, List.set_cons_succ]
                  refine wpAnyH_take (i := 4) (oi := { dst := some 106, op := _, type := _, pos := _, after := _, guard := _ }) (v := .pointer (some ⟨G, 0, none⟩)) rfl (by kernel_rfl) (by kernel_rfl) (by kernel_rfl) (fun _ _ _ h => h) (Or.inl ⟨by rfl, ?_⟩) (by assumption) ?_
                  · intro w9 hSw
                    exact exec_fieldR rfl rfl
                  simp only [Act.put, List.setIfInBounds_toArray, List.set_cons_zero, List.set_cons_succ]
                  refine wpAnyH_take (i := 5) (oi := { dst := some 107, op := _, type := _, pos := _, after := _, guard := _ }) (v := .slice aR (L).length cR) rfl (by kernel_rfl) (by kernel_rfl) (by kernel_rfl) (fun _ _ _ h => h) (Or.inl ⟨by rfl, ?_⟩) (by assumption) ?_
                  · intro w9 hSw
                    exact exec_load (ad := ⟨G, 0, none⟩) rfl rfl (load_rl hSw)
                  simp only [Act.put, List.setIfInBounds_toArray, List.set_cons_zero, List.set_cons_succ]
                  refine wpAnyH_take (i := 6) (oi := { dst := some 108, op := _, type := _, pos := _, after := _, guard := _ }) (v := .int .i64 ((L).length : Int)) rfl (by kernel_rfl) (by kernel_rfl) (by kernel_rfl) (fun _ _ _ h => h) (Or.inl ⟨by rfl, ?_⟩) (by assumption) ?_
                  · intro w9 hSw
                    exact exec_lensl rfl rfl
                  simp only [Act.put, List.setIfInBounds_toArray, List.set_cons_zero, List.set_cons_succ]
                  clear hHeld
                  refine wpAnyH_ready (rs := [1]) (by kernel_rfl) (by simp) ?_
                  refine AllReadyH.cons (o := { dst := some 103, op := _, type := _, pos := _, after := _, guard := _ }) rfl (fun K hK => ?_) AllReadyH.nil
                  rw [if_pos (by rfl)]
                  refine wp_callL (xs := [.tmp 102]) (vs := [.pointer (some ⟨g, 0, none⟩)]) rfl rfl (enters_len _ _) (len_any _ _ _ w7.drew hM7.drew.a.bg) ?_
                  rintro e wx ⟨rfl, hwx⟩
                  obtain rfl := hwx.symm
                  clear hwx
                  refine ⟨_, rfl, ?_⟩
                  refine hK.out _ _ hc27 (fun hHeld => ?_)
                  clear hK K
                  simp only [Act.put, List.setIfInBounds_toArray, List.set_cons_zero, List.set_cons_succ]
                  refine wpAnyH_take (i := 7) (oi := { dst := some 109, op := _, type := _, pos := _, after := _, guard := _ }) (v := .bool false) rfl (by kernel_rfl) (by kernel_rfl) (by kernel_rfl) (fun _ _ _ h => h) (Or.inl ⟨by rfl, ?_⟩) (by assumption) ?_
                  · intro w9 hSw
                    exact exec_neq rfl rfl rfl (bne_self_eq_false _)
                  simp only [Act.put, List.setIfInBounds_toArray, List.set_cons_zero, List.set_cons_succ]
                  refine wpAnyH_done (by kernel_rfl) ?_ _
                  refine NoPanic.normal ?_
                  clear hHeld
                  have hM8 := hM7.drew
                  have hb8 := hb7.drew
                  clear hM7 hb7 hc27
                  generalize w7.drew = w8 at *
                  go_wp2
                  go_roundw
                  case rel => exact ⟨k + 1, m, _, (L), by omega, by go_num, hM8, by omega, hb8⟩
                  case measure => simp [intOf]; omega
        · have hlt' : ¬ (k : Int) < (len : Int) := by omega
          have hc30 : wr.drew.cell? ⟨G, 0, none⟩ = some vR := hT.drew.b.c0
          have hBd := hT.drew
          have hbd := hb2.drew
          clear hT hb2 hO1
          go_wp2_with fail
          refine wp_region_noPanic ?_
          refine wp_region_held_drew (S := fun W' : World => W'.cell? ⟨G, 0, none⟩ = some vR) (by kernel_rfl) hc30 (fun hHeld => ?_)
          refine wpAnyH_take (i := 0) (oi := { dst := some 111, op := _, type := _, pos := _, after := _, guard := _ }) (v := .pointer (some ⟨g, 0, none⟩)) rfl (by kernel_rfl) (by kernel_rfl) (by kernel_rfl) (fun _ _ _ h => h) (Or.inl ⟨by rfl, ?_⟩) (by assumption) ?_
          · intro w9 hSw
            exact exec_move rfl rfl
          simp only [Act.put, List.setIfInBounds_toArray, List.set_cons_zero, List.set_cons_succ]
          refine wpAnyH_take (i := 2) (oi := { dst := some 113, op := _, type := _, pos := _, after := _, guard := _ }) (v := .pointer (some ⟨G, 0, none⟩)) rfl (by kernel_rfl) (by kernel_rfl) (by kernel_rfl) (fun _ _ _ h => h) (Or.inl ⟨by rfl, ?_⟩) (by assumption) ?_
          · intro w9 hSw
            exact exec_move rfl rfl
          simp only [Act.put, List.setIfInBounds_toArray, List.set_cons_zero, List.set_cons_succ]
          refine wpAnyH_take (i := 3) (oi := { dst := some 114, op := _, type := _, pos := _, after := _, guard := _ }) (v := .pointer (some ⟨G, 0, none⟩)) rfl (by kernel_rfl) (by kernel_rfl) (by kernel_rfl) (fun _ _ _ h => h) (Or.inl ⟨by rfl, ?_⟩) (by assumption) ?_
          · intro w9 hSw
            exact exec_nil rfl rfl
          simp only [Act.put, List.setIfInBounds_toArray, List.set_cons_zero, List.set_cons_succ]
          refine wpAnyH_take (i := 4) (oi := { dst := some 115, op := _, type := _, pos := _, after := _, guard := _ }) (v := .pointer (some ⟨G, 0, none⟩)) rfl (by kernel_rfl) (by kernel_rfl) (by kernel_rfl) (fun _ _ _ h => h) (Or.inl ⟨by rfl, ?_⟩) (by assumption) ?_
          · intro w9 hSw
            exact exec_fieldR rfl rfl
          simp only [Act.put, List.setIfInBounds_toArray, List.set_cons_zero, List.set_cons_succ]
          refine wpAnyH_take (i := 5) (oi := { dst := some 116, op := _, type := _, pos := _, after := _, guard := _ }) (v := vR) rfl (by kernel_rfl) (by kernel_rfl) (by kernel_rfl) (fun _ _ _ h => h) (Or.inl ⟨by rfl, ?_⟩) (by assumption) ?_
          · intro w9 hSw
            exact exec_load (ad := ⟨G, 0, none⟩) rfl rfl (load_rl hSw)
          simp only [Act.put, List.setIfInBounds_toArray, List.set_cons_zero, List.set_cons_succ]
          clear hHeld
          refine wpAnyH_ready (rs := [1]) (by kernel_rfl) (by simp) ?_
          refine AllReadyH.cons (o := { dst := some 112, op := _, type := _, pos := _, after := _, guard := _ }) rfl (fun K hK => ?_) AllReadyH.nil
          rw [if_pos (by rfl)]
          refine wp_callL (xs := [.tmp 111]) (vs := [.pointer (some ⟨g, 0, none⟩)]) rfl rfl (enters_items _ _) (items_any _ _ _ _ hBd.a.bg (by omega)) ?_
          rintro e w12 ⟨vX, rfl, hX, hbX⟩
          refine ⟨_, rfl, ?_⟩
          have hB12 := hBd.below hbX (Nat.le_refl _)
          have hb12 := hbd.trans (hbX.mono hbd.size)
          refine hK.out _ _ hB12.b.c0 (fun hHeld => ?_)
          clear hK K
          simp only [Act.put, List.setIfInBounds_toArray, List.set_cons_zero, List.set_cons_succ]
          refine wpAnyH_ready (rs := [6]) (by kernel_rfl) (by simp) ?_
          refine AllReadyH.cons (o := { dst := some 117, op := _, type := _, pos := _, after := _, guard := _ }) rfl (fun K hK => ?_) AllReadyH.nil
          rw [if_pos (by rfl)]
          refine wp_callL (xs := [.tmp 112, .tmp 116]) (vs := [vX, vR]) rfl rfl (enters_same _ _) (same_any _ _ _ _ _ w12 hX hB12.b.row) ?_
          rintro e w13 ⟨rfl, hb13'⟩
          refine ⟨_, rfl, ?_⟩
          have hb13 := hb12.trans (hb13'.mono hb12.size)
          have hB13 := hB12.below hb13' (Nat.le_refl _)
          refine hK.out _ _ hB13.b.c0 (fun hHeld => ?_)
          clear hK K
          simp only [Act.put, List.setIfInBounds_toArray, List.set_cons_zero, List.set_cons_succ]
          refine wpAnyH_take (i := 7) (oi := { dst := some 4, op := _, type := _, pos := _, after := _, guard := _ }) (v := .bool true) rfl (by kernel_rfl) (by kernel_rfl) (by kernel_rfl) (fun _ _ _ h => h) (Or.inl ⟨by rfl, ?_⟩) (by assumption) ?_
          · intro w9 hSw
            exact exec_assign rfl rfl
          simp only [Act.put, List.setIfInBounds_toArray, List.set_cons_zero, List.set_cons_succ]
          refine wpAnyH_done (by kernel_rfl) ?_ _
          refine NoPanic.normal ?_
          clear hHeld
          have hfin := hbw1.trans (hb13.mono hbw1.size)
          clear hB13 hb13 hb13' hB12 hb12 hX hbX
          go_wp2
          go_ret
          exact ⟨rfl, hfin⟩
end Go.Proofs.Yteihijejohgfpaa
