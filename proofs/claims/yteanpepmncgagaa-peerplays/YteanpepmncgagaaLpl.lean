/-
  PeerPlays, the walk.
-/
import Derived.Test.YteanpepmncgagaaPop
namespace Go.Proofs.Yteanpepmncgagaa
set_option maxRecDepth 100000
open Go.RowKit

def LiesP (w : World) (g : Nat) (o : Po) : Prop := w.heap[g]? = some (.cells (pol o).toArray 41 (0, 0))
theorem liesP_lt {w : World} {g : Nat} {o : Po} (h : LiesP w g o) : g < w.heap.size := (Array.getElem?_eq_some_iff.1 h).1
theorem liesP_below {w w' : World} {g : Nat} {o : Po} (h : LiesP w g o) (hb : Below w.heap.size w w') : LiesP w' g o := (hb.block g (liesP_lt h)).trans h
theorem tl_np : (31 : TypeId) ≠ 41 := by decide
theorem tr_np : (29 : TypeId) ≠ 41 := by decide
theorem te_np : (39 : TypeId) ≠ 41 := by decide
theorem liesP_row {t : TypeId} {w : World} {D g : Nat} {o : Po} {v : Value} {E : List Ev} (h : LiesP w D o) (hL : Lp t w g v E) : v.ownBlock ≠ some D := fun e => by
  obtain ⟨cur, hc⟩ := row_block hL.row e
  rw [h] at hc
  injection hc with e1
  injection e1 with _ e2
  exact te_np e2.symm
theorem liesP_turn {t : TypeId} {w w' : World} {D g : Nat} {o : Po} {v : Value} {m' : Option Nat} {E : List Ev} (h : LiesP w D o) (hL : Lp t w g v E) (ht : t ≠ 41) (hT : Tn g v.ownBlock m' w w') : LiesP w' D o :=
  (hT.block D (liesP_lt h) (by
    rintro rfl
    have hc := hL.cell
    rw [h] at hc
    injection hc with e1
    injection e1 with _ e2
    exact ht e2.symm) (liesP_row h hL)).trans h
theorem lde_p {w : World} {g : Nat} {o : Po} (h : LiesP w g o) (ho : WidePo o) : (loadVar 39 ⟨g, 1, none⟩).run Try.prog w = .ok (.agg (evc o.e)) w := by have := (IsPo.row ho h).lde; rwa [Nat.zero_add] at this
theorem ldv_p {w : World} {g : Nat} {o : Po} (h : LiesP w g o) (ho : WidePo o) : (loadVar 35 ⟨g, 27, none⟩).run Try.prog w = .ok (.agg (vals o.v)) w := by have := (IsPo.row ho h).ldv; rwa [Nat.zero_add] at this
theorem ldw_p {w : World} {g : Nat} {o : Po} (h : LiesP w g o) (ho : WidePo o) : (loadVar 35 ⟨g, 43, none⟩).run Try.prog w = .ok (.agg (vals o.w)) w := by have := (IsPo.row ho h).ldw; rwa [Nat.zero_add] at this
theorem ldn_p {w : World} {g : Nat} {o : Po} (h : LiesP w g o) (ho : WidePo o) : (loadVar 3 ⟨g, 59, none⟩).run Try.prog w = .ok (.int .i64 o.n) w := by
  have hc := (IsPo.row ho h).num
  rw [Nat.zero_add] at hc
  have h3 : Try.prog.underlying 3 = some (.int .i64) := by kernel_rfl
  go_simp
theorem neq_int_same (w : World) (a : Int) : (binOp .neq 3 (.int .i64 a) (.int .i64 a)).run Try.prog w = .ok (.bool false) w := by
  simp [binOp, Op.intCmp]
set_option maxHeartbeats 1000000 in
theorem lplays_far_false (a : Option Addr) (len cap : Nat) (w : World) (hl : 200 < len) : Calls Try.prog 3 #[.slice a len cap, .bool false] w fun e w' => e = .returned (.bool true) ∧ Below w.heap.size w w' := by
  have hA := pawake_any w
  go_enter Try.func3, Try.ntmps3
  go_wp2_with fail
  refine Calls.mono hA ?_
  rintro e w1 ⟨rfl, hb1⟩
  have hA2 := pawake_any w1
  have HB1 : Hid (Below w.heap.size w w1) := hb1
  clear hb1 hA
  go_wp2_with fail
  refine Calls.mono hA2 ?_
  rintro e w3 ⟨rfl, hb3⟩
  have HB3 : Hid (Below w.heap.size w w3) := HB1.out.trans (hb3.mono HB1.out.size)
  clear hb3 hA2
  go_wp2
  go_ret
  exact ⟨rfl, HB3.out⟩
set_option maxHeartbeats 1000000 in
theorem lplays_far_true (a : Option Addr) (len cap : Nat) (w : World) (hl : 200 < len) : Calls Try.prog 3 #[.slice a len cap, .bool true] w fun e w' => e = .returned (.bool true) ∧ Below w.heap.size w w' := by
  have hA := pawake_any w
  go_enter Try.func3, Try.ntmps3
  go_wp2_with fail
  refine Calls.mono hA ?_
  rintro e w1 ⟨rfl, hb1⟩
  have hA2 := pawake_any w1
  have HB1 : Hid (Below w.heap.size w w1) := hb1
  clear hb1 hA
  go_wp2_with fail
  refine Calls.mono hA2 ?_
  rintro e w3 ⟨rfl, hb3⟩
  have HB3 : Hid (Below w.heap.size w w3) := HB1.out.trans (hb3.mono HB1.out.size)
  clear hb3 hA2
  go_wp2
  go_ret
  exact ⟨rfl, HB3.out⟩
set_option maxHeartbeats 16000000 in
theorem lplays_false (a : Option Addr) (len cap : Nat) (O : Nat → Po) (w : World) (hO : Pops w a len O) (hl : ¬ 200 < len) : Calls Try.prog 3 #[.slice a len cap, .bool false] w fun e w' => e = .returned (.bool true) ∧ Below w.heap.size w w' := by
  have hd : decide ((200 : Int) < (len : Int)) = false := decide_eq_false (by omega)
  have hAw := pawake_any w
  go_enter Try.func3, Try.ntmps3
  go_wp2_with fail
  refine Calls.mono hAw ?_
  rintro e w1 ⟨rfl, hb1⟩
  have hB1 : Below w.heap.size w w1 := hb1
  clear hb1 hAw
  have hN1 := pnew_any w1
  have hP1 := lw_new (F := w.heap.size) w1 31 hB1.size
  have hb2 : Below w1.heap.size w1 (w1.alloc (.cells #[.slice none 0 0] 31)) := (Below.refl _ w1).alloc (Nat.le_refl _) _
  have hgl : w1.heap.size < (w1.alloc (.cells #[.slice none 0 0] 31)).heap.size := by simp
  have hB2 := hB1.trans (hb2.mono hB1.size)
  obtain ⟨g, hg⟩ : ∃ g, w1.heap.size = g := ⟨_, rfl⟩
  generalize hW2 : w1.alloc (.cells #[.slice none 0 0] 31) = w2 at *
  have hR2 := lw_new (F := w.heap.size) w2 29 hB2.size
  have hb3 : Below w2.heap.size w2 (w2.alloc (.cells #[.slice none 0 0] 29)) := (Below.refl _ w2).alloc (Nat.le_refl _) _
  have hql : w2.heap.size < (w2.alloc (.cells #[.slice none 0 0] 29)).heap.size := by simp
  have hB3 := hB2.trans (hb3.mono hB2.size)
  have hP2 := hP1.below hb3
  obtain ⟨q, hq⟩ : ∃ q, w2.heap.size = q := ⟨_, rfl⟩
  generalize hW3 : w2.alloc (.cells #[.slice none 0 0] 29) = w3 at *
  rw [hg] at hP2 hN1
  rw [hq] at hR2
  have hAp : Ap g q (.slice none 0 0) (.slice none 0 0) := ⟨by omega, fun k hk => by cases hk⟩
  have he := fun W ad => eql_lp W ad
  go_wp2_with fail
  refine Calls.mono hN1 ?_
  rintro e wx ⟨rfl, hw⟩
  obtain rfl := hw.symm
  clear hw hN1
  go_wp2_with fail
  have hPx := hP2
  have hRx := hR2
  have hAx := hAp
  have hBx := hB3
  clear he hW2 hW3
  clear hg hgl hP1 hb2 hB1 hB2 hb3 hql hq hP2 hR2 hAp hB3
  go_loopw [27] (fun i wr => ∃ (k : Nat) (lv rv : Value) (L : List Ev), k ≤ len ∧ i = .int .i64 (k : Int) ∧ L.length ≤ k ∧ Lw 31 w.heap.size wr g lv L ∧ Lw 29 w.heap.size wr q rv L ∧ Ap g q lv rv ∧ Below w.heap.size w wr) (fun i _ => len - (intOf i).toNat)
  case atStart => exact ⟨0, _, _, [], Nat.zero_le _, rfl, Nat.zero_le _, hPx, hRx, hAx, hBx⟩
  case round =>
    clear hPx hRx hAx hBx
    obtain ⟨k, lv, rv, L, hk, rfl, hLk, hP, hR, hAp, hBw⟩ := hrel
    by_cases hkl : k < len
    · obtain ⟨b, off, rfl, hbF, hOA⟩ := hO.resolve_left (by omega)
      have hIs : IsPo wr b (off + k * 60) (O k) := (hOA k hkl).same (hBw.block b hbF)
      have hix := fun W : World => index_pop W (b := b) (off := off) (k := k) (m := len) (c := cap) hkl
      obtain ⟨o, hoe⟩ : ∃ o, O k = o := ⟨_, rfl⟩
      rw [hoe] at hIs
      have ho := hIs.wide
      have hldo : (loadVar 41 ⟨b, off + k * 60, none⟩).run Try.prog (wr.alloc (.cells (pol zp).toArray 41)) = .ok (.agg (pol o).toArray) (wr.alloc (.cells (pol zp).toArray 41)) :=
        run_loadVar_mid _ b _ 41 _ _ (range_below hIs.all ((Below.refl _ wr).alloc (Nat.le_refl _) _) hIs.lt) Try.underlying41 rfl (by have := size60 ho; rwa [List.size_toArray] at this)
      have hldo0 : (loadVar 41 ⟨b, off + k * 60, none⟩).run Try.prog wr = .ok (.agg (pol o).toArray) wr :=
        run_loadVar_mid _ b _ 41 _ _ hIs.all Try.underlying41 rfl (by have := size60 ho; rwa [List.size_toArray] at this)
      have hz : (wr.alloc (.cells (pol zp).toArray 41)).heap[wr.heap.size]? = some (.cells (pol zp).toArray 41 (0, 0)) := heap_alloc_new wr _
      have hst := run_storeVar_row (P := Try.prog) _ wr.heap.size 41 41 _ (pol o).toArray hz (size60 ho) (by rw [List.size_toArray, List.size_toArray, pol_length ho, pol_length zp_wide]) (pol_one o)
      have hD : LiesP ((wr.alloc (.cells (pol zp).toArray 41)).setRow wr.heap.size (pol o).toArray) wr.heap.size o := setRow_heap _ _ _ _ _ _ hz
      have hb1 : Below wr.heap.size wr ((wr.alloc (.cells (pol zp).toArray 41)).setRow wr.heap.size (pol o).toArray) := below_setRow ((Below.refl _ wr).alloc (Nat.le_refl _) _) (Nat.le_refl _) _
      rw [zp_pol] at hst hldo
      have hP1 := hP.below hb1
      have hR1 := hR.below hb1
      have hB1 := hBw.trans (hb1.mono hBw.size)
      generalize hW1 : (wr.alloc (.cells (pol zp).toArray 41)).setRow wr.heap.size (pol o).toArray = W1 at *
      rw [zp_pol] at hW1
      rw [hW1] at hst
      obtain ⟨D, hDe⟩ : ∃ D, wr.heap.size = D := ⟨_, rfl⟩
      rw [hDe] at hst hD
      go_upto_region 12 with (first
        | (refine wpList_loadR (ty := 41) (x := .tmp 32) (ad := ⟨b, off + k * 60, none⟩) (v := .agg (pol o).toArray) rfl rfl rfl (by first | exact hldo0 | exact hldo) ?_)
        | (refine wpList_storeR (ty := 41) (x := .tmp 8) (y := .tmp 33) (ad := ⟨D, 0, none⟩) (v := .agg (pol o).toArray) (w' := W1) rfl rfl rfl rfl hst ?_))
      clear hst hldo hldo0 hz hb1 hW1 hIs hOA hDe hP hR hBw hix
      have hkc := (IsPo.row ho hD).kind
      by_cases h1 : o.kind = 1
      · rw [h1] at hkc
        have hPa := padd_at g lv L o.e ho.e (by omega) W1 hP1.lp
        have hlde := lde_p hD ho
        have hf1 := field_p1 W1 D
        go_wp2_with (first | refine wpList_loadR (ty := 39) (x := .tmp 39) (ad := ⟨D, 1, none⟩) (v := .agg (evc o.e)) rfl rfl rfl hlde ?_)
        refine Calls.mono hPa ?_
        rintro e w4 ⟨rfl, lv', hL4, hT4⟩
        obtain ⟨hP4, hB4⟩ := hP1.turn hB1.size hL4 hT4
        obtain ⟨hAp4, hR4⟩ := hAp.turn tl_ne tr_ne hP1.lp hR1 hT4
        have hD4 : LiesP w4 D o := liesP_turn hD hP1.lp tl_np hT4
        have hBw4 := hB1.trans hB4
        clear hPa hlde hf1 hL4 hT4 hP1 hR1 hAp hB1 hB4 hkc hD
        obtain ⟨W, hW⟩ : ∃ W, W = w4.drew := ⟨_, rfl⟩
        have hPd : Lw 31 w.heap.size W g lv' (L ++ [o.e]) := by rw [hW]; exact hP4.drew
        have hRd : Lw 29 w.heap.size W q rv L := by rw [hW]; exact hR4.drew
        have hDW : LiesP W D o := by rw [hW]; exact hD4
        have hBd : Below w.heap.size w W := by rw [hW]; exact hBw4.drew
        obtain ⟨a2, n2, c2, wA, wB, wC, hbu, hbA, hLA, hap, hcB, hgB, hst, hLC, hT, hC⟩ := push_log 27 hRd.lp tr_ne ho.e (by omega)
        have hDA := liesP_below hDW hbA
        have hDB : LiesP wB D o := (hgB.block D (liesP_lt hDA) (fun e1 => liesP_row hDA hLA e1.symm)).trans hDA
        have hDC : LiesP wC D o := (hC D (liesP_lt hDB) (by
          rintro rfl
          have hq := hRd.lp.cell
          rw [hDW] at hq
          injection hq with e1
          injection e1 with _ e2
          exact tr_np e2.symm)).trans hDB
        have hcW := hRd.lp.c0
        have hcA := hLA.c0
        obtain ⟨hRC, hBC⟩ := hRd.turn hBd.size hLC hT
        obtain ⟨hApC, hPC⟩ := hAp4.symm.turn tr_ne tl_ne hRd.lp hPd hT
        have HX : Hid (Lw 31 w.heap.size wC g lv' (L ++ [o.e]) ∧ Lw 29 w.heap.size wC q (.slice a2 n2 c2) (L ++ [o.e]) ∧ Ap g q lv' (.slice a2 n2 c2) ∧ Below w.heap.size w wC) := ⟨hPC, hRC, hApC.symm, hBd.trans hBC⟩
        have hll : (L ++ [o.e]).length ≤ k + 1 := by rw [List.length_append]; simp; omega
        clear hP4 hR4 hBw4 hPd hBd hLC hT hRC hBC hApC hPC hAp4
        go_wp2_with fail
        refine wp_region_noPanic ?_
        refine wp_region_held_drew (S := fun W' : World => LiesP W' D o) (by kernel_rfl) (by rw [← hW]; exact hDW) (fun hHeld => ?_)
        rw [← hW] at hHeld ⊢
        refine wpAnyH_take (i := 0) (oi := { dst := some 42, op := _, type := _, pos := _, after := _, guard := _ }) (v := .pointer (some ⟨q, 0, none⟩)) rfl (by kernel_rfl) (by kernel_rfl) (by kernel_rfl) (fun _ _ _ h => h) (Or.inl ⟨by rfl, ?_⟩) (by assumption) ?_
        · intro w9 hSw
          exact y_move rfl rfl
        simp only [Act.put, List.setIfInBounds_toArray, List.set_cons_zero, List.set_cons_succ]
        refine wpAnyH_take (i := 1) (oi := { dst := some 43, op := _, type := _, pos := _, after := _, guard := _ }) (v := .pointer (some ⟨q, 0, none⟩)) rfl (by kernel_rfl) (by kernel_rfl) (by kernel_rfl) (fun _ _ _ h => h) (Or.inl ⟨by rfl, ?_⟩) (by assumption) ?_
        · intro w9 hSw
          exact y_move rfl rfl
        simp only [Act.put, List.setIfInBounds_toArray, List.set_cons_zero, List.set_cons_succ]
        refine wpAnyH_take (i := 2) (oi := { dst := some 44, op := _, type := _, pos := _, after := _, guard := _ }) (v := .pointer (some ⟨q, 0, none⟩)) rfl (by kernel_rfl) (by kernel_rfl) (by kernel_rfl) (fun _ _ _ h => h) (Or.inl ⟨by rfl, ?_⟩) (by assumption) ?_
        · intro w9 hSw
          exact y_nil rfl rfl
        simp only [Act.put, List.setIfInBounds_toArray, List.set_cons_zero, List.set_cons_succ]
        refine wpAnyH_take (i := 3) (oi := { dst := some 45, op := _, type := _, pos := _, after := _, guard := _ }) (v := .pointer (some ⟨q, 0, none⟩)) rfl (by kernel_rfl) (by kernel_rfl) (by kernel_rfl) (fun _ _ _ h => h) (Or.inl ⟨by rfl, ?_⟩) (by assumption) ?_
        · intro w9 hSw
          exact y_field rfl rfl (field_r0 _ _)
        simp only [Act.put, List.setIfInBounds_toArray, List.set_cons_zero, List.set_cons_succ]
        refine wpAnyH_take (i := 5) (oi := { dst := some 47, op := _, type := _, pos := _, after := _, guard := _ }) (v := .pointer (some ⟨D, 1, none⟩)) rfl (by kernel_rfl) (by kernel_rfl) (by kernel_rfl) (fun _ _ _ h => h) (Or.inl ⟨by rfl, ?_⟩) (by assumption) ?_
        · intro w9 hSw
          exact y_field rfl rfl (field_p1 _ _)
        simp only [Act.put, List.setIfInBounds_toArray, List.set_cons_zero, List.set_cons_succ]
        refine wpAnyH_take (i := 6) (oi := { dst := some 48, op := _, type := _, pos := _, after := _, guard := _ }) (v := .agg (evc o.e)) rfl (by kernel_rfl) (by kernel_rfl) (by kernel_rfl) (fun _ _ _ h => h) (Or.inl ⟨by rfl, ?_⟩) (by assumption) ?_
        · intro w9 hSw
          exact y_load rfl rfl (lde_p hSw ho)
        simp only [Act.put, List.setIfInBounds_toArray, List.set_cons_zero, List.set_cons_succ]
        clear hHeld
        refine wpAnyH_ready (rs := [4, 7]) (by kernel_rfl) (by simp) ?_
        refine AllReadyH.cons (o := { dst := some 46, op := _, type := _, pos := _, after := _, guard := _ }) rfl (fun K hK => ?_) ?_
        · rw [if_pos (by rfl)]
          refine y_ldw (ty := 27) (x := .tmp 45) (ad := ⟨q, 0, none⟩) (v := rv) rfl rfl (load_evs hcW) ?_
          refine hK.out _ _ hDW (fun hHeld => ?_)
          clear hK K
          simp only [Act.put, List.setIfInBounds_toArray, List.set_cons_zero, List.set_cons_succ]
          clear hHeld
          refine wpAnyH_ready (rs := [7]) (by kernel_rfl) (by simp) ?_
          refine AllReadyH.cons (o := { dst := some 49, op := _, type := _, pos := _, after := _, guard := _ }) rfl (fun K hK => ?_) AllReadyH.nil
          rw [if_pos (by rfl)]
          refine y_build (ty := 27) (k := 1) (x := .tmp 48) (u := .agg (evc o.e)) (v := .slice (some ⟨W.heap.size, 0, none⟩) 1 1) (w' := wA) rfl rfl hbu ?_
          refine hK.out _ _ hDA (fun hHeld => ?_)
          clear hK K
          simp only [Act.put, List.setIfInBounds_toArray, List.set_cons_zero, List.set_cons_succ]
          clear hHeld
          refine wpAnyH_ready (rs := [8]) (by kernel_rfl) (by simp) ?_
          refine AllReadyH.cons (o := { dst := some 50, op := _, type := _, pos := _, after := _, guard := _ }) rfl (fun K hK => ?_) AllReadyH.nil
          rw [if_pos (by rfl)]
          refine y_app (x := .tmp 46) (y := .tmp 49) (v := rv) (q := .slice (some ⟨W.heap.size, 0, none⟩) 1 1) (z := .slice a2 n2 c2) (w' := wB) rfl rfl rfl hap ?_
          refine hK.out _ _ hDB (fun hHeld => ?_)
          clear hK K
          simp only [Act.put, List.setIfInBounds_toArray, List.set_cons_zero, List.set_cons_succ]
          refine wpAnyH_take (i := 9) (oi := { dst := some 51, op := _, type := _, pos := _, after := _, guard := _ }) (v := .pointer (some ⟨q, 0, none⟩)) rfl (by kernel_rfl) (by kernel_rfl) (by kernel_rfl) (fun _ _ _ h => h) (Or.inl ⟨by rfl, ?_⟩) (by assumption) ?_
          · intro w9 hSw
            exact y_nil rfl rfl
          simp only [Act.put, List.setIfInBounds_toArray, List.set_cons_zero, List.set_cons_succ]
          refine wpAnyH_take (i := 10) (oi := { dst := some 52, op := _, type := _, pos := _, after := _, guard := _ }) (v := .pointer (some ⟨q, 0, none⟩)) rfl (by kernel_rfl) (by kernel_rfl) (by kernel_rfl) (fun _ _ _ h => h) (Or.inl ⟨by rfl, ?_⟩) (by assumption) ?_
          · intro w9 hSw
            exact y_field rfl rfl (field_r0 _ _)
          simp only [Act.put, List.setIfInBounds_toArray, List.set_cons_zero, List.set_cons_succ]
          clear hHeld
          refine wpAnyH_ready (rs := [11]) (by kernel_rfl) (by simp) ?_
          refine AllReadyH.cons (o := { dst := none, op := _, type := _, pos := _, after := _, guard := _ }) rfl (fun K hK => ?_) AllReadyH.nil
          rw [if_pos (by rfl)]
          refine y_store (ty := 27) (x := .tmp 52) (y := .tmp 50) (ad := ⟨q, 0, none⟩) (v := .slice a2 n2 c2) (w' := wC) rfl rfl rfl hst ?_
          refine hK.out _ _ hDC (fun hHeld => ?_)
          clear hK K
          simp only [Act.put]
          clear hHeld
          have hHeld := hDC
          refine wpAnyH_done (by kernel_rfl) ?_ _
          refine NoPanic.normal ?_
          clear hHeld
          obtain ⟨hP, hR, hAp, hBw⟩ := HX.out
          clear HX hLA hbA hgB hC hcA hcW hcB hDA hDB hDC hst hbu hap hW hRd hDW
          obtain ⟨Wt, hWt⟩ : ∃ Wt, Wt = wC.drew := ⟨_, rfl⟩
          have hP : Lw 31 w.heap.size Wt g lv' (L ++ [o.e]) := by rw [hWt]; exact hP.drew
          have hR : Lw 29 w.heap.size Wt q (.slice a2 n2 c2) (L ++ [o.e]) := by rw [hWt]; exact hR.drew
          have hBw : Below w.heap.size w Wt := by rw [hWt]; exact hBw.drew
          obtain ⟨ar, cr, hrv, -⟩ := hR.lp.val
          have hcq := hR.lp.c0
          rw [hrv] at hcq
          clear hrv
          have hLen := plen_any _ _ Wt hP.lp.lp
          obtain ⟨nr, hnr⟩ : ∃ nr, ((L ++ [o.e])).length = nr := ⟨_, rfl⟩
          rw [hnr] at hLen hcq
          go_wp2_with fail
          refine wp_region_noPanic ?_
          refine wp_region_held_drew (S := fun W' : World => W'.cell? ⟨q, 0, none⟩ = some (.slice ar nr cr)) (by kernel_rfl) (by rw [← hWt]; exact hcq) (fun hHeld => ?_)
          rw [← hWt] at hHeld ⊢
          refine wpAnyH_take (i := 0) (oi := { dst := some 84, op := _, type := _, pos := _, after := _, guard := _ }) (v := .pointer (some ⟨g, 0, none⟩)) rfl (by kernel_rfl) (by kernel_rfl) (by kernel_rfl) (fun _ _ _ h => h) (Or.inl ⟨by rfl, ?_⟩) (by assumption) ?_
          · intro w9 hSw
            exact y_move rfl rfl
          simp only [Act.put, List.setIfInBounds_toArray, List.set_cons_zero, List.set_cons_succ]
          refine wpAnyH_take (i := 2) (oi := { dst := some 86, op := _, type := _, pos := _, after := _, guard := _ }) (v := .pointer (some ⟨q, 0, none⟩)) rfl (by kernel_rfl) (by kernel_rfl) (by kernel_rfl) (fun _ _ _ h => h) (Or.inl ⟨by rfl, ?_⟩) (by assumption) ?_
          · intro w9 hSw
            exact y_move rfl rfl
          simp only [Act.put, List.setIfInBounds_toArray, List.set_cons_zero, List.set_cons_succ]
          refine wpAnyH_take (i := 3) (oi := { dst := some 87, op := _, type := _, pos := _, after := _, guard := _ }) (v := .pointer (some ⟨q, 0, none⟩)) rfl (by kernel_rfl) (by kernel_rfl) (by kernel_rfl) (fun _ _ _ h => h) (Or.inl ⟨by rfl, ?_⟩) (by assumption) ?_
          · intro w9 hSw
            exact y_nil rfl rfl
          simp only [Act.put, List.setIfInBounds_toArray, List.set_cons_zero, List.set_cons_succ]
          refine wpAnyH_take (i := 4) (oi := { dst := some 88, op := _, type := _, pos := _, after := _, guard := _ }) (v := .pointer (some ⟨q, 0, none⟩)) rfl (by kernel_rfl) (by kernel_rfl) (by kernel_rfl) (fun _ _ _ h => h) (Or.inl ⟨by rfl, ?_⟩) (by assumption) ?_
          · intro w9 hSw
            exact y_field rfl rfl (field_r0 _ _)
          simp only [Act.put, List.setIfInBounds_toArray, List.set_cons_zero, List.set_cons_succ]
          refine wpAnyH_take (i := 5) (oi := { dst := some 89, op := _, type := _, pos := _, after := _, guard := _ }) (v := .slice ar nr cr) rfl (by kernel_rfl) (by kernel_rfl) (by kernel_rfl) (fun _ _ _ h => h) (Or.inl ⟨by rfl, ?_⟩) (by assumption) ?_
          · intro w9 hSw
            exact y_load rfl rfl (load_evs hSw)
          simp only [Act.put, List.setIfInBounds_toArray, List.set_cons_zero, List.set_cons_succ]
          refine wpAnyH_take (i := 6) (oi := { dst := some 90, op := _, type := _, pos := _, after := _, guard := _ }) (v := .int .i64 (nr : Int)) rfl (by kernel_rfl) (by kernel_rfl) (by kernel_rfl) (fun _ _ _ h => h) (Or.inl ⟨by rfl, ?_⟩) (by assumption) ?_
          · intro w9 hSw
            exact y_len rfl rfl
          simp only [Act.put, List.setIfInBounds_toArray, List.set_cons_zero, List.set_cons_succ]
          clear hHeld
          refine wpAnyH_ready (rs := [1]) (by kernel_rfl) (by simp) ?_
          refine AllReadyH.cons (o := { dst := some 85, op := _, type := _, pos := _, after := _, guard := _ }) rfl (fun K hK => ?_) AllReadyH.nil
          rw [if_pos (by rfl)]
          refine y_call (f := 17) (xs := [.tmp 84]) (vs := [.pointer (some ⟨g, 0, none⟩)]) rfl rfl (enters_plen _ _) hLen ?_
          rintro ex wz ⟨rfl, hbz⟩
          refine ⟨_, rfl, ?_⟩
          have hcqz : wz.cell? ⟨q, 0, none⟩ = some (.slice ar nr cr) := (hbz.cell (World.block_lt_of_cell? _ _ hcq)).trans hcq
          refine hK.out _ _ hcqz (fun hHeld => ?_)
          clear hK K
          simp only [Act.put, List.setIfInBounds_toArray, List.set_cons_zero, List.set_cons_succ]
          refine wpAnyH_take (i := 7) (oi := { dst := some 91, op := _, type := _, pos := _, after := _, guard := _ }) (v := .bool false) rfl (by kernel_rfl) (by kernel_rfl) (by kernel_rfl) (fun _ _ _ h => h) (Or.inl ⟨by rfl, ?_⟩) (by assumption) ?_
          · intro w9 hSw
            exact y_bin rfl rfl rfl (eqGuard_int _) (neq_int_same _ _)
          simp only [Act.put, List.setIfInBounds_toArray, List.set_cons_zero, List.set_cons_succ]
          refine wpAnyH_done (by kernel_rfl) ?_ _
          refine NoPanic.normal ?_
          clear hHeld
          have HALL : Hid (Lw 31 w.heap.size wz g lv' (L ++ [o.e]) ∧ Lw 29 w.heap.size wz q (.slice a2 n2 c2) (L ++ [o.e]) ∧ Ap g q lv' (.slice a2 n2 c2) ∧ Below w.heap.size w wz) := ⟨hP.below hbz, hR.below hbz, hAp, hBw.trans (hbz.mono hBw.size)⟩
          clear hP hR hBw hcq hcqz hLen hbz hAp hWt
          go_wp2
          go_roundw
          case rel => exact ⟨k + 1, lv', (.slice a2 n2 c2), (L ++ [o.e]), by omega, by go_num, by omega, HALL.out⟩
          case measure => simp [intOf]; omega
        refine AllReadyH.cons (o := { dst := some 49, op := _, type := _, pos := _, after := _, guard := _ }) rfl (fun K hK => ?_) AllReadyH.nil
        rw [if_pos (by rfl)]
        refine y_build (ty := 27) (k := 1) (x := .tmp 48) (u := .agg (evc o.e)) (v := .slice (some ⟨W.heap.size, 0, none⟩) 1 1) (w' := wA) rfl rfl hbu ?_
        refine hK.out _ _ hDA (fun hHeld => ?_)
        clear hK K
        simp only [Act.put, List.setIfInBounds_toArray, List.set_cons_zero, List.set_cons_succ]
        clear hHeld
        refine wpAnyH_ready (rs := [4]) (by kernel_rfl) (by simp) ?_
        refine AllReadyH.cons (o := { dst := some 46, op := _, type := _, pos := _, after := _, guard := _ }) rfl (fun K hK => ?_) AllReadyH.nil
        rw [if_pos (by rfl)]
        refine y_ldw (ty := 27) (x := .tmp 45) (ad := ⟨q, 0, none⟩) (v := rv) rfl rfl (load_evs hcA) ?_
        refine hK.out _ _ hDA (fun hHeld => ?_)
        clear hK K
        simp only [Act.put, List.setIfInBounds_toArray, List.set_cons_zero, List.set_cons_succ]
        clear hHeld
        refine wpAnyH_ready (rs := [8]) (by kernel_rfl) (by simp) ?_
        refine AllReadyH.cons (o := { dst := some 50, op := _, type := _, pos := _, after := _, guard := _ }) rfl (fun K hK => ?_) AllReadyH.nil
        rw [if_pos (by rfl)]
        refine y_app (x := .tmp 46) (y := .tmp 49) (v := rv) (q := .slice (some ⟨W.heap.size, 0, none⟩) 1 1) (z := .slice a2 n2 c2) (w' := wB) rfl rfl rfl hap ?_
        refine hK.out _ _ hDB (fun hHeld => ?_)
        clear hK K
        simp only [Act.put, List.setIfInBounds_toArray, List.set_cons_zero, List.set_cons_succ]
        refine wpAnyH_take (i := 9) (oi := { dst := some 51, op := _, type := _, pos := _, after := _, guard := _ }) (v := .pointer (some ⟨q, 0, none⟩)) rfl (by kernel_rfl) (by kernel_rfl) (by kernel_rfl) (fun _ _ _ h => h) (Or.inl ⟨by rfl, ?_⟩) (by assumption) ?_
        · intro w9 hSw
          exact y_nil rfl rfl
        simp only [Act.put, List.setIfInBounds_toArray, List.set_cons_zero, List.set_cons_succ]
        refine wpAnyH_take (i := 10) (oi := { dst := some 52, op := _, type := _, pos := _, after := _, guard := _ }) (v := .pointer (some ⟨q, 0, none⟩)) rfl (by kernel_rfl) (by kernel_rfl) (by kernel_rfl) (fun _ _ _ h => h) (Or.inl ⟨by rfl, ?_⟩) (by assumption) ?_
        · intro w9 hSw
          exact y_field rfl rfl (field_r0 _ _)
        simp only [Act.put, List.setIfInBounds_toArray, List.set_cons_zero, List.set_cons_succ]
        clear hHeld
        refine wpAnyH_ready (rs := [11]) (by kernel_rfl) (by simp) ?_
        refine AllReadyH.cons (o := { dst := none, op := _, type := _, pos := _, after := _, guard := _ }) rfl (fun K hK => ?_) AllReadyH.nil
        rw [if_pos (by rfl)]
        refine y_store (ty := 27) (x := .tmp 52) (y := .tmp 50) (ad := ⟨q, 0, none⟩) (v := .slice a2 n2 c2) (w' := wC) rfl rfl rfl hst ?_
        refine hK.out _ _ hDC (fun hHeld => ?_)
        clear hK K
        simp only [Act.put]
        clear hHeld
        have hHeld := hDC
        refine wpAnyH_done (by kernel_rfl) ?_ _
        refine NoPanic.normal ?_
        clear hHeld
        obtain ⟨hP, hR, hAp, hBw⟩ := HX.out
        clear HX hLA hbA hgB hC hcA hcW hcB hDA hDB hDC hst hbu hap hW hRd hDW
        obtain ⟨Wt, hWt⟩ : ∃ Wt, Wt = wC.drew := ⟨_, rfl⟩
        have hP : Lw 31 w.heap.size Wt g lv' (L ++ [o.e]) := by rw [hWt]; exact hP.drew
        have hR : Lw 29 w.heap.size Wt q (.slice a2 n2 c2) (L ++ [o.e]) := by rw [hWt]; exact hR.drew
        have hBw : Below w.heap.size w Wt := by rw [hWt]; exact hBw.drew
        obtain ⟨ar, cr, hrv, -⟩ := hR.lp.val
        have hcq := hR.lp.c0
        rw [hrv] at hcq
        clear hrv
        have hLen := plen_any _ _ Wt hP.lp.lp
        obtain ⟨nr, hnr⟩ : ∃ nr, ((L ++ [o.e])).length = nr := ⟨_, rfl⟩
        rw [hnr] at hLen hcq
        go_wp2_with fail
        refine wp_region_noPanic ?_
        refine wp_region_held_drew (S := fun W' : World => W'.cell? ⟨q, 0, none⟩ = some (.slice ar nr cr)) (by kernel_rfl) (by rw [← hWt]; exact hcq) (fun hHeld => ?_)
        rw [← hWt] at hHeld ⊢
        refine wpAnyH_take (i := 0) (oi := { dst := some 84, op := _, type := _, pos := _, after := _, guard := _ }) (v := .pointer (some ⟨g, 0, none⟩)) rfl (by kernel_rfl) (by kernel_rfl) (by kernel_rfl) (fun _ _ _ h => h) (Or.inl ⟨by rfl, ?_⟩) (by assumption) ?_
        · intro w9 hSw
          exact y_move rfl rfl
        simp only [Act.put, List.setIfInBounds_toArray, List.set_cons_zero, List.set_cons_succ]
        refine wpAnyH_take (i := 2) (oi := { dst := some 86, op := _, type := _, pos := _, after := _, guard := _ }) (v := .pointer (some ⟨q, 0, none⟩)) rfl (by kernel_rfl) (by kernel_rfl) (by kernel_rfl) (fun _ _ _ h => h) (Or.inl ⟨by rfl, ?_⟩) (by assumption) ?_
        · intro w9 hSw
          exact y_move rfl rfl
        simp only [Act.put, List.setIfInBounds_toArray, List.set_cons_zero, List.set_cons_succ]
        refine wpAnyH_take (i := 3) (oi := { dst := some 87, op := _, type := _, pos := _, after := _, guard := _ }) (v := .pointer (some ⟨q, 0, none⟩)) rfl (by kernel_rfl) (by kernel_rfl) (by kernel_rfl) (fun _ _ _ h => h) (Or.inl ⟨by rfl, ?_⟩) (by assumption) ?_
        · intro w9 hSw
          exact y_nil rfl rfl
        simp only [Act.put, List.setIfInBounds_toArray, List.set_cons_zero, List.set_cons_succ]
        refine wpAnyH_take (i := 4) (oi := { dst := some 88, op := _, type := _, pos := _, after := _, guard := _ }) (v := .pointer (some ⟨q, 0, none⟩)) rfl (by kernel_rfl) (by kernel_rfl) (by kernel_rfl) (fun _ _ _ h => h) (Or.inl ⟨by rfl, ?_⟩) (by assumption) ?_
        · intro w9 hSw
          exact y_field rfl rfl (field_r0 _ _)
        simp only [Act.put, List.setIfInBounds_toArray, List.set_cons_zero, List.set_cons_succ]
        refine wpAnyH_take (i := 5) (oi := { dst := some 89, op := _, type := _, pos := _, after := _, guard := _ }) (v := .slice ar nr cr) rfl (by kernel_rfl) (by kernel_rfl) (by kernel_rfl) (fun _ _ _ h => h) (Or.inl ⟨by rfl, ?_⟩) (by assumption) ?_
        · intro w9 hSw
          exact y_load rfl rfl (load_evs hSw)
        simp only [Act.put, List.setIfInBounds_toArray, List.set_cons_zero, List.set_cons_succ]
        refine wpAnyH_take (i := 6) (oi := { dst := some 90, op := _, type := _, pos := _, after := _, guard := _ }) (v := .int .i64 (nr : Int)) rfl (by kernel_rfl) (by kernel_rfl) (by kernel_rfl) (fun _ _ _ h => h) (Or.inl ⟨by rfl, ?_⟩) (by assumption) ?_
        · intro w9 hSw
          exact y_len rfl rfl
        simp only [Act.put, List.setIfInBounds_toArray, List.set_cons_zero, List.set_cons_succ]
        clear hHeld
        refine wpAnyH_ready (rs := [1]) (by kernel_rfl) (by simp) ?_
        refine AllReadyH.cons (o := { dst := some 85, op := _, type := _, pos := _, after := _, guard := _ }) rfl (fun K hK => ?_) AllReadyH.nil
        rw [if_pos (by rfl)]
        refine y_call (f := 17) (xs := [.tmp 84]) (vs := [.pointer (some ⟨g, 0, none⟩)]) rfl rfl (enters_plen _ _) hLen ?_
        rintro ex wz ⟨rfl, hbz⟩
        refine ⟨_, rfl, ?_⟩
        have hcqz : wz.cell? ⟨q, 0, none⟩ = some (.slice ar nr cr) := (hbz.cell (World.block_lt_of_cell? _ _ hcq)).trans hcq
        refine hK.out _ _ hcqz (fun hHeld => ?_)
        clear hK K
        simp only [Act.put, List.setIfInBounds_toArray, List.set_cons_zero, List.set_cons_succ]
        refine wpAnyH_take (i := 7) (oi := { dst := some 91, op := _, type := _, pos := _, after := _, guard := _ }) (v := .bool false) rfl (by kernel_rfl) (by kernel_rfl) (by kernel_rfl) (fun _ _ _ h => h) (Or.inl ⟨by rfl, ?_⟩) (by assumption) ?_
        · intro w9 hSw
          exact y_bin rfl rfl rfl (eqGuard_int _) (neq_int_same _ _)
        simp only [Act.put, List.setIfInBounds_toArray, List.set_cons_zero, List.set_cons_succ]
        refine wpAnyH_done (by kernel_rfl) ?_ _
        refine NoPanic.normal ?_
        clear hHeld
        have HALL : Hid (Lw 31 w.heap.size wz g lv' (L ++ [o.e]) ∧ Lw 29 w.heap.size wz q (.slice a2 n2 c2) (L ++ [o.e]) ∧ Ap g q lv' (.slice a2 n2 c2) ∧ Below w.heap.size w wz) := ⟨hP.below hbz, hR.below hbz, hAp, hBw.trans (hbz.mono hBw.size)⟩
        clear hP hR hBw hcq hcqz hLen hbz hAp hWt
        go_wp2
        go_roundw
        case rel => exact ⟨k + 1, lv', (.slice a2 n2 c2), (L ++ [o.e]), by omega, by go_num, by omega, HALL.out⟩
        case measure => simp [intOf]; omega
      · have hq1 : (o.kind == 1) = false := by simpa using h1
        by_cases h2 : o.kind = 2
        · rw [h2] at hkc hq1
          obtain ⟨W, hW⟩ : ∃ W, W = W1.drew := ⟨_, rfl⟩
          have hPd : Lw 31 w.heap.size W g lv L := by rw [hW]; exact hP1.drew
          have hRd : Lw 29 w.heap.size W q rv L := by rw [hW]; exact hR1.drew
          have hDW : LiesP W D o := by rw [hW]; exact hD
          have hBd : Below w.heap.size w W := by rw [hW]; exact hB1.drew
          clear hP1 hR1 hD hB1
          go_wp2_with fail
          clear hkc
          refine wp_region_noPanic ?_
          refine wp_region_held_drew (S := fun W' : World => LiesP W' D o) (by kernel_rfl) (by rw [← hW]; exact hDW) (fun hHeld => ?_)
          rw [← hW] at hHeld ⊢
          refine wpAnyH_take (i := 0) (oi := { dst := some 55, op := _, type := _, pos := _, after := _, guard := _ }) (v := .pointer (some ⟨g, 0, none⟩)) rfl (by kernel_rfl) (by kernel_rfl) (by kernel_rfl) (fun _ _ _ h => h) (Or.inl ⟨by rfl, ?_⟩) (by assumption) ?_
          · intro w9 hSw
            exact y_move rfl rfl
          simp only [Act.put, List.setIfInBounds_toArray, List.set_cons_zero, List.set_cons_succ]
          refine wpAnyH_take (i := 1) (oi := { dst := some 56, op := _, type := _, pos := _, after := _, guard := _ }) (v := .pointer (some ⟨D, 27, none⟩)) rfl (by kernel_rfl) (by kernel_rfl) (by kernel_rfl) (fun _ _ _ h => h) (Or.inl ⟨by rfl, ?_⟩) (by assumption) ?_
          · intro w9 hSw
            exact y_field rfl rfl (field_p2 _ _)
          simp only [Act.put, List.setIfInBounds_toArray, List.set_cons_zero, List.set_cons_succ]
          refine wpAnyH_take (i := 2) (oi := { dst := some 57, op := _, type := _, pos := _, after := _, guard := _ }) (v := .agg (vals o.v)) rfl (by kernel_rfl) (by kernel_rfl) (by kernel_rfl) (fun _ _ _ h => h) (Or.inl ⟨by rfl, ?_⟩) (by assumption) ?_
          · intro w9 hSw
            exact y_load rfl rfl (ldv_p hSw ho)
          simp only [Act.put, List.setIfInBounds_toArray, List.set_cons_zero, List.set_cons_succ]
          refine wpAnyH_take (i := 3) (oi := { dst := some 58, op := _, type := _, pos := _, after := _, guard := _ }) (v := .pointer (some ⟨D, 43, none⟩)) rfl (by kernel_rfl) (by kernel_rfl) (by kernel_rfl) (fun _ _ _ h => h) (Or.inl ⟨by rfl, ?_⟩) (by assumption) ?_
          · intro w9 hSw
            exact y_field rfl rfl (field_p3 _ _)
          simp only [Act.put, List.setIfInBounds_toArray, List.set_cons_zero, List.set_cons_succ]
          refine wpAnyH_take (i := 4) (oi := { dst := some 59, op := _, type := _, pos := _, after := _, guard := _ }) (v := .agg (vals o.w)) rfl (by kernel_rfl) (by kernel_rfl) (by kernel_rfl) (fun _ _ _ h => h) (Or.inl ⟨by rfl, ?_⟩) (by assumption) ?_
          · intro w9 hSw
            exact y_load rfl rfl (ldw_p hSw ho)
          simp only [Act.put, List.setIfInBounds_toArray, List.set_cons_zero, List.set_cons_succ]
          refine wpAnyH_take (i := 5) (oi := { dst := some 60, op := _, type := _, pos := _, after := _, guard := _ }) (v := .pointer (some ⟨D, 59, none⟩)) rfl (by kernel_rfl) (by kernel_rfl) (by kernel_rfl) (fun _ _ _ h => h) (Or.inl ⟨by rfl, ?_⟩) (by assumption) ?_
          · intro w9 hSw
            exact y_field rfl rfl (field_p4 _ _)
          simp only [Act.put, List.setIfInBounds_toArray, List.set_cons_zero, List.set_cons_succ]
          refine wpAnyH_take (i := 6) (oi := { dst := some 61, op := _, type := _, pos := _, after := _, guard := _ }) (v := .int .i64 o.n) rfl (by kernel_rfl) (by kernel_rfl) (by kernel_rfl) (fun _ _ _ h => h) (Or.inl ⟨by rfl, ?_⟩) (by assumption) ?_
          · intro w9 hSw
            exact y_load rfl rfl (ldn_p hSw ho)
          simp only [Act.put, List.setIfInBounds_toArray, List.set_cons_zero, List.set_cons_succ]
          refine wpAnyH_take (i := 8) (oi := { dst := some 63, op := _, type := _, pos := _, after := _, guard := _ }) (v := .pointer (some ⟨q, 0, none⟩)) rfl (by kernel_rfl) (by kernel_rfl) (by kernel_rfl) (fun _ _ _ h => h) (Or.inl ⟨by rfl, ?_⟩) (by assumption) ?_
          · intro w9 hSw
            exact y_move rfl rfl
          simp only [Act.put, List.setIfInBounds_toArray, List.set_cons_zero, List.set_cons_succ]
          refine wpAnyH_take (i := 9) (oi := { dst := some 64, op := _, type := _, pos := _, after := _, guard := _ }) (v := .pointer (some ⟨D, 27, none⟩)) rfl (by kernel_rfl) (by kernel_rfl) (by kernel_rfl) (fun _ _ _ h => h) (Or.inl ⟨by rfl, ?_⟩) (by assumption) ?_
          · intro w9 hSw
            exact y_field rfl rfl (field_p2 _ _)
          simp only [Act.put, List.setIfInBounds_toArray, List.set_cons_zero, List.set_cons_succ]
          refine wpAnyH_take (i := 10) (oi := { dst := some 65, op := _, type := _, pos := _, after := _, guard := _ }) (v := .agg (vals o.v)) rfl (by kernel_rfl) (by kernel_rfl) (by kernel_rfl) (fun _ _ _ h => h) (Or.inl ⟨by rfl, ?_⟩) (by assumption) ?_
          · intro w9 hSw
            exact y_load rfl rfl (ldv_p hSw ho)
          simp only [Act.put, List.setIfInBounds_toArray, List.set_cons_zero, List.set_cons_succ]
          refine wpAnyH_take (i := 11) (oi := { dst := some 66, op := _, type := _, pos := _, after := _, guard := _ }) (v := .pointer (some ⟨D, 43, none⟩)) rfl (by kernel_rfl) (by kernel_rfl) (by kernel_rfl) (fun _ _ _ h => h) (Or.inl ⟨by rfl, ?_⟩) (by assumption) ?_
          · intro w9 hSw
            exact y_field rfl rfl (field_p3 _ _)
          simp only [Act.put, List.setIfInBounds_toArray, List.set_cons_zero, List.set_cons_succ]
          refine wpAnyH_take (i := 12) (oi := { dst := some 67, op := _, type := _, pos := _, after := _, guard := _ }) (v := .agg (vals o.w)) rfl (by kernel_rfl) (by kernel_rfl) (by kernel_rfl) (fun _ _ _ h => h) (Or.inl ⟨by rfl, ?_⟩) (by assumption) ?_
          · intro w9 hSw
            exact y_load rfl rfl (ldw_p hSw ho)
          simp only [Act.put, List.setIfInBounds_toArray, List.set_cons_zero, List.set_cons_succ]
          refine wpAnyH_take (i := 13) (oi := { dst := some 68, op := _, type := _, pos := _, after := _, guard := _ }) (v := .pointer (some ⟨D, 59, none⟩)) rfl (by kernel_rfl) (by kernel_rfl) (by kernel_rfl) (fun _ _ _ h => h) (Or.inl ⟨by rfl, ?_⟩) (by assumption) ?_
          · intro w9 hSw
            exact y_field rfl rfl (field_p4 _ _)
          simp only [Act.put, List.setIfInBounds_toArray, List.set_cons_zero, List.set_cons_succ]
          refine wpAnyH_take (i := 14) (oi := { dst := some 69, op := _, type := _, pos := _, after := _, guard := _ }) (v := .int .i64 o.n) rfl (by kernel_rfl) (by kernel_rfl) (by kernel_rfl) (fun _ _ _ h => h) (Or.inl ⟨by rfl, ?_⟩) (by assumption) ?_
          · intro w9 hSw
            exact y_load rfl rfl (ldn_p hSw ho)
          simp only [Act.put, List.setIfInBounds_toArray, List.set_cons_zero, List.set_cons_succ]
          clear hHeld
          refine wpAnyH_ready (rs := [7]) (by kernel_rfl) (by simp) ?_
          refine AllReadyH.cons (o := { dst := some 62, op := _, type := _, pos := _, after := _, guard := _ }) rfl (fun K hK => ?_) AllReadyH.nil
          rw [if_pos (by rfl)]
          refine y_call (f := 13) (xs := [.tmp 55, .tmp 57, .tmp 59, .tmp 61]) (vs := [.pointer (some ⟨g, 0, none⟩), .agg (vals o.v), .agg (vals o.w), .int .i64 o.n]) rfl rfl (enters_pfor _ _) (pfor_any _ L o.v o.w ho.v ho.w o.n (by omega) W hPd.lp.lp) ?_
          rintro ex w6 ⟨r1, rfl, hR1, hb6⟩
          refine ⟨_, rfl, ?_⟩
          have hP6 := hPd.below hb6
          have hR6 := hRd.below hb6
          have hD6 := liesP_below hDW hb6
          refine hK.out _ _ hD6 (fun hHeld => ?_)
          clear hK K
          simp only [Act.put, List.setIfInBounds_toArray, List.set_cons_zero, List.set_cons_succ]
          clear hHeld
          refine wpAnyH_ready (rs := [15]) (by kernel_rfl) (by simp) ?_
          refine AllReadyH.cons (o := { dst := some 70, op := _, type := _, pos := _, after := _, guard := _ }) rfl (fun K hK => ?_) AllReadyH.nil
          rw [if_pos (by rfl)]
          refine y_call (f := 14) (xs := [.tmp 63, .tmp 65, .tmp 67, .tmp 69]) (vs := [.pointer (some ⟨q, 0, none⟩), .agg (vals o.v), .agg (vals o.w), .int .i64 o.n]) rfl rfl (enters_rfor _ _) (rfor_any q rv L o.v o.w ho.v ho.w o.n (by omega) w6 hR6.lp) ?_
          rintro ex w7 ⟨r2, rfl, hR2, hb7⟩
          refine ⟨_, rfl, ?_⟩
          have hD7 := liesP_below hD6 hb7
          have hR1' := hR1.below hb7 (Nat.le_refl _)
          obtain ⟨a1, c1, rfl, hE1⟩ := hR1'.evs (fun e he => hPd.lp.wide e (for_mem he))
          obtain ⟨a2, c2, rfl, hE2⟩ := hR2.evs (fun e he => hPd.lp.wide e (for_mem he))
          refine hK.out _ _ hD7 (fun hHeld => ?_)
          clear hK K
          simp only [Act.put, List.setIfInBounds_toArray, List.set_cons_zero, List.set_cons_succ]
          clear hHeld
          refine wpAnyH_ready (rs := [16]) (by kernel_rfl) (by simp) ?_
          refine AllReadyH.cons (o := { dst := some 71, op := _, type := _, pos := _, after := _, guard := _ }) rfl (fun K hK => ?_) AllReadyH.nil
          rw [if_pos (by rfl)]
          refine y_call (f := 12) (xs := [.tmp 62, .tmp 70]) (vs := [.slice a1 (forE L o.v o.w o.n).length c1, .slice a2 (forE L o.v o.w o.n).length c2]) rfl rfl (enters_same _ _) (same_yes a1 a2 _ c1 c2 (forE L o.v o.w o.n) w7 hE1 hE2 (by have := for_len L o.v o.w o.n; omega)) ?_
          rintro ex w8 ⟨rfl, hb8⟩
          refine ⟨_, rfl, ?_⟩
          have hD8 := liesP_below hD7 hb8
          refine hK.out _ _ hD8 (fun hHeld => ?_)
          clear hK K
          simp only [Act.put, List.setIfInBounds_toArray, List.set_cons_zero, List.set_cons_succ]
          refine wpAnyH_take (i := 17) (oi := { dst := some 72, op := _, type := _, pos := _, after := _, guard := _ }) (v := .bool false) rfl (by kernel_rfl) (by kernel_rfl) (by kernel_rfl) (fun _ _ _ h => h) (Or.inl ⟨by rfl, ?_⟩) (by assumption) ?_
          · intro w9 hSw
            exact y_not (b := true) rfl rfl
          simp only [Act.put, List.setIfInBounds_toArray, List.set_cons_zero, List.set_cons_succ]
          refine wpAnyH_done (by kernel_rfl) ?_ _
          refine NoPanic.normal ?_
          clear hHeld
          have hBw : Below w.heap.size w w8 := ((hBd.trans (hb6.mono hBd.size)).trans (hb7.mono (Nat.le_trans hBd.size hb6.size))).trans (hb8.mono (Nat.le_trans hBd.size (Nat.le_trans hb6.size hb7.size)))
          have hP := (hP6.below hb7).below hb8
          have hR := (hR6.below hb7).below hb8
          clear hPd hRd hP6 hR6 hb6 hb7 hb8 hBd hR1 hR1' hR2 hE1 hE2 hD6 hD7 hD8 hDW hW
          obtain ⟨Wt, hWt⟩ : ∃ Wt, Wt = w8.drew := ⟨_, rfl⟩
          have hP : Lw 31 w.heap.size Wt g lv L := by rw [hWt]; exact hP.drew
          have hR : Lw 29 w.heap.size Wt q rv L := by rw [hWt]; exact hR.drew
          have hBw : Below w.heap.size w Wt := by rw [hWt]; exact hBw.drew
          obtain ⟨ar, cr, hrv, -⟩ := hR.lp.val
          have hcq := hR.lp.c0
          rw [hrv] at hcq
          clear hrv
          have hLen := plen_any _ _ Wt hP.lp.lp
          obtain ⟨nr, hnr⟩ : ∃ nr, (L).length = nr := ⟨_, rfl⟩
          rw [hnr] at hLen hcq
          go_wp2_with fail
          refine wp_region_noPanic ?_
          refine wp_region_held_drew (S := fun W' : World => W'.cell? ⟨q, 0, none⟩ = some (.slice ar nr cr)) (by kernel_rfl) (by rw [← hWt]; exact hcq) (fun hHeld => ?_)
          rw [← hWt] at hHeld ⊢
          refine wpAnyH_take (i := 0) (oi := { dst := some 84, op := _, type := _, pos := _, after := _, guard := _ }) (v := .pointer (some ⟨g, 0, none⟩)) rfl (by kernel_rfl) (by kernel_rfl) (by kernel_rfl) (fun _ _ _ h => h) (Or.inl ⟨by rfl, ?_⟩) (by assumption) ?_
          · intro w9 hSw
            exact y_move rfl rfl
          simp only [Act.put, List.setIfInBounds_toArray, List.set_cons_zero, List.set_cons_succ]
          refine wpAnyH_take (i := 2) (oi := { dst := some 86, op := _, type := _, pos := _, after := _, guard := _ }) (v := .pointer (some ⟨q, 0, none⟩)) rfl (by kernel_rfl) (by kernel_rfl) (by kernel_rfl) (fun _ _ _ h => h) (Or.inl ⟨by rfl, ?_⟩) (by assumption) ?_
          · intro w9 hSw
            exact y_move rfl rfl
          simp only [Act.put, List.setIfInBounds_toArray, List.set_cons_zero, List.set_cons_succ]
          refine wpAnyH_take (i := 3) (oi := { dst := some 87, op := _, type := _, pos := _, after := _, guard := _ }) (v := .pointer (some ⟨q, 0, none⟩)) rfl (by kernel_rfl) (by kernel_rfl) (by kernel_rfl) (fun _ _ _ h => h) (Or.inl ⟨by rfl, ?_⟩) (by assumption) ?_
          · intro w9 hSw
            exact y_nil rfl rfl
          simp only [Act.put, List.setIfInBounds_toArray, List.set_cons_zero, List.set_cons_succ]
          refine wpAnyH_take (i := 4) (oi := { dst := some 88, op := _, type := _, pos := _, after := _, guard := _ }) (v := .pointer (some ⟨q, 0, none⟩)) rfl (by kernel_rfl) (by kernel_rfl) (by kernel_rfl) (fun _ _ _ h => h) (Or.inl ⟨by rfl, ?_⟩) (by assumption) ?_
          · intro w9 hSw
            exact y_field rfl rfl (field_r0 _ _)
          simp only [Act.put, List.setIfInBounds_toArray, List.set_cons_zero, List.set_cons_succ]
          refine wpAnyH_take (i := 5) (oi := { dst := some 89, op := _, type := _, pos := _, after := _, guard := _ }) (v := .slice ar nr cr) rfl (by kernel_rfl) (by kernel_rfl) (by kernel_rfl) (fun _ _ _ h => h) (Or.inl ⟨by rfl, ?_⟩) (by assumption) ?_
          · intro w9 hSw
            exact y_load rfl rfl (load_evs hSw)
          simp only [Act.put, List.setIfInBounds_toArray, List.set_cons_zero, List.set_cons_succ]
          refine wpAnyH_take (i := 6) (oi := { dst := some 90, op := _, type := _, pos := _, after := _, guard := _ }) (v := .int .i64 (nr : Int)) rfl (by kernel_rfl) (by kernel_rfl) (by kernel_rfl) (fun _ _ _ h => h) (Or.inl ⟨by rfl, ?_⟩) (by assumption) ?_
          · intro w9 hSw
            exact y_len rfl rfl
          simp only [Act.put, List.setIfInBounds_toArray, List.set_cons_zero, List.set_cons_succ]
          clear hHeld
          refine wpAnyH_ready (rs := [1]) (by kernel_rfl) (by simp) ?_
          refine AllReadyH.cons (o := { dst := some 85, op := _, type := _, pos := _, after := _, guard := _ }) rfl (fun K hK => ?_) AllReadyH.nil
          rw [if_pos (by rfl)]
          refine y_call (f := 17) (xs := [.tmp 84]) (vs := [.pointer (some ⟨g, 0, none⟩)]) rfl rfl (enters_plen _ _) hLen ?_
          rintro ex wz ⟨rfl, hbz⟩
          refine ⟨_, rfl, ?_⟩
          have hcqz : wz.cell? ⟨q, 0, none⟩ = some (.slice ar nr cr) := (hbz.cell (World.block_lt_of_cell? _ _ hcq)).trans hcq
          refine hK.out _ _ hcqz (fun hHeld => ?_)
          clear hK K
          simp only [Act.put, List.setIfInBounds_toArray, List.set_cons_zero, List.set_cons_succ]
          refine wpAnyH_take (i := 7) (oi := { dst := some 91, op := _, type := _, pos := _, after := _, guard := _ }) (v := .bool false) rfl (by kernel_rfl) (by kernel_rfl) (by kernel_rfl) (fun _ _ _ h => h) (Or.inl ⟨by rfl, ?_⟩) (by assumption) ?_
          · intro w9 hSw
            exact y_bin rfl rfl rfl (eqGuard_int _) (neq_int_same _ _)
          simp only [Act.put, List.setIfInBounds_toArray, List.set_cons_zero, List.set_cons_succ]
          refine wpAnyH_done (by kernel_rfl) ?_ _
          refine NoPanic.normal ?_
          clear hHeld
          have HALL : Hid (Lw 31 w.heap.size wz g lv L ∧ Lw 29 w.heap.size wz q rv L ∧ Ap g q lv rv ∧ Below w.heap.size w wz) := ⟨hP.below hbz, hR.below hbz, hAp, hBw.trans (hbz.mono hBw.size)⟩
          clear hP hR hBw hcq hcqz hLen hbz hAp hWt
          go_wp2
          go_roundw
          case rel => exact ⟨k + 1, lv, rv, L, by omega, by go_num, by omega, HALL.out⟩
          case measure => simp [intOf]; omega
        · by_cases h3 : o.kind = 3
          · rw [h3] at hkc hq1
            obtain ⟨W, hW⟩ : ∃ W, W = W1.drew := ⟨_, rfl⟩
            have hPd : Lw 31 w.heap.size W g lv L := by rw [hW]; exact hP1.drew
            have hRd : Lw 29 w.heap.size W q rv L := by rw [hW]; exact hR1.drew
            have hDW : LiesP W D o := by rw [hW]; exact hD
            have hBd : Below w.heap.size w W := by rw [hW]; exact hB1.drew
            clear hP1 hR1 hD hB1
            go_wp2_with fail
            clear hkc
            refine wp_region_noPanic ?_
            refine wp_region_held_drew (S := fun W' : World => LiesP W' D o) (by kernel_rfl) (by rw [← hW]; exact hDW) (fun hHeld => ?_)
            rw [← hW] at hHeld ⊢
            refine wpAnyH_take (i := 0) (oi := { dst := some 75, op := _, type := _, pos := _, after := _, guard := _ }) (v := .pointer (some ⟨g, 0, none⟩)) rfl (by kernel_rfl) (by kernel_rfl) (by kernel_rfl) (fun _ _ _ h => h) (Or.inl ⟨by rfl, ?_⟩) (by assumption) ?_
            · intro w9 hSw
              exact y_move rfl rfl
            simp only [Act.put, List.setIfInBounds_toArray, List.set_cons_zero, List.set_cons_succ]
            refine wpAnyH_take (i := 1) (oi := { dst := some 76, op := _, type := _, pos := _, after := _, guard := _ }) (v := .pointer (some ⟨D, 27, none⟩)) rfl (by kernel_rfl) (by kernel_rfl) (by kernel_rfl) (fun _ _ _ h => h) (Or.inl ⟨by rfl, ?_⟩) (by assumption) ?_
            · intro w9 hSw
              exact y_field rfl rfl (field_p2 _ _)
            simp only [Act.put, List.setIfInBounds_toArray, List.set_cons_zero, List.set_cons_succ]
            refine wpAnyH_take (i := 2) (oi := { dst := some 77, op := _, type := _, pos := _, after := _, guard := _ }) (v := .agg (vals o.v)) rfl (by kernel_rfl) (by kernel_rfl) (by kernel_rfl) (fun _ _ _ h => h) (Or.inl ⟨by rfl, ?_⟩) (by assumption) ?_
            · intro w9 hSw
              exact y_load rfl rfl (ldv_p hSw ho)
            simp only [Act.put, List.setIfInBounds_toArray, List.set_cons_zero, List.set_cons_succ]
            refine wpAnyH_take (i := 4) (oi := { dst := some 79, op := _, type := _, pos := _, after := _, guard := _ }) (v := .pointer (some ⟨q, 0, none⟩)) rfl (by kernel_rfl) (by kernel_rfl) (by kernel_rfl) (fun _ _ _ h => h) (Or.inl ⟨by rfl, ?_⟩) (by assumption) ?_
            · intro w9 hSw
              exact y_move rfl rfl
            simp only [Act.put, List.setIfInBounds_toArray, List.set_cons_zero, List.set_cons_succ]
            refine wpAnyH_take (i := 5) (oi := { dst := some 80, op := _, type := _, pos := _, after := _, guard := _ }) (v := .pointer (some ⟨D, 27, none⟩)) rfl (by kernel_rfl) (by kernel_rfl) (by kernel_rfl) (fun _ _ _ h => h) (Or.inl ⟨by rfl, ?_⟩) (by assumption) ?_
            · intro w9 hSw
              exact y_field rfl rfl (field_p2 _ _)
            simp only [Act.put, List.setIfInBounds_toArray, List.set_cons_zero, List.set_cons_succ]
            refine wpAnyH_take (i := 6) (oi := { dst := some 81, op := _, type := _, pos := _, after := _, guard := _ }) (v := .agg (vals o.v)) rfl (by kernel_rfl) (by kernel_rfl) (by kernel_rfl) (fun _ _ _ h => h) (Or.inl ⟨by rfl, ?_⟩) (by assumption) ?_
            · intro w9 hSw
              exact y_load rfl rfl (ldv_p hSw ho)
            simp only [Act.put, List.setIfInBounds_toArray, List.set_cons_zero, List.set_cons_succ]
            clear hHeld
            refine wpAnyH_ready (rs := [3]) (by kernel_rfl) (by simp) ?_
            refine AllReadyH.cons (o := { dst := some 78, op := _, type := _, pos := _, after := _, guard := _ }) rfl (fun K hK => ?_) AllReadyH.nil
            rw [if_pos (by rfl)]
            refine y_call (f := 15) (xs := [.tmp 75, .tmp 77]) (vs := [.pointer (some ⟨g, 0, none⟩), .agg (vals o.v)]) rfl rfl (enters_ptrim _ _) (ptrim_at g lv L o.v ho.v (by omega) W hPd.lp) ?_
            rintro ex w6 ⟨rfl, lv', hL6, hT6⟩
            refine ⟨_, rfl, ?_⟩
            obtain ⟨hP6, hB6⟩ := hPd.turn hBd.size hL6 hT6
            obtain ⟨hAp6, hR6⟩ := hAp.turn tl_ne tr_ne hPd.lp hRd hT6
            have hD6 : LiesP w6 D o := liesP_turn hDW hPd.lp tl_np hT6
            refine hK.out _ _ hD6 (fun hHeld => ?_)
            clear hK K
            simp only [Act.put, List.setIfInBounds_toArray, List.set_cons_zero, List.set_cons_succ]
            clear hHeld
            refine wpAnyH_ready (rs := [7]) (by kernel_rfl) (by simp) ?_
            refine AllReadyH.cons (o := { dst := some 82, op := _, type := _, pos := _, after := _, guard := _ }) rfl (fun K hK => ?_) AllReadyH.nil
            rw [if_pos (by rfl)]
            refine y_call (f := 16) (xs := [.tmp 79, .tmp 81]) (vs := [.pointer (some ⟨q, 0, none⟩), .agg (vals o.v)]) rfl rfl (enters_rtrim _ _) (rtrim_any q rv L o.v ho.v (by omega) w6 hR6.lp) ?_
            rintro ex w7 ⟨rfl, rv', hL7, hT7⟩
            refine ⟨_, rfl, ?_⟩
            obtain ⟨hR7, hB7⟩ := hR6.turn (Nat.le_trans hBd.size hT6.size) hL7 hT7
            obtain ⟨hAp7, hP7⟩ := hAp6.symm.turn tr_ne tl_ne hR6.lp hP6 hT7
            have hD7 : LiesP w7 D o := liesP_turn hD6 hR6.lp tr_np hT7
            refine hK.out _ _ hD7 (fun hHeld => ?_)
            clear hK K
            simp only [Act.put, List.setIfInBounds_toArray, List.set_cons_zero, List.set_cons_succ]
            refine wpAnyH_take (i := 8) (oi := { dst := some 83, op := _, type := _, pos := _, after := _, guard := _ }) (v := .bool false) rfl (by kernel_rfl) (by kernel_rfl) (by kernel_rfl) (fun _ _ _ h => h) (Or.inl ⟨by rfl, ?_⟩) (by assumption) ?_
            · intro w9 hSw
              exact y_bin rfl rfl rfl (eqGuard_int _) (neq_int_same _ _)
            simp only [Act.put, List.setIfInBounds_toArray, List.set_cons_zero, List.set_cons_succ]
            refine wpAnyH_done (by kernel_rfl) ?_ _
            refine NoPanic.normal ?_
            clear hHeld
            have hBw : Below w.heap.size w w7 := (hBd.trans hB6).trans hB7
            have hP := hP7
            have hR := hR7
            have hAp := hAp7.symm
            have hll := trim_len L o.v
            clear hPd hRd hP6 hR6 hBd hD6 hD7 hDW hW hL6 hT6 hL7 hT7 hB6 hB7 hP7 hR7 hAp7 hAp6
            obtain ⟨Wt, hWt⟩ : ∃ Wt, Wt = w7.drew := ⟨_, rfl⟩
            have hP : Lw 31 w.heap.size Wt g lv' (trimE L o.v) := by rw [hWt]; exact hP.drew
            have hR : Lw 29 w.heap.size Wt q rv' (trimE L o.v) := by rw [hWt]; exact hR.drew
            have hBw : Below w.heap.size w Wt := by rw [hWt]; exact hBw.drew
            obtain ⟨ar, cr, hrv, -⟩ := hR.lp.val
            have hcq := hR.lp.c0
            rw [hrv] at hcq
            clear hrv
            have hLen := plen_any _ _ Wt hP.lp.lp
            obtain ⟨nr, hnr⟩ : ∃ nr, ((trimE L o.v)).length = nr := ⟨_, rfl⟩
            rw [hnr] at hLen hcq
            go_wp2_with fail
            refine wp_region_noPanic ?_
            refine wp_region_held_drew (S := fun W' : World => W'.cell? ⟨q, 0, none⟩ = some (.slice ar nr cr)) (by kernel_rfl) (by rw [← hWt]; exact hcq) (fun hHeld => ?_)
            rw [← hWt] at hHeld ⊢
            refine wpAnyH_take (i := 0) (oi := { dst := some 84, op := _, type := _, pos := _, after := _, guard := _ }) (v := .pointer (some ⟨g, 0, none⟩)) rfl (by kernel_rfl) (by kernel_rfl) (by kernel_rfl) (fun _ _ _ h => h) (Or.inl ⟨by rfl, ?_⟩) (by assumption) ?_
            · intro w9 hSw
              exact y_move rfl rfl
            simp only [Act.put, List.setIfInBounds_toArray, List.set_cons_zero, List.set_cons_succ]
            refine wpAnyH_take (i := 2) (oi := { dst := some 86, op := _, type := _, pos := _, after := _, guard := _ }) (v := .pointer (some ⟨q, 0, none⟩)) rfl (by kernel_rfl) (by kernel_rfl) (by kernel_rfl) (fun _ _ _ h => h) (Or.inl ⟨by rfl, ?_⟩) (by assumption) ?_
            · intro w9 hSw
              exact y_move rfl rfl
            simp only [Act.put, List.setIfInBounds_toArray, List.set_cons_zero, List.set_cons_succ]
            refine wpAnyH_take (i := 3) (oi := { dst := some 87, op := _, type := _, pos := _, after := _, guard := _ }) (v := .pointer (some ⟨q, 0, none⟩)) rfl (by kernel_rfl) (by kernel_rfl) (by kernel_rfl) (fun _ _ _ h => h) (Or.inl ⟨by rfl, ?_⟩) (by assumption) ?_
            · intro w9 hSw
              exact y_nil rfl rfl
            simp only [Act.put, List.setIfInBounds_toArray, List.set_cons_zero, List.set_cons_succ]
            refine wpAnyH_take (i := 4) (oi := { dst := some 88, op := _, type := _, pos := _, after := _, guard := _ }) (v := .pointer (some ⟨q, 0, none⟩)) rfl (by kernel_rfl) (by kernel_rfl) (by kernel_rfl) (fun _ _ _ h => h) (Or.inl ⟨by rfl, ?_⟩) (by assumption) ?_
            · intro w9 hSw
              exact y_field rfl rfl (field_r0 _ _)
            simp only [Act.put, List.setIfInBounds_toArray, List.set_cons_zero, List.set_cons_succ]
            refine wpAnyH_take (i := 5) (oi := { dst := some 89, op := _, type := _, pos := _, after := _, guard := _ }) (v := .slice ar nr cr) rfl (by kernel_rfl) (by kernel_rfl) (by kernel_rfl) (fun _ _ _ h => h) (Or.inl ⟨by rfl, ?_⟩) (by assumption) ?_
            · intro w9 hSw
              exact y_load rfl rfl (load_evs hSw)
            simp only [Act.put, List.setIfInBounds_toArray, List.set_cons_zero, List.set_cons_succ]
            refine wpAnyH_take (i := 6) (oi := { dst := some 90, op := _, type := _, pos := _, after := _, guard := _ }) (v := .int .i64 (nr : Int)) rfl (by kernel_rfl) (by kernel_rfl) (by kernel_rfl) (fun _ _ _ h => h) (Or.inl ⟨by rfl, ?_⟩) (by assumption) ?_
            · intro w9 hSw
              exact y_len rfl rfl
            simp only [Act.put, List.setIfInBounds_toArray, List.set_cons_zero, List.set_cons_succ]
            clear hHeld
            refine wpAnyH_ready (rs := [1]) (by kernel_rfl) (by simp) ?_
            refine AllReadyH.cons (o := { dst := some 85, op := _, type := _, pos := _, after := _, guard := _ }) rfl (fun K hK => ?_) AllReadyH.nil
            rw [if_pos (by rfl)]
            refine y_call (f := 17) (xs := [.tmp 84]) (vs := [.pointer (some ⟨g, 0, none⟩)]) rfl rfl (enters_plen _ _) hLen ?_
            rintro ex wz ⟨rfl, hbz⟩
            refine ⟨_, rfl, ?_⟩
            have hcqz : wz.cell? ⟨q, 0, none⟩ = some (.slice ar nr cr) := (hbz.cell (World.block_lt_of_cell? _ _ hcq)).trans hcq
            refine hK.out _ _ hcqz (fun hHeld => ?_)
            clear hK K
            simp only [Act.put, List.setIfInBounds_toArray, List.set_cons_zero, List.set_cons_succ]
            refine wpAnyH_take (i := 7) (oi := { dst := some 91, op := _, type := _, pos := _, after := _, guard := _ }) (v := .bool false) rfl (by kernel_rfl) (by kernel_rfl) (by kernel_rfl) (fun _ _ _ h => h) (Or.inl ⟨by rfl, ?_⟩) (by assumption) ?_
            · intro w9 hSw
              exact y_bin rfl rfl rfl (eqGuard_int _) (neq_int_same _ _)
            simp only [Act.put, List.setIfInBounds_toArray, List.set_cons_zero, List.set_cons_succ]
            refine wpAnyH_done (by kernel_rfl) ?_ _
            refine NoPanic.normal ?_
            clear hHeld
            have HALL : Hid (Lw 31 w.heap.size wz g lv' (trimE L o.v) ∧ Lw 29 w.heap.size wz q rv' (trimE L o.v) ∧ Ap g q lv' rv' ∧ Below w.heap.size w wz) := ⟨hP.below hbz, hR.below hbz, hAp, hBw.trans (hbz.mono hBw.size)⟩
            clear hP hR hBw hcq hcqz hLen hbz hAp hWt
            go_wp2
            go_roundw
            case rel => exact ⟨k + 1, lv', rv', (trimE L o.v), by omega, by go_num, by omega, HALL.out⟩
            case measure => simp [intOf]; omega
          · have hq2 : (o.kind == 2) = false := by simpa using h2
            have hq3 : (o.kind == 3) = false := by simpa using h3
            have hP := hP1
            have hR := hR1
            have hBw := hB1
            clear hP1 hR1 hB1
            generalize o.kind = K at *
            obtain ⟨Wt, hWt⟩ : ∃ Wt, Wt = W1.drew := ⟨_, rfl⟩
            have hP : Lw 31 w.heap.size Wt g lv L := by rw [hWt]; exact hP.drew
            have hR : Lw 29 w.heap.size Wt q rv L := by rw [hWt]; exact hR.drew
            have hBw : Below w.heap.size w Wt := by rw [hWt]; exact hBw.drew
            obtain ⟨ar, cr, hrv, -⟩ := hR.lp.val
            have hcq := hR.lp.c0
            rw [hrv] at hcq
            clear hrv
            have hLen := plen_any _ _ Wt hP.lp.lp
            obtain ⟨nr, hnr⟩ : ∃ nr, (L).length = nr := ⟨_, rfl⟩
            rw [hnr] at hLen hcq
            go_wp2_with fail
            refine wp_region_noPanic ?_
            refine wp_region_held_drew (S := fun W' : World => W'.cell? ⟨q, 0, none⟩ = some (.slice ar nr cr)) (by kernel_rfl) (by rw [← hWt]; exact hcq) (fun hHeld => ?_)
            rw [← hWt] at hHeld ⊢
            refine wpAnyH_take (i := 0) (oi := { dst := some 84, op := _, type := _, pos := _, after := _, guard := _ }) (v := .pointer (some ⟨g, 0, none⟩)) rfl (by kernel_rfl) (by kernel_rfl) (by kernel_rfl) (fun _ _ _ h => h) (Or.inl ⟨by rfl, ?_⟩) (by assumption) ?_
            · intro w9 hSw
              exact y_move rfl rfl
            simp only [Act.put, List.setIfInBounds_toArray, List.set_cons_zero, List.set_cons_succ]
            refine wpAnyH_take (i := 2) (oi := { dst := some 86, op := _, type := _, pos := _, after := _, guard := _ }) (v := .pointer (some ⟨q, 0, none⟩)) rfl (by kernel_rfl) (by kernel_rfl) (by kernel_rfl) (fun _ _ _ h => h) (Or.inl ⟨by rfl, ?_⟩) (by assumption) ?_
            · intro w9 hSw
              exact y_move rfl rfl
            simp only [Act.put, List.setIfInBounds_toArray, List.set_cons_zero, List.set_cons_succ]
            refine wpAnyH_take (i := 3) (oi := { dst := some 87, op := _, type := _, pos := _, after := _, guard := _ }) (v := .pointer (some ⟨q, 0, none⟩)) rfl (by kernel_rfl) (by kernel_rfl) (by kernel_rfl) (fun _ _ _ h => h) (Or.inl ⟨by rfl, ?_⟩) (by assumption) ?_
            · intro w9 hSw
              exact y_nil rfl rfl
            simp only [Act.put, List.setIfInBounds_toArray, List.set_cons_zero, List.set_cons_succ]
            refine wpAnyH_take (i := 4) (oi := { dst := some 88, op := _, type := _, pos := _, after := _, guard := _ }) (v := .pointer (some ⟨q, 0, none⟩)) rfl (by kernel_rfl) (by kernel_rfl) (by kernel_rfl) (fun _ _ _ h => h) (Or.inl ⟨by rfl, ?_⟩) (by assumption) ?_
            · intro w9 hSw
              exact y_field rfl rfl (field_r0 _ _)
            simp only [Act.put, List.setIfInBounds_toArray, List.set_cons_zero, List.set_cons_succ]
            refine wpAnyH_take (i := 5) (oi := { dst := some 89, op := _, type := _, pos := _, after := _, guard := _ }) (v := .slice ar nr cr) rfl (by kernel_rfl) (by kernel_rfl) (by kernel_rfl) (fun _ _ _ h => h) (Or.inl ⟨by rfl, ?_⟩) (by assumption) ?_
            · intro w9 hSw
              exact y_load rfl rfl (load_evs hSw)
            simp only [Act.put, List.setIfInBounds_toArray, List.set_cons_zero, List.set_cons_succ]
            refine wpAnyH_take (i := 6) (oi := { dst := some 90, op := _, type := _, pos := _, after := _, guard := _ }) (v := .int .i64 (nr : Int)) rfl (by kernel_rfl) (by kernel_rfl) (by kernel_rfl) (fun _ _ _ h => h) (Or.inl ⟨by rfl, ?_⟩) (by assumption) ?_
            · intro w9 hSw
              exact y_len rfl rfl
            simp only [Act.put, List.setIfInBounds_toArray, List.set_cons_zero, List.set_cons_succ]
            clear hHeld
            refine wpAnyH_ready (rs := [1]) (by kernel_rfl) (by simp) ?_
            refine AllReadyH.cons (o := { dst := some 85, op := _, type := _, pos := _, after := _, guard := _ }) rfl (fun K hK => ?_) AllReadyH.nil
            rw [if_pos (by rfl)]
            refine y_call (f := 17) (xs := [.tmp 84]) (vs := [.pointer (some ⟨g, 0, none⟩)]) rfl rfl (enters_plen _ _) hLen ?_
            rintro ex wz ⟨rfl, hbz⟩
            refine ⟨_, rfl, ?_⟩
            have hcqz : wz.cell? ⟨q, 0, none⟩ = some (.slice ar nr cr) := (hbz.cell (World.block_lt_of_cell? _ _ hcq)).trans hcq
            refine hK.out _ _ hcqz (fun hHeld => ?_)
            clear hK K
            simp only [Act.put, List.setIfInBounds_toArray, List.set_cons_zero, List.set_cons_succ]
            refine wpAnyH_take (i := 7) (oi := { dst := some 91, op := _, type := _, pos := _, after := _, guard := _ }) (v := .bool false) rfl (by kernel_rfl) (by kernel_rfl) (by kernel_rfl) (fun _ _ _ h => h) (Or.inl ⟨by rfl, ?_⟩) (by assumption) ?_
            · intro w9 hSw
              exact y_bin rfl rfl rfl (eqGuard_int _) (neq_int_same _ _)
            simp only [Act.put, List.setIfInBounds_toArray, List.set_cons_zero, List.set_cons_succ]
            refine wpAnyH_done (by kernel_rfl) ?_ _
            refine NoPanic.normal ?_
            clear hHeld
            have HALL : Hid (Lw 31 w.heap.size wz g lv L ∧ Lw 29 w.heap.size wz q rv L ∧ Ap g q lv rv ∧ Below w.heap.size w wz) := ⟨hP.below hbz, hR.below hbz, hAp, hBw.trans (hbz.mono hBw.size)⟩
            clear hP hR hBw hcq hcqz hLen hbz hAp hWt
            go_wp2
            go_roundw
            case rel => exact ⟨k + 1, lv, rv, L, by omega, by go_num, by omega, HALL.out⟩
            case measure => simp [intOf]; omega
    · obtain rfl : k = len := by omega
      obtain ⟨Wt, hWt⟩ : ∃ Wt, Wt = wr.drew := ⟨_, rfl⟩
      have hP : Lw 31 w.heap.size Wt g lv L := by rw [hWt]; exact hP.drew
      have hR : Lw 29 w.heap.size Wt q rv L := by rw [hWt]; exact hR.drew
      have hBw : Below w.heap.size w Wt := by rw [hWt]; exact hBw.drew
      obtain ⟨ar, cr, hrv, hEr⟩ := hR.lp.val
      have hcq := hR.lp.c0
      rw [hrv] at hcq
      clear hrv
      obtain ⟨nr, hnr⟩ : ∃ nr, L.length = nr := ⟨_, rfl⟩
      rw [hnr] at hcq hEr
      go_wp2_with fail
      refine wp_region_noPanic ?_
      refine wp_region_held_drew (S := fun W' : World => W'.cell? ⟨q, 0, none⟩ = some (.slice ar nr cr)) (by kernel_rfl) (by rw [← hWt]; exact hcq) (fun hHeld => ?_)
      rw [← hWt] at hHeld ⊢
      refine wpAnyH_take (i := 0) (oi := { dst := some 93, op := _, type := _, pos := _, after := _, guard := _ }) (v := .pointer (some ⟨g, 0, none⟩)) rfl (by kernel_rfl) (by kernel_rfl) (by kernel_rfl) (fun _ _ _ h => h) (Or.inl ⟨by rfl, ?_⟩) (by assumption) ?_
      · intro w9 hSw
        exact y_move rfl rfl
      simp only [Act.put, List.setIfInBounds_toArray, List.set_cons_zero, List.set_cons_succ]
      refine wpAnyH_take (i := 2) (oi := { dst := some 95, op := _, type := _, pos := _, after := _, guard := _ }) (v := .pointer (some ⟨q, 0, none⟩)) rfl (by kernel_rfl) (by kernel_rfl) (by kernel_rfl) (fun _ _ _ h => h) (Or.inl ⟨by rfl, ?_⟩) (by assumption) ?_
      · intro w9 hSw
        exact y_move rfl rfl
      simp only [Act.put, List.setIfInBounds_toArray, List.set_cons_zero, List.set_cons_succ]
      refine wpAnyH_take (i := 3) (oi := { dst := some 96, op := _, type := _, pos := _, after := _, guard := _ }) (v := .pointer (some ⟨q, 0, none⟩)) rfl (by kernel_rfl) (by kernel_rfl) (by kernel_rfl) (fun _ _ _ h => h) (Or.inl ⟨by rfl, ?_⟩) (by assumption) ?_
      · intro w9 hSw
        exact y_nil rfl rfl
      simp only [Act.put, List.setIfInBounds_toArray, List.set_cons_zero, List.set_cons_succ]
      refine wpAnyH_take (i := 4) (oi := { dst := some 97, op := _, type := _, pos := _, after := _, guard := _ }) (v := .pointer (some ⟨q, 0, none⟩)) rfl (by kernel_rfl) (by kernel_rfl) (by kernel_rfl) (fun _ _ _ h => h) (Or.inl ⟨by rfl, ?_⟩) (by assumption) ?_
      · intro w9 hSw
        exact y_field rfl rfl (field_r0 _ _)
      simp only [Act.put, List.setIfInBounds_toArray, List.set_cons_zero, List.set_cons_succ]
      refine wpAnyH_take (i := 5) (oi := { dst := some 98, op := _, type := _, pos := _, after := _, guard := _ }) (v := .slice ar nr cr) rfl (by kernel_rfl) (by kernel_rfl) (by kernel_rfl) (fun _ _ _ h => h) (Or.inl ⟨by rfl, ?_⟩) (by assumption) ?_
      · intro w9 hSw
        exact y_load rfl rfl (load_evs hSw)
      simp only [Act.put, List.setIfInBounds_toArray, List.set_cons_zero, List.set_cons_succ]
      clear hHeld
      refine wpAnyH_ready (rs := [1]) (by kernel_rfl) (by simp) ?_
      refine AllReadyH.cons (o := { dst := some 94, op := _, type := _, pos := _, after := _, guard := _ }) rfl (fun K hK => ?_) AllReadyH.nil
      rw [if_pos (by rfl)]
      refine y_call (f := 18) (xs := [.tmp 93]) (vs := [.pointer (some ⟨g, 0, none⟩)]) rfl rfl (enters_pevents _ _) (pevents_any _ L (by omega) Wt hP.lp.lp) ?_
      rintro ex w6 ⟨r1, rfl, hR1, hb6⟩
      refine ⟨_, rfl, ?_⟩
      have hcq6 : w6.cell? ⟨q, 0, none⟩ = some (.slice ar nr cr) := (hb6.cell (World.block_lt_of_cell? _ _ hcq)).trans hcq
      obtain ⟨a1, c1, rfl, hE1⟩ := hR1.evs hP.lp.wide
      rw [hnr] at hE1 ⊢
      have hEr6 := hEr.below hb6 (Nat.le_refl _)
      refine hK.out _ _ hcq6 (fun hHeld => ?_)
      clear hK K
      simp only [Act.put, List.setIfInBounds_toArray, List.set_cons_zero, List.set_cons_succ]
      clear hHeld
      refine wpAnyH_ready (rs := [6]) (by kernel_rfl) (by simp) ?_
      refine AllReadyH.cons (o := { dst := some 99, op := _, type := _, pos := _, after := _, guard := _ }) rfl (fun K hK => ?_) AllReadyH.nil
      rw [if_pos (by rfl)]
      refine y_call (f := 12) (xs := [.tmp 94, .tmp 98]) (vs := [.slice a1 nr c1, .slice ar nr cr]) rfl rfl (enters_same _ _) (same_yes a1 ar nr c1 cr L w6 hE1 hEr6 (by omega)) ?_
      rintro ex w7 ⟨rfl, hb7⟩
      refine ⟨_, rfl, ?_⟩
      have hcq7 : w7.cell? ⟨q, 0, none⟩ = some (.slice ar nr cr) := (hb7.cell (World.block_lt_of_cell? _ _ hcq6)).trans hcq6
      refine hK.out _ _ hcq7 (fun hHeld => ?_)
      clear hK K
      simp only [Act.put, List.setIfInBounds_toArray, List.set_cons_zero, List.set_cons_succ]
      refine wpAnyH_take (i := 7) (oi := { dst := some 4, op := _, type := _, pos := _, after := _, guard := _ }) (v := .bool true) rfl (by kernel_rfl) (by kernel_rfl) (by kernel_rfl) (fun _ _ _ h => h) (Or.inl ⟨by rfl, ?_⟩) (by assumption) ?_
      · intro w9 hSw
        exact y_assign rfl rfl
      simp only [Act.put, List.setIfInBounds_toArray, List.set_cons_zero, List.set_cons_succ]
      refine wpAnyH_done (by kernel_rfl) ?_ _
      refine NoPanic.normal ?_
      clear hHeld
      have HF : Hid (Below w.heap.size w w7) := (hBw.trans (hb6.mono hBw.size)).trans (hb7.mono (Nat.le_trans hBw.size hb6.size))
      clear hP hR hBw hcq hcq6 hcq7 hEr hEr6 hE1 hR1 hb6 hb7 hWt
      go_wp2
      go_ret
      exact ⟨rfl, HF.out⟩
set_option maxHeartbeats 16000000 in
theorem lplays_true (a : Option Addr) (len cap : Nat) (O : Nat → Po) (w : World) (hO : Pops w a len O) (hl : ¬ 200 < len) : Calls Try.prog 3 #[.slice a len cap, .bool true] w fun e w' => e = .returned (.bool true) ∧ Below w.heap.size w w' := by
  have hd : decide ((200 : Int) < (len : Int)) = false := decide_eq_false (by omega)
  have hAw := pawake_any w
  go_enter Try.func3, Try.ntmps3
  go_wp2_with fail
  refine Calls.mono hAw ?_
  rintro e w1 ⟨rfl, hb1⟩
  have hB1 : Below w.heap.size w w1 := hb1
  clear hb1 hAw
  have hN1 := pnew_any w1
  have hP1 := lw_new (F := w.heap.size) w1 31 hB1.size
  have hb2 : Below w1.heap.size w1 (w1.alloc (.cells #[.slice none 0 0] 31)) := (Below.refl _ w1).alloc (Nat.le_refl _) _
  have hgl : w1.heap.size < (w1.alloc (.cells #[.slice none 0 0] 31)).heap.size := by simp
  have hB2 := hB1.trans (hb2.mono hB1.size)
  obtain ⟨g, hg⟩ : ∃ g, w1.heap.size = g := ⟨_, rfl⟩
  generalize hW2 : w1.alloc (.cells #[.slice none 0 0] 31) = w2 at *
  have hR2 := lw_new (F := w.heap.size) w2 29 hB2.size
  have hb3 : Below w2.heap.size w2 (w2.alloc (.cells #[.slice none 0 0] 29)) := (Below.refl _ w2).alloc (Nat.le_refl _) _
  have hql : w2.heap.size < (w2.alloc (.cells #[.slice none 0 0] 29)).heap.size := by simp
  have hB3 := hB2.trans (hb3.mono hB2.size)
  have hP2 := hP1.below hb3
  obtain ⟨q, hq⟩ : ∃ q, w2.heap.size = q := ⟨_, rfl⟩
  generalize hW3 : w2.alloc (.cells #[.slice none 0 0] 29) = w3 at *
  rw [hg] at hP2 hN1
  rw [hq] at hR2
  have hAp : Ap g q (.slice none 0 0) (.slice none 0 0) := ⟨by omega, fun k hk => by cases hk⟩
  clear hP2 hAp
  have hP4 := lw_new (F := w.heap.size) w3 31 hB3.size
  have hb4 : Below w3.heap.size w3 (w3.alloc (.cells #[.slice none 0 0] 31)) := (Below.refl _ w3).alloc (Nat.le_refl _) _
  have hB4 := hB3.trans (hb4.mono hB3.size)
  have hR4 := hR2.below hb4
  obtain ⟨g', hg'⟩ : ∃ g', w3.heap.size = g' := ⟨_, rfl⟩
  generalize hW4 : w3.alloc (.cells #[.slice none 0 0] 31) = w4 at *
  rw [hg'] at hP4
  have hAp4 : Ap g' q (.slice none 0 0) (.slice none 0 0) := ⟨by omega, fun k hk => by cases hk⟩
  have he := fun W ad => eql_lp W ad
  go_wp2_with fail
  refine Calls.mono hN1 ?_
  rintro e wx ⟨rfl, hw⟩
  obtain rfl := hw.symm
  clear hw hN1
  go_wp2_with fail
  have hPx := hP4
  have hRx := hR4
  have hAx := hAp4
  have hBx := hB4
  clear he hW2 hW3 hW4 hg' hb4
  clear hg hgl hP1 hb2 hB1 hB2 hb3 hql hq hP4 hR4 hAp4 hB4 hB3 hR2
  go_loopw [27] (fun i wr => ∃ (k : Nat) (lv rv : Value) (L : List Ev), k ≤ len ∧ i = .int .i64 (k : Int) ∧ L.length ≤ k ∧ Lw 31 w.heap.size wr g' lv L ∧ Lw 29 w.heap.size wr q rv L ∧ Ap g' q lv rv ∧ Below w.heap.size w wr) (fun i _ => len - (intOf i).toNat)
  case atStart => exact ⟨0, _, _, [], Nat.zero_le _, rfl, Nat.zero_le _, hPx, hRx, hAx, hBx⟩
  case round =>
    clear hPx hRx hAx hBx
    obtain ⟨k, lv, rv, L, hk, rfl, hLk, hP, hR, hAp, hBw⟩ := hrel
    by_cases hkl : k < len
    · obtain ⟨b, off, rfl, hbF, hOA⟩ := hO.resolve_left (by omega)
      have hIs : IsPo wr b (off + k * 60) (O k) := (hOA k hkl).same (hBw.block b hbF)
      have hix := fun W : World => index_pop W (b := b) (off := off) (k := k) (m := len) (c := cap) hkl
      obtain ⟨o, hoe⟩ : ∃ o, O k = o := ⟨_, rfl⟩
      rw [hoe] at hIs
      have ho := hIs.wide
      have hldo : (loadVar 41 ⟨b, off + k * 60, none⟩).run Try.prog (wr.alloc (.cells (pol zp).toArray 41)) = .ok (.agg (pol o).toArray) (wr.alloc (.cells (pol zp).toArray 41)) :=
        run_loadVar_mid _ b _ 41 _ _ (range_below hIs.all ((Below.refl _ wr).alloc (Nat.le_refl _) _) hIs.lt) Try.underlying41 rfl (by have := size60 ho; rwa [List.size_toArray] at this)
      have hldo0 : (loadVar 41 ⟨b, off + k * 60, none⟩).run Try.prog wr = .ok (.agg (pol o).toArray) wr :=
        run_loadVar_mid _ b _ 41 _ _ hIs.all Try.underlying41 rfl (by have := size60 ho; rwa [List.size_toArray] at this)
      have hz : (wr.alloc (.cells (pol zp).toArray 41)).heap[wr.heap.size]? = some (.cells (pol zp).toArray 41 (0, 0)) := heap_alloc_new wr _
      have hst := run_storeVar_row (P := Try.prog) _ wr.heap.size 41 41 _ (pol o).toArray hz (size60 ho) (by rw [List.size_toArray, List.size_toArray, pol_length ho, pol_length zp_wide]) (pol_one o)
      have hD : LiesP ((wr.alloc (.cells (pol zp).toArray 41)).setRow wr.heap.size (pol o).toArray) wr.heap.size o := setRow_heap _ _ _ _ _ _ hz
      have hb1 : Below wr.heap.size wr ((wr.alloc (.cells (pol zp).toArray 41)).setRow wr.heap.size (pol o).toArray) := below_setRow ((Below.refl _ wr).alloc (Nat.le_refl _) _) (Nat.le_refl _) _
      rw [zp_pol] at hst hldo
      have hP1 := hP.below hb1
      have hR1 := hR.below hb1
      have hB1 := hBw.trans (hb1.mono hBw.size)
      generalize hW1 : (wr.alloc (.cells (pol zp).toArray 41)).setRow wr.heap.size (pol o).toArray = W1 at *
      rw [zp_pol] at hW1
      rw [hW1] at hst
      obtain ⟨D, hDe⟩ : ∃ D, wr.heap.size = D := ⟨_, rfl⟩
      rw [hDe] at hst hD
      go_upto_region 12 with (first
        | (refine wpList_loadR (ty := 41) (x := .tmp 32) (ad := ⟨b, off + k * 60, none⟩) (v := .agg (pol o).toArray) rfl rfl rfl (by first | exact hldo0 | exact hldo) ?_)
        | (refine wpList_storeR (ty := 41) (x := .tmp 8) (y := .tmp 33) (ad := ⟨D, 0, none⟩) (v := .agg (pol o).toArray) (w' := W1) rfl rfl rfl rfl hst ?_))
      clear hst hldo hldo0 hz hb1 hW1 hIs hOA hDe hP hR hBw hix
      have hkc := (IsPo.row ho hD).kind
      by_cases h1 : o.kind = 1
      · rw [h1] at hkc
        have hPa := padd_at g' lv L o.e ho.e (by omega) W1 hP1.lp
        have hlde := lde_p hD ho
        have hf1 := field_p1 W1 D
        go_wp2_with (first | refine wpList_loadR (ty := 39) (x := .tmp 39) (ad := ⟨D, 1, none⟩) (v := .agg (evc o.e)) rfl rfl rfl hlde ?_)
        refine Calls.mono hPa ?_
        rintro e w4 ⟨rfl, lv', hL4, hT4⟩
        obtain ⟨hP4, hB4⟩ := hP1.turn hB1.size hL4 hT4
        obtain ⟨hAp4, hR4⟩ := hAp.turn tl_ne tr_ne hP1.lp hR1 hT4
        have hD4 : LiesP w4 D o := liesP_turn hD hP1.lp tl_np hT4
        have hBw4 := hB1.trans hB4
        clear hPa hlde hf1 hL4 hT4 hP1 hR1 hAp hB1 hB4 hkc hD
        obtain ⟨W, hW⟩ : ∃ W, W = w4.drew := ⟨_, rfl⟩
        have hPd : Lw 31 w.heap.size W g' lv' (L ++ [o.e]) := by rw [hW]; exact hP4.drew
        have hRd : Lw 29 w.heap.size W q rv L := by rw [hW]; exact hR4.drew
        have hDW : LiesP W D o := by rw [hW]; exact hD4
        have hBd : Below w.heap.size w W := by rw [hW]; exact hBw4.drew
        obtain ⟨a2, n2, c2, wA, wB, wC, hbu, hbA, hLA, hap, hcB, hgB, hst, hLC, hT, hC⟩ := push_log 27 hRd.lp tr_ne ho.e (by omega)
        have hDA := liesP_below hDW hbA
        have hDB : LiesP wB D o := (hgB.block D (liesP_lt hDA) (fun e1 => liesP_row hDA hLA e1.symm)).trans hDA
        have hDC : LiesP wC D o := (hC D (liesP_lt hDB) (by
          rintro rfl
          have hq := hRd.lp.cell
          rw [hDW] at hq
          injection hq with e1
          injection e1 with _ e2
          exact tr_np e2.symm)).trans hDB
        have hcW := hRd.lp.c0
        have hcA := hLA.c0
        obtain ⟨hRC, hBC⟩ := hRd.turn hBd.size hLC hT
        obtain ⟨hApC, hPC⟩ := hAp4.symm.turn tr_ne tl_ne hRd.lp hPd hT
        have HX : Hid (Lw 31 w.heap.size wC g' lv' (L ++ [o.e]) ∧ Lw 29 w.heap.size wC q (.slice a2 n2 c2) (L ++ [o.e]) ∧ Ap g' q lv' (.slice a2 n2 c2) ∧ Below w.heap.size w wC) := ⟨hPC, hRC, hApC.symm, hBd.trans hBC⟩
        have hll : (L ++ [o.e]).length ≤ k + 1 := by rw [List.length_append]; simp; omega
        clear hP4 hR4 hBw4 hPd hBd hLC hT hRC hBC hApC hPC hAp4
        go_wp2_with fail
        refine wp_region_noPanic ?_
        refine wp_region_held_drew (S := fun W' : World => LiesP W' D o) (by kernel_rfl) (by rw [← hW]; exact hDW) (fun hHeld => ?_)
        rw [← hW] at hHeld ⊢
        refine wpAnyH_take (i := 0) (oi := { dst := some 42, op := _, type := _, pos := _, after := _, guard := _ }) (v := .pointer (some ⟨q, 0, none⟩)) rfl (by kernel_rfl) (by kernel_rfl) (by kernel_rfl) (fun _ _ _ h => h) (Or.inl ⟨by rfl, ?_⟩) (by assumption) ?_
        · intro w9 hSw
          exact y_move rfl rfl
        simp only [Act.put, List.setIfInBounds_toArray, List.set_cons_zero, List.set_cons_succ]
        refine wpAnyH_take (i := 1) (oi := { dst := some 43, op := _, type := _, pos := _, after := _, guard := _ }) (v := .pointer (some ⟨q, 0, none⟩)) rfl (by kernel_rfl) (by kernel_rfl) (by kernel_rfl) (fun _ _ _ h => h) (Or.inl ⟨by rfl, ?_⟩) (by assumption) ?_
        · intro w9 hSw
          exact y_move rfl rfl
        simp only [Act.put, List.setIfInBounds_toArray, List.set_cons_zero, List.set_cons_succ]
        refine wpAnyH_take (i := 2) (oi := { dst := some 44, op := _, type := _, pos := _, after := _, guard := _ }) (v := .pointer (some ⟨q, 0, none⟩)) rfl (by kernel_rfl) (by kernel_rfl) (by kernel_rfl) (fun _ _ _ h => h) (Or.inl ⟨by rfl, ?_⟩) (by assumption) ?_
        · intro w9 hSw
          exact y_nil rfl rfl
        simp only [Act.put, List.setIfInBounds_toArray, List.set_cons_zero, List.set_cons_succ]
        refine wpAnyH_take (i := 3) (oi := { dst := some 45, op := _, type := _, pos := _, after := _, guard := _ }) (v := .pointer (some ⟨q, 0, none⟩)) rfl (by kernel_rfl) (by kernel_rfl) (by kernel_rfl) (fun _ _ _ h => h) (Or.inl ⟨by rfl, ?_⟩) (by assumption) ?_
        · intro w9 hSw
          exact y_field rfl rfl (field_r0 _ _)
        simp only [Act.put, List.setIfInBounds_toArray, List.set_cons_zero, List.set_cons_succ]
        refine wpAnyH_take (i := 5) (oi := { dst := some 47, op := _, type := _, pos := _, after := _, guard := _ }) (v := .pointer (some ⟨D, 1, none⟩)) rfl (by kernel_rfl) (by kernel_rfl) (by kernel_rfl) (fun _ _ _ h => h) (Or.inl ⟨by rfl, ?_⟩) (by assumption) ?_
        · intro w9 hSw
          exact y_field rfl rfl (field_p1 _ _)
        simp only [Act.put, List.setIfInBounds_toArray, List.set_cons_zero, List.set_cons_succ]
        refine wpAnyH_take (i := 6) (oi := { dst := some 48, op := _, type := _, pos := _, after := _, guard := _ }) (v := .agg (evc o.e)) rfl (by kernel_rfl) (by kernel_rfl) (by kernel_rfl) (fun _ _ _ h => h) (Or.inl ⟨by rfl, ?_⟩) (by assumption) ?_
        · intro w9 hSw
          exact y_load rfl rfl (lde_p hSw ho)
        simp only [Act.put, List.setIfInBounds_toArray, List.set_cons_zero, List.set_cons_succ]
        clear hHeld
        refine wpAnyH_ready (rs := [4, 7]) (by kernel_rfl) (by simp) ?_
        refine AllReadyH.cons (o := { dst := some 46, op := _, type := _, pos := _, after := _, guard := _ }) rfl (fun K hK => ?_) ?_
        · rw [if_pos (by rfl)]
          refine y_ldw (ty := 27) (x := .tmp 45) (ad := ⟨q, 0, none⟩) (v := rv) rfl rfl (load_evs hcW) ?_
          refine hK.out _ _ hDW (fun hHeld => ?_)
          clear hK K
          simp only [Act.put, List.setIfInBounds_toArray, List.set_cons_zero, List.set_cons_succ]
          clear hHeld
          refine wpAnyH_ready (rs := [7]) (by kernel_rfl) (by simp) ?_
          refine AllReadyH.cons (o := { dst := some 49, op := _, type := _, pos := _, after := _, guard := _ }) rfl (fun K hK => ?_) AllReadyH.nil
          rw [if_pos (by rfl)]
          refine y_build (ty := 27) (k := 1) (x := .tmp 48) (u := .agg (evc o.e)) (v := .slice (some ⟨W.heap.size, 0, none⟩) 1 1) (w' := wA) rfl rfl hbu ?_
          refine hK.out _ _ hDA (fun hHeld => ?_)
          clear hK K
          simp only [Act.put, List.setIfInBounds_toArray, List.set_cons_zero, List.set_cons_succ]
          clear hHeld
          refine wpAnyH_ready (rs := [8]) (by kernel_rfl) (by simp) ?_
          refine AllReadyH.cons (o := { dst := some 50, op := _, type := _, pos := _, after := _, guard := _ }) rfl (fun K hK => ?_) AllReadyH.nil
          rw [if_pos (by rfl)]
          refine y_app (x := .tmp 46) (y := .tmp 49) (v := rv) (q := .slice (some ⟨W.heap.size, 0, none⟩) 1 1) (z := .slice a2 n2 c2) (w' := wB) rfl rfl rfl hap ?_
          refine hK.out _ _ hDB (fun hHeld => ?_)
          clear hK K
          simp only [Act.put, List.setIfInBounds_toArray, List.set_cons_zero, List.set_cons_succ]
          refine wpAnyH_take (i := 9) (oi := { dst := some 51, op := _, type := _, pos := _, after := _, guard := _ }) (v := .pointer (some ⟨q, 0, none⟩)) rfl (by kernel_rfl) (by kernel_rfl) (by kernel_rfl) (fun _ _ _ h => h) (Or.inl ⟨by rfl, ?_⟩) (by assumption) ?_
          · intro w9 hSw
            exact y_nil rfl rfl
          simp only [Act.put, List.setIfInBounds_toArray, List.set_cons_zero, List.set_cons_succ]
          refine wpAnyH_take (i := 10) (oi := { dst := some 52, op := _, type := _, pos := _, after := _, guard := _ }) (v := .pointer (some ⟨q, 0, none⟩)) rfl (by kernel_rfl) (by kernel_rfl) (by kernel_rfl) (fun _ _ _ h => h) (Or.inl ⟨by rfl, ?_⟩) (by assumption) ?_
          · intro w9 hSw
            exact y_field rfl rfl (field_r0 _ _)
          simp only [Act.put, List.setIfInBounds_toArray, List.set_cons_zero, List.set_cons_succ]
          clear hHeld
          refine wpAnyH_ready (rs := [11]) (by kernel_rfl) (by simp) ?_
          refine AllReadyH.cons (o := { dst := none, op := _, type := _, pos := _, after := _, guard := _ }) rfl (fun K hK => ?_) AllReadyH.nil
          rw [if_pos (by rfl)]
          refine y_store (ty := 27) (x := .tmp 52) (y := .tmp 50) (ad := ⟨q, 0, none⟩) (v := .slice a2 n2 c2) (w' := wC) rfl rfl rfl hst ?_
          refine hK.out _ _ hDC (fun hHeld => ?_)
          clear hK K
          simp only [Act.put]
          clear hHeld
          have hHeld := hDC
          refine wpAnyH_done (by kernel_rfl) ?_ _
          refine NoPanic.normal ?_
          clear hHeld
          obtain ⟨hP, hR, hAp, hBw⟩ := HX.out
          clear HX hLA hbA hgB hC hcA hcW hcB hDA hDB hDC hst hbu hap hW hRd hDW
          obtain ⟨Wt, hWt⟩ : ∃ Wt, Wt = wC.drew := ⟨_, rfl⟩
          have hP : Lw 31 w.heap.size Wt g' lv' (L ++ [o.e]) := by rw [hWt]; exact hP.drew
          have hR : Lw 29 w.heap.size Wt q (.slice a2 n2 c2) (L ++ [o.e]) := by rw [hWt]; exact hR.drew
          have hBw : Below w.heap.size w Wt := by rw [hWt]; exact hBw.drew
          obtain ⟨ar, cr, hrv, -⟩ := hR.lp.val
          have hcq := hR.lp.c0
          rw [hrv] at hcq
          clear hrv
          have hLen := plen_any _ _ Wt hP.lp.lp
          obtain ⟨nr, hnr⟩ : ∃ nr, ((L ++ [o.e])).length = nr := ⟨_, rfl⟩
          rw [hnr] at hLen hcq
          go_wp2_with fail
          refine wp_region_noPanic ?_
          refine wp_region_held_drew (S := fun W' : World => W'.cell? ⟨q, 0, none⟩ = some (.slice ar nr cr)) (by kernel_rfl) (by rw [← hWt]; exact hcq) (fun hHeld => ?_)
          rw [← hWt] at hHeld ⊢
          refine wpAnyH_take (i := 0) (oi := { dst := some 84, op := _, type := _, pos := _, after := _, guard := _ }) (v := .pointer (some ⟨g', 0, none⟩)) rfl (by kernel_rfl) (by kernel_rfl) (by kernel_rfl) (fun _ _ _ h => h) (Or.inl ⟨by rfl, ?_⟩) (by assumption) ?_
          · intro w9 hSw
            exact y_move rfl rfl
          simp only [Act.put, List.setIfInBounds_toArray, List.set_cons_zero, List.set_cons_succ]
          refine wpAnyH_take (i := 2) (oi := { dst := some 86, op := _, type := _, pos := _, after := _, guard := _ }) (v := .pointer (some ⟨q, 0, none⟩)) rfl (by kernel_rfl) (by kernel_rfl) (by kernel_rfl) (fun _ _ _ h => h) (Or.inl ⟨by rfl, ?_⟩) (by assumption) ?_
          · intro w9 hSw
            exact y_move rfl rfl
          simp only [Act.put, List.setIfInBounds_toArray, List.set_cons_zero, List.set_cons_succ]
          refine wpAnyH_take (i := 3) (oi := { dst := some 87, op := _, type := _, pos := _, after := _, guard := _ }) (v := .pointer (some ⟨q, 0, none⟩)) rfl (by kernel_rfl) (by kernel_rfl) (by kernel_rfl) (fun _ _ _ h => h) (Or.inl ⟨by rfl, ?_⟩) (by assumption) ?_
          · intro w9 hSw
            exact y_nil rfl rfl
          simp only [Act.put, List.setIfInBounds_toArray, List.set_cons_zero, List.set_cons_succ]
          refine wpAnyH_take (i := 4) (oi := { dst := some 88, op := _, type := _, pos := _, after := _, guard := _ }) (v := .pointer (some ⟨q, 0, none⟩)) rfl (by kernel_rfl) (by kernel_rfl) (by kernel_rfl) (fun _ _ _ h => h) (Or.inl ⟨by rfl, ?_⟩) (by assumption) ?_
          · intro w9 hSw
            exact y_field rfl rfl (field_r0 _ _)
          simp only [Act.put, List.setIfInBounds_toArray, List.set_cons_zero, List.set_cons_succ]
          refine wpAnyH_take (i := 5) (oi := { dst := some 89, op := _, type := _, pos := _, after := _, guard := _ }) (v := .slice ar nr cr) rfl (by kernel_rfl) (by kernel_rfl) (by kernel_rfl) (fun _ _ _ h => h) (Or.inl ⟨by rfl, ?_⟩) (by assumption) ?_
          · intro w9 hSw
            exact y_load rfl rfl (load_evs hSw)
          simp only [Act.put, List.setIfInBounds_toArray, List.set_cons_zero, List.set_cons_succ]
          refine wpAnyH_take (i := 6) (oi := { dst := some 90, op := _, type := _, pos := _, after := _, guard := _ }) (v := .int .i64 (nr : Int)) rfl (by kernel_rfl) (by kernel_rfl) (by kernel_rfl) (fun _ _ _ h => h) (Or.inl ⟨by rfl, ?_⟩) (by assumption) ?_
          · intro w9 hSw
            exact y_len rfl rfl
          simp only [Act.put, List.setIfInBounds_toArray, List.set_cons_zero, List.set_cons_succ]
          clear hHeld
          refine wpAnyH_ready (rs := [1]) (by kernel_rfl) (by simp) ?_
          refine AllReadyH.cons (o := { dst := some 85, op := _, type := _, pos := _, after := _, guard := _ }) rfl (fun K hK => ?_) AllReadyH.nil
          rw [if_pos (by rfl)]
          refine y_call (f := 17) (xs := [.tmp 84]) (vs := [.pointer (some ⟨g', 0, none⟩)]) rfl rfl (enters_plen _ _) hLen ?_
          rintro ex wz ⟨rfl, hbz⟩
          refine ⟨_, rfl, ?_⟩
          have hcqz : wz.cell? ⟨q, 0, none⟩ = some (.slice ar nr cr) := (hbz.cell (World.block_lt_of_cell? _ _ hcq)).trans hcq
          refine hK.out _ _ hcqz (fun hHeld => ?_)
          clear hK K
          simp only [Act.put, List.setIfInBounds_toArray, List.set_cons_zero, List.set_cons_succ]
          refine wpAnyH_take (i := 7) (oi := { dst := some 91, op := _, type := _, pos := _, after := _, guard := _ }) (v := .bool false) rfl (by kernel_rfl) (by kernel_rfl) (by kernel_rfl) (fun _ _ _ h => h) (Or.inl ⟨by rfl, ?_⟩) (by assumption) ?_
          · intro w9 hSw
            exact y_bin rfl rfl rfl (eqGuard_int _) (neq_int_same _ _)
          simp only [Act.put, List.setIfInBounds_toArray, List.set_cons_zero, List.set_cons_succ]
          refine wpAnyH_done (by kernel_rfl) ?_ _
          refine NoPanic.normal ?_
          clear hHeld
          have HALL : Hid (Lw 31 w.heap.size wz g' lv' (L ++ [o.e]) ∧ Lw 29 w.heap.size wz q (.slice a2 n2 c2) (L ++ [o.e]) ∧ Ap g' q lv' (.slice a2 n2 c2) ∧ Below w.heap.size w wz) := ⟨hP.below hbz, hR.below hbz, hAp, hBw.trans (hbz.mono hBw.size)⟩
          clear hP hR hBw hcq hcqz hLen hbz hAp hWt
          go_wp2
          go_roundw
          case rel => exact ⟨k + 1, lv', (.slice a2 n2 c2), (L ++ [o.e]), by omega, by go_num, by omega, HALL.out⟩
          case measure => simp [intOf]; omega
        refine AllReadyH.cons (o := { dst := some 49, op := _, type := _, pos := _, after := _, guard := _ }) rfl (fun K hK => ?_) AllReadyH.nil
        rw [if_pos (by rfl)]
        refine y_build (ty := 27) (k := 1) (x := .tmp 48) (u := .agg (evc o.e)) (v := .slice (some ⟨W.heap.size, 0, none⟩) 1 1) (w' := wA) rfl rfl hbu ?_
        refine hK.out _ _ hDA (fun hHeld => ?_)
        clear hK K
        simp only [Act.put, List.setIfInBounds_toArray, List.set_cons_zero, List.set_cons_succ]
        clear hHeld
        refine wpAnyH_ready (rs := [4]) (by kernel_rfl) (by simp) ?_
        refine AllReadyH.cons (o := { dst := some 46, op := _, type := _, pos := _, after := _, guard := _ }) rfl (fun K hK => ?_) AllReadyH.nil
        rw [if_pos (by rfl)]
        refine y_ldw (ty := 27) (x := .tmp 45) (ad := ⟨q, 0, none⟩) (v := rv) rfl rfl (load_evs hcA) ?_
        refine hK.out _ _ hDA (fun hHeld => ?_)
        clear hK K
        simp only [Act.put, List.setIfInBounds_toArray, List.set_cons_zero, List.set_cons_succ]
        clear hHeld
        refine wpAnyH_ready (rs := [8]) (by kernel_rfl) (by simp) ?_
        refine AllReadyH.cons (o := { dst := some 50, op := _, type := _, pos := _, after := _, guard := _ }) rfl (fun K hK => ?_) AllReadyH.nil
        rw [if_pos (by rfl)]
        refine y_app (x := .tmp 46) (y := .tmp 49) (v := rv) (q := .slice (some ⟨W.heap.size, 0, none⟩) 1 1) (z := .slice a2 n2 c2) (w' := wB) rfl rfl rfl hap ?_
        refine hK.out _ _ hDB (fun hHeld => ?_)
        clear hK K
        simp only [Act.put, List.setIfInBounds_toArray, List.set_cons_zero, List.set_cons_succ]
        refine wpAnyH_take (i := 9) (oi := { dst := some 51, op := _, type := _, pos := _, after := _, guard := _ }) (v := .pointer (some ⟨q, 0, none⟩)) rfl (by kernel_rfl) (by kernel_rfl) (by kernel_rfl) (fun _ _ _ h => h) (Or.inl ⟨by rfl, ?_⟩) (by assumption) ?_
        · intro w9 hSw
          exact y_nil rfl rfl
        simp only [Act.put, List.setIfInBounds_toArray, List.set_cons_zero, List.set_cons_succ]
        refine wpAnyH_take (i := 10) (oi := { dst := some 52, op := _, type := _, pos := _, after := _, guard := _ }) (v := .pointer (some ⟨q, 0, none⟩)) rfl (by kernel_rfl) (by kernel_rfl) (by kernel_rfl) (fun _ _ _ h => h) (Or.inl ⟨by rfl, ?_⟩) (by assumption) ?_
        · intro w9 hSw
          exact y_field rfl rfl (field_r0 _ _)
        simp only [Act.put, List.setIfInBounds_toArray, List.set_cons_zero, List.set_cons_succ]
        clear hHeld
        refine wpAnyH_ready (rs := [11]) (by kernel_rfl) (by simp) ?_
        refine AllReadyH.cons (o := { dst := none, op := _, type := _, pos := _, after := _, guard := _ }) rfl (fun K hK => ?_) AllReadyH.nil
        rw [if_pos (by rfl)]
        refine y_store (ty := 27) (x := .tmp 52) (y := .tmp 50) (ad := ⟨q, 0, none⟩) (v := .slice a2 n2 c2) (w' := wC) rfl rfl rfl hst ?_
        refine hK.out _ _ hDC (fun hHeld => ?_)
        clear hK K
        simp only [Act.put]
        clear hHeld
        have hHeld := hDC
        refine wpAnyH_done (by kernel_rfl) ?_ _
        refine NoPanic.normal ?_
        clear hHeld
        obtain ⟨hP, hR, hAp, hBw⟩ := HX.out
        clear HX hLA hbA hgB hC hcA hcW hcB hDA hDB hDC hst hbu hap hW hRd hDW
        obtain ⟨Wt, hWt⟩ : ∃ Wt, Wt = wC.drew := ⟨_, rfl⟩
        have hP : Lw 31 w.heap.size Wt g' lv' (L ++ [o.e]) := by rw [hWt]; exact hP.drew
        have hR : Lw 29 w.heap.size Wt q (.slice a2 n2 c2) (L ++ [o.e]) := by rw [hWt]; exact hR.drew
        have hBw : Below w.heap.size w Wt := by rw [hWt]; exact hBw.drew
        obtain ⟨ar, cr, hrv, -⟩ := hR.lp.val
        have hcq := hR.lp.c0
        rw [hrv] at hcq
        clear hrv
        have hLen := plen_any _ _ Wt hP.lp.lp
        obtain ⟨nr, hnr⟩ : ∃ nr, ((L ++ [o.e])).length = nr := ⟨_, rfl⟩
        rw [hnr] at hLen hcq
        go_wp2_with fail
        refine wp_region_noPanic ?_
        refine wp_region_held_drew (S := fun W' : World => W'.cell? ⟨q, 0, none⟩ = some (.slice ar nr cr)) (by kernel_rfl) (by rw [← hWt]; exact hcq) (fun hHeld => ?_)
        rw [← hWt] at hHeld ⊢
        refine wpAnyH_take (i := 0) (oi := { dst := some 84, op := _, type := _, pos := _, after := _, guard := _ }) (v := .pointer (some ⟨g', 0, none⟩)) rfl (by kernel_rfl) (by kernel_rfl) (by kernel_rfl) (fun _ _ _ h => h) (Or.inl ⟨by rfl, ?_⟩) (by assumption) ?_
        · intro w9 hSw
          exact y_move rfl rfl
        simp only [Act.put, List.setIfInBounds_toArray, List.set_cons_zero, List.set_cons_succ]
        refine wpAnyH_take (i := 2) (oi := { dst := some 86, op := _, type := _, pos := _, after := _, guard := _ }) (v := .pointer (some ⟨q, 0, none⟩)) rfl (by kernel_rfl) (by kernel_rfl) (by kernel_rfl) (fun _ _ _ h => h) (Or.inl ⟨by rfl, ?_⟩) (by assumption) ?_
        · intro w9 hSw
          exact y_move rfl rfl
        simp only [Act.put, List.setIfInBounds_toArray, List.set_cons_zero, List.set_cons_succ]
        refine wpAnyH_take (i := 3) (oi := { dst := some 87, op := _, type := _, pos := _, after := _, guard := _ }) (v := .pointer (some ⟨q, 0, none⟩)) rfl (by kernel_rfl) (by kernel_rfl) (by kernel_rfl) (fun _ _ _ h => h) (Or.inl ⟨by rfl, ?_⟩) (by assumption) ?_
        · intro w9 hSw
          exact y_nil rfl rfl
        simp only [Act.put, List.setIfInBounds_toArray, List.set_cons_zero, List.set_cons_succ]
        refine wpAnyH_take (i := 4) (oi := { dst := some 88, op := _, type := _, pos := _, after := _, guard := _ }) (v := .pointer (some ⟨q, 0, none⟩)) rfl (by kernel_rfl) (by kernel_rfl) (by kernel_rfl) (fun _ _ _ h => h) (Or.inl ⟨by rfl, ?_⟩) (by assumption) ?_
        · intro w9 hSw
          exact y_field rfl rfl (field_r0 _ _)
        simp only [Act.put, List.setIfInBounds_toArray, List.set_cons_zero, List.set_cons_succ]
        refine wpAnyH_take (i := 5) (oi := { dst := some 89, op := _, type := _, pos := _, after := _, guard := _ }) (v := .slice ar nr cr) rfl (by kernel_rfl) (by kernel_rfl) (by kernel_rfl) (fun _ _ _ h => h) (Or.inl ⟨by rfl, ?_⟩) (by assumption) ?_
        · intro w9 hSw
          exact y_load rfl rfl (load_evs hSw)
        simp only [Act.put, List.setIfInBounds_toArray, List.set_cons_zero, List.set_cons_succ]
        refine wpAnyH_take (i := 6) (oi := { dst := some 90, op := _, type := _, pos := _, after := _, guard := _ }) (v := .int .i64 (nr : Int)) rfl (by kernel_rfl) (by kernel_rfl) (by kernel_rfl) (fun _ _ _ h => h) (Or.inl ⟨by rfl, ?_⟩) (by assumption) ?_
        · intro w9 hSw
          exact y_len rfl rfl
        simp only [Act.put, List.setIfInBounds_toArray, List.set_cons_zero, List.set_cons_succ]
        clear hHeld
        refine wpAnyH_ready (rs := [1]) (by kernel_rfl) (by simp) ?_
        refine AllReadyH.cons (o := { dst := some 85, op := _, type := _, pos := _, after := _, guard := _ }) rfl (fun K hK => ?_) AllReadyH.nil
        rw [if_pos (by rfl)]
        refine y_call (f := 17) (xs := [.tmp 84]) (vs := [.pointer (some ⟨g', 0, none⟩)]) rfl rfl (enters_plen _ _) hLen ?_
        rintro ex wz ⟨rfl, hbz⟩
        refine ⟨_, rfl, ?_⟩
        have hcqz : wz.cell? ⟨q, 0, none⟩ = some (.slice ar nr cr) := (hbz.cell (World.block_lt_of_cell? _ _ hcq)).trans hcq
        refine hK.out _ _ hcqz (fun hHeld => ?_)
        clear hK K
        simp only [Act.put, List.setIfInBounds_toArray, List.set_cons_zero, List.set_cons_succ]
        refine wpAnyH_take (i := 7) (oi := { dst := some 91, op := _, type := _, pos := _, after := _, guard := _ }) (v := .bool false) rfl (by kernel_rfl) (by kernel_rfl) (by kernel_rfl) (fun _ _ _ h => h) (Or.inl ⟨by rfl, ?_⟩) (by assumption) ?_
        · intro w9 hSw
          exact y_bin rfl rfl rfl (eqGuard_int _) (neq_int_same _ _)
        simp only [Act.put, List.setIfInBounds_toArray, List.set_cons_zero, List.set_cons_succ]
        refine wpAnyH_done (by kernel_rfl) ?_ _
        refine NoPanic.normal ?_
        clear hHeld
        have HALL : Hid (Lw 31 w.heap.size wz g' lv' (L ++ [o.e]) ∧ Lw 29 w.heap.size wz q (.slice a2 n2 c2) (L ++ [o.e]) ∧ Ap g' q lv' (.slice a2 n2 c2) ∧ Below w.heap.size w wz) := ⟨hP.below hbz, hR.below hbz, hAp, hBw.trans (hbz.mono hBw.size)⟩
        clear hP hR hBw hcq hcqz hLen hbz hAp hWt
        go_wp2
        go_roundw
        case rel => exact ⟨k + 1, lv', (.slice a2 n2 c2), (L ++ [o.e]), by omega, by go_num, by omega, HALL.out⟩
        case measure => simp [intOf]; omega
      · have hq1 : (o.kind == 1) = false := by simpa using h1
        by_cases h2 : o.kind = 2
        · rw [h2] at hkc hq1
          obtain ⟨W, hW⟩ : ∃ W, W = W1.drew := ⟨_, rfl⟩
          have hPd : Lw 31 w.heap.size W g' lv L := by rw [hW]; exact hP1.drew
          have hRd : Lw 29 w.heap.size W q rv L := by rw [hW]; exact hR1.drew
          have hDW : LiesP W D o := by rw [hW]; exact hD
          have hBd : Below w.heap.size w W := by rw [hW]; exact hB1.drew
          clear hP1 hR1 hD hB1
          go_wp2_with fail
          clear hkc
          refine wp_region_noPanic ?_
          refine wp_region_held_drew (S := fun W' : World => LiesP W' D o) (by kernel_rfl) (by rw [← hW]; exact hDW) (fun hHeld => ?_)
          rw [← hW] at hHeld ⊢
          refine wpAnyH_take (i := 0) (oi := { dst := some 55, op := _, type := _, pos := _, after := _, guard := _ }) (v := .pointer (some ⟨g', 0, none⟩)) rfl (by kernel_rfl) (by kernel_rfl) (by kernel_rfl) (fun _ _ _ h => h) (Or.inl ⟨by rfl, ?_⟩) (by assumption) ?_
          · intro w9 hSw
            exact y_move rfl rfl
          simp only [Act.put, List.setIfInBounds_toArray, List.set_cons_zero, List.set_cons_succ]
          refine wpAnyH_take (i := 1) (oi := { dst := some 56, op := _, type := _, pos := _, after := _, guard := _ }) (v := .pointer (some ⟨D, 27, none⟩)) rfl (by kernel_rfl) (by kernel_rfl) (by kernel_rfl) (fun _ _ _ h => h) (Or.inl ⟨by rfl, ?_⟩) (by assumption) ?_
          · intro w9 hSw
            exact y_field rfl rfl (field_p2 _ _)
          simp only [Act.put, List.setIfInBounds_toArray, List.set_cons_zero, List.set_cons_succ]
          refine wpAnyH_take (i := 2) (oi := { dst := some 57, op := _, type := _, pos := _, after := _, guard := _ }) (v := .agg (vals o.v)) rfl (by kernel_rfl) (by kernel_rfl) (by kernel_rfl) (fun _ _ _ h => h) (Or.inl ⟨by rfl, ?_⟩) (by assumption) ?_
          · intro w9 hSw
            exact y_load rfl rfl (ldv_p hSw ho)
          simp only [Act.put, List.setIfInBounds_toArray, List.set_cons_zero, List.set_cons_succ]
          refine wpAnyH_take (i := 3) (oi := { dst := some 58, op := _, type := _, pos := _, after := _, guard := _ }) (v := .pointer (some ⟨D, 43, none⟩)) rfl (by kernel_rfl) (by kernel_rfl) (by kernel_rfl) (fun _ _ _ h => h) (Or.inl ⟨by rfl, ?_⟩) (by assumption) ?_
          · intro w9 hSw
            exact y_field rfl rfl (field_p3 _ _)
          simp only [Act.put, List.setIfInBounds_toArray, List.set_cons_zero, List.set_cons_succ]
          refine wpAnyH_take (i := 4) (oi := { dst := some 59, op := _, type := _, pos := _, after := _, guard := _ }) (v := .agg (vals o.w)) rfl (by kernel_rfl) (by kernel_rfl) (by kernel_rfl) (fun _ _ _ h => h) (Or.inl ⟨by rfl, ?_⟩) (by assumption) ?_
          · intro w9 hSw
            exact y_load rfl rfl (ldw_p hSw ho)
          simp only [Act.put, List.setIfInBounds_toArray, List.set_cons_zero, List.set_cons_succ]
          refine wpAnyH_take (i := 5) (oi := { dst := some 60, op := _, type := _, pos := _, after := _, guard := _ }) (v := .pointer (some ⟨D, 59, none⟩)) rfl (by kernel_rfl) (by kernel_rfl) (by kernel_rfl) (fun _ _ _ h => h) (Or.inl ⟨by rfl, ?_⟩) (by assumption) ?_
          · intro w9 hSw
            exact y_field rfl rfl (field_p4 _ _)
          simp only [Act.put, List.setIfInBounds_toArray, List.set_cons_zero, List.set_cons_succ]
          refine wpAnyH_take (i := 6) (oi := { dst := some 61, op := _, type := _, pos := _, after := _, guard := _ }) (v := .int .i64 o.n) rfl (by kernel_rfl) (by kernel_rfl) (by kernel_rfl) (fun _ _ _ h => h) (Or.inl ⟨by rfl, ?_⟩) (by assumption) ?_
          · intro w9 hSw
            exact y_load rfl rfl (ldn_p hSw ho)
          simp only [Act.put, List.setIfInBounds_toArray, List.set_cons_zero, List.set_cons_succ]
          refine wpAnyH_take (i := 8) (oi := { dst := some 63, op := _, type := _, pos := _, after := _, guard := _ }) (v := .pointer (some ⟨q, 0, none⟩)) rfl (by kernel_rfl) (by kernel_rfl) (by kernel_rfl) (fun _ _ _ h => h) (Or.inl ⟨by rfl, ?_⟩) (by assumption) ?_
          · intro w9 hSw
            exact y_move rfl rfl
          simp only [Act.put, List.setIfInBounds_toArray, List.set_cons_zero, List.set_cons_succ]
          refine wpAnyH_take (i := 9) (oi := { dst := some 64, op := _, type := _, pos := _, after := _, guard := _ }) (v := .pointer (some ⟨D, 27, none⟩)) rfl (by kernel_rfl) (by kernel_rfl) (by kernel_rfl) (fun _ _ _ h => h) (Or.inl ⟨by rfl, ?_⟩) (by assumption) ?_
          · intro w9 hSw
            exact y_field rfl rfl (field_p2 _ _)
          simp only [Act.put, List.setIfInBounds_toArray, List.set_cons_zero, List.set_cons_succ]
          refine wpAnyH_take (i := 10) (oi := { dst := some 65, op := _, type := _, pos := _, after := _, guard := _ }) (v := .agg (vals o.v)) rfl (by kernel_rfl) (by kernel_rfl) (by kernel_rfl) (fun _ _ _ h => h) (Or.inl ⟨by rfl, ?_⟩) (by assumption) ?_
          · intro w9 hSw
            exact y_load rfl rfl (ldv_p hSw ho)
          simp only [Act.put, List.setIfInBounds_toArray, List.set_cons_zero, List.set_cons_succ]
          refine wpAnyH_take (i := 11) (oi := { dst := some 66, op := _, type := _, pos := _, after := _, guard := _ }) (v := .pointer (some ⟨D, 43, none⟩)) rfl (by kernel_rfl) (by kernel_rfl) (by kernel_rfl) (fun _ _ _ h => h) (Or.inl ⟨by rfl, ?_⟩) (by assumption) ?_
          · intro w9 hSw
            exact y_field rfl rfl (field_p3 _ _)
          simp only [Act.put, List.setIfInBounds_toArray, List.set_cons_zero, List.set_cons_succ]
          refine wpAnyH_take (i := 12) (oi := { dst := some 67, op := _, type := _, pos := _, after := _, guard := _ }) (v := .agg (vals o.w)) rfl (by kernel_rfl) (by kernel_rfl) (by kernel_rfl) (fun _ _ _ h => h) (Or.inl ⟨by rfl, ?_⟩) (by assumption) ?_
          · intro w9 hSw
            exact y_load rfl rfl (ldw_p hSw ho)
          simp only [Act.put, List.setIfInBounds_toArray, List.set_cons_zero, List.set_cons_succ]
          refine wpAnyH_take (i := 13) (oi := { dst := some 68, op := _, type := _, pos := _, after := _, guard := _ }) (v := .pointer (some ⟨D, 59, none⟩)) rfl (by kernel_rfl) (by kernel_rfl) (by kernel_rfl) (fun _ _ _ h => h) (Or.inl ⟨by rfl, ?_⟩) (by assumption) ?_
          · intro w9 hSw
            exact y_field rfl rfl (field_p4 _ _)
          simp only [Act.put, List.setIfInBounds_toArray, List.set_cons_zero, List.set_cons_succ]
          refine wpAnyH_take (i := 14) (oi := { dst := some 69, op := _, type := _, pos := _, after := _, guard := _ }) (v := .int .i64 o.n) rfl (by kernel_rfl) (by kernel_rfl) (by kernel_rfl) (fun _ _ _ h => h) (Or.inl ⟨by rfl, ?_⟩) (by assumption) ?_
          · intro w9 hSw
            exact y_load rfl rfl (ldn_p hSw ho)
          simp only [Act.put, List.setIfInBounds_toArray, List.set_cons_zero, List.set_cons_succ]
          clear hHeld
          refine wpAnyH_ready (rs := [7]) (by kernel_rfl) (by simp) ?_
          refine AllReadyH.cons (o := { dst := some 62, op := _, type := _, pos := _, after := _, guard := _ }) rfl (fun K hK => ?_) AllReadyH.nil
          rw [if_pos (by rfl)]
          refine y_call (f := 13) (xs := [.tmp 55, .tmp 57, .tmp 59, .tmp 61]) (vs := [.pointer (some ⟨g', 0, none⟩), .agg (vals o.v), .agg (vals o.w), .int .i64 o.n]) rfl rfl (enters_pfor _ _) (pfor_any _ L o.v o.w ho.v ho.w o.n (by omega) W hPd.lp.lp) ?_
          rintro ex w6 ⟨r1, rfl, hR1, hb6⟩
          refine ⟨_, rfl, ?_⟩
          have hP6 := hPd.below hb6
          have hR6 := hRd.below hb6
          have hD6 := liesP_below hDW hb6
          refine hK.out _ _ hD6 (fun hHeld => ?_)
          clear hK K
          simp only [Act.put, List.setIfInBounds_toArray, List.set_cons_zero, List.set_cons_succ]
          clear hHeld
          refine wpAnyH_ready (rs := [15]) (by kernel_rfl) (by simp) ?_
          refine AllReadyH.cons (o := { dst := some 70, op := _, type := _, pos := _, after := _, guard := _ }) rfl (fun K hK => ?_) AllReadyH.nil
          rw [if_pos (by rfl)]
          refine y_call (f := 14) (xs := [.tmp 63, .tmp 65, .tmp 67, .tmp 69]) (vs := [.pointer (some ⟨q, 0, none⟩), .agg (vals o.v), .agg (vals o.w), .int .i64 o.n]) rfl rfl (enters_rfor _ _) (rfor_any q rv L o.v o.w ho.v ho.w o.n (by omega) w6 hR6.lp) ?_
          rintro ex w7 ⟨r2, rfl, hR2, hb7⟩
          refine ⟨_, rfl, ?_⟩
          have hD7 := liesP_below hD6 hb7
          have hR1' := hR1.below hb7 (Nat.le_refl _)
          obtain ⟨a1, c1, rfl, hE1⟩ := hR1'.evs (fun e he => hPd.lp.wide e (for_mem he))
          obtain ⟨a2, c2, rfl, hE2⟩ := hR2.evs (fun e he => hPd.lp.wide e (for_mem he))
          refine hK.out _ _ hD7 (fun hHeld => ?_)
          clear hK K
          simp only [Act.put, List.setIfInBounds_toArray, List.set_cons_zero, List.set_cons_succ]
          clear hHeld
          refine wpAnyH_ready (rs := [16]) (by kernel_rfl) (by simp) ?_
          refine AllReadyH.cons (o := { dst := some 71, op := _, type := _, pos := _, after := _, guard := _ }) rfl (fun K hK => ?_) AllReadyH.nil
          rw [if_pos (by rfl)]
          refine y_call (f := 12) (xs := [.tmp 62, .tmp 70]) (vs := [.slice a1 (forE L o.v o.w o.n).length c1, .slice a2 (forE L o.v o.w o.n).length c2]) rfl rfl (enters_same _ _) (same_yes a1 a2 _ c1 c2 (forE L o.v o.w o.n) w7 hE1 hE2 (by have := for_len L o.v o.w o.n; omega)) ?_
          rintro ex w8 ⟨rfl, hb8⟩
          refine ⟨_, rfl, ?_⟩
          have hD8 := liesP_below hD7 hb8
          refine hK.out _ _ hD8 (fun hHeld => ?_)
          clear hK K
          simp only [Act.put, List.setIfInBounds_toArray, List.set_cons_zero, List.set_cons_succ]
          refine wpAnyH_take (i := 17) (oi := { dst := some 72, op := _, type := _, pos := _, after := _, guard := _ }) (v := .bool false) rfl (by kernel_rfl) (by kernel_rfl) (by kernel_rfl) (fun _ _ _ h => h) (Or.inl ⟨by rfl, ?_⟩) (by assumption) ?_
          · intro w9 hSw
            exact y_not (b := true) rfl rfl
          simp only [Act.put, List.setIfInBounds_toArray, List.set_cons_zero, List.set_cons_succ]
          refine wpAnyH_done (by kernel_rfl) ?_ _
          refine NoPanic.normal ?_
          clear hHeld
          have hBw : Below w.heap.size w w8 := ((hBd.trans (hb6.mono hBd.size)).trans (hb7.mono (Nat.le_trans hBd.size hb6.size))).trans (hb8.mono (Nat.le_trans hBd.size (Nat.le_trans hb6.size hb7.size)))
          have hP := (hP6.below hb7).below hb8
          have hR := (hR6.below hb7).below hb8
          clear hPd hRd hP6 hR6 hb6 hb7 hb8 hBd hR1 hR1' hR2 hE1 hE2 hD6 hD7 hD8 hDW hW
          obtain ⟨Wt, hWt⟩ : ∃ Wt, Wt = w8.drew := ⟨_, rfl⟩
          have hP : Lw 31 w.heap.size Wt g' lv L := by rw [hWt]; exact hP.drew
          have hR : Lw 29 w.heap.size Wt q rv L := by rw [hWt]; exact hR.drew
          have hBw : Below w.heap.size w Wt := by rw [hWt]; exact hBw.drew
          obtain ⟨ar, cr, hrv, -⟩ := hR.lp.val
          have hcq := hR.lp.c0
          rw [hrv] at hcq
          clear hrv
          have hLen := plen_any _ _ Wt hP.lp.lp
          obtain ⟨nr, hnr⟩ : ∃ nr, (L).length = nr := ⟨_, rfl⟩
          rw [hnr] at hLen hcq
          go_wp2_with fail
          refine wp_region_noPanic ?_
          refine wp_region_held_drew (S := fun W' : World => W'.cell? ⟨q, 0, none⟩ = some (.slice ar nr cr)) (by kernel_rfl) (by rw [← hWt]; exact hcq) (fun hHeld => ?_)
          rw [← hWt] at hHeld ⊢
          refine wpAnyH_take (i := 0) (oi := { dst := some 84, op := _, type := _, pos := _, after := _, guard := _ }) (v := .pointer (some ⟨g', 0, none⟩)) rfl (by kernel_rfl) (by kernel_rfl) (by kernel_rfl) (fun _ _ _ h => h) (Or.inl ⟨by rfl, ?_⟩) (by assumption) ?_
          · intro w9 hSw
            exact y_move rfl rfl
          simp only [Act.put, List.setIfInBounds_toArray, List.set_cons_zero, List.set_cons_succ]
          refine wpAnyH_take (i := 2) (oi := { dst := some 86, op := _, type := _, pos := _, after := _, guard := _ }) (v := .pointer (some ⟨q, 0, none⟩)) rfl (by kernel_rfl) (by kernel_rfl) (by kernel_rfl) (fun _ _ _ h => h) (Or.inl ⟨by rfl, ?_⟩) (by assumption) ?_
          · intro w9 hSw
            exact y_move rfl rfl
          simp only [Act.put, List.setIfInBounds_toArray, List.set_cons_zero, List.set_cons_succ]
          refine wpAnyH_take (i := 3) (oi := { dst := some 87, op := _, type := _, pos := _, after := _, guard := _ }) (v := .pointer (some ⟨q, 0, none⟩)) rfl (by kernel_rfl) (by kernel_rfl) (by kernel_rfl) (fun _ _ _ h => h) (Or.inl ⟨by rfl, ?_⟩) (by assumption) ?_
          · intro w9 hSw
            exact y_nil rfl rfl
          simp only [Act.put, List.setIfInBounds_toArray, List.set_cons_zero, List.set_cons_succ]
          refine wpAnyH_take (i := 4) (oi := { dst := some 88, op := _, type := _, pos := _, after := _, guard := _ }) (v := .pointer (some ⟨q, 0, none⟩)) rfl (by kernel_rfl) (by kernel_rfl) (by kernel_rfl) (fun _ _ _ h => h) (Or.inl ⟨by rfl, ?_⟩) (by assumption) ?_
          · intro w9 hSw
            exact y_field rfl rfl (field_r0 _ _)
          simp only [Act.put, List.setIfInBounds_toArray, List.set_cons_zero, List.set_cons_succ]
          refine wpAnyH_take (i := 5) (oi := { dst := some 89, op := _, type := _, pos := _, after := _, guard := _ }) (v := .slice ar nr cr) rfl (by kernel_rfl) (by kernel_rfl) (by kernel_rfl) (fun _ _ _ h => h) (Or.inl ⟨by rfl, ?_⟩) (by assumption) ?_
          · intro w9 hSw
            exact y_load rfl rfl (load_evs hSw)
          simp only [Act.put, List.setIfInBounds_toArray, List.set_cons_zero, List.set_cons_succ]
          refine wpAnyH_take (i := 6) (oi := { dst := some 90, op := _, type := _, pos := _, after := _, guard := _ }) (v := .int .i64 (nr : Int)) rfl (by kernel_rfl) (by kernel_rfl) (by kernel_rfl) (fun _ _ _ h => h) (Or.inl ⟨by rfl, ?_⟩) (by assumption) ?_
          · intro w9 hSw
            exact y_len rfl rfl
          simp only [Act.put, List.setIfInBounds_toArray, List.set_cons_zero, List.set_cons_succ]
          clear hHeld
          refine wpAnyH_ready (rs := [1]) (by kernel_rfl) (by simp) ?_
          refine AllReadyH.cons (o := { dst := some 85, op := _, type := _, pos := _, after := _, guard := _ }) rfl (fun K hK => ?_) AllReadyH.nil
          rw [if_pos (by rfl)]
          refine y_call (f := 17) (xs := [.tmp 84]) (vs := [.pointer (some ⟨g', 0, none⟩)]) rfl rfl (enters_plen _ _) hLen ?_
          rintro ex wz ⟨rfl, hbz⟩
          refine ⟨_, rfl, ?_⟩
          have hcqz : wz.cell? ⟨q, 0, none⟩ = some (.slice ar nr cr) := (hbz.cell (World.block_lt_of_cell? _ _ hcq)).trans hcq
          refine hK.out _ _ hcqz (fun hHeld => ?_)
          clear hK K
          simp only [Act.put, List.setIfInBounds_toArray, List.set_cons_zero, List.set_cons_succ]
          refine wpAnyH_take (i := 7) (oi := { dst := some 91, op := _, type := _, pos := _, after := _, guard := _ }) (v := .bool false) rfl (by kernel_rfl) (by kernel_rfl) (by kernel_rfl) (fun _ _ _ h => h) (Or.inl ⟨by rfl, ?_⟩) (by assumption) ?_
          · intro w9 hSw
            exact y_bin rfl rfl rfl (eqGuard_int _) (neq_int_same _ _)
          simp only [Act.put, List.setIfInBounds_toArray, List.set_cons_zero, List.set_cons_succ]
          refine wpAnyH_done (by kernel_rfl) ?_ _
          refine NoPanic.normal ?_
          clear hHeld
          have HALL : Hid (Lw 31 w.heap.size wz g' lv L ∧ Lw 29 w.heap.size wz q rv L ∧ Ap g' q lv rv ∧ Below w.heap.size w wz) := ⟨hP.below hbz, hR.below hbz, hAp, hBw.trans (hbz.mono hBw.size)⟩
          clear hP hR hBw hcq hcqz hLen hbz hAp hWt
          go_wp2
          go_roundw
          case rel => exact ⟨k + 1, lv, rv, L, by omega, by go_num, by omega, HALL.out⟩
          case measure => simp [intOf]; omega
        · by_cases h3 : o.kind = 3
          · rw [h3] at hkc hq1
            obtain ⟨W, hW⟩ : ∃ W, W = W1.drew := ⟨_, rfl⟩
            have hPd : Lw 31 w.heap.size W g' lv L := by rw [hW]; exact hP1.drew
            have hRd : Lw 29 w.heap.size W q rv L := by rw [hW]; exact hR1.drew
            have hDW : LiesP W D o := by rw [hW]; exact hD
            have hBd : Below w.heap.size w W := by rw [hW]; exact hB1.drew
            clear hP1 hR1 hD hB1
            go_wp2_with fail
            clear hkc
            refine wp_region_noPanic ?_
            refine wp_region_held_drew (S := fun W' : World => LiesP W' D o) (by kernel_rfl) (by rw [← hW]; exact hDW) (fun hHeld => ?_)
            rw [← hW] at hHeld ⊢
            refine wpAnyH_take (i := 0) (oi := { dst := some 75, op := _, type := _, pos := _, after := _, guard := _ }) (v := .pointer (some ⟨g', 0, none⟩)) rfl (by kernel_rfl) (by kernel_rfl) (by kernel_rfl) (fun _ _ _ h => h) (Or.inl ⟨by rfl, ?_⟩) (by assumption) ?_
            · intro w9 hSw
              exact y_move rfl rfl
            simp only [Act.put, List.setIfInBounds_toArray, List.set_cons_zero, List.set_cons_succ]
            refine wpAnyH_take (i := 1) (oi := { dst := some 76, op := _, type := _, pos := _, after := _, guard := _ }) (v := .pointer (some ⟨D, 27, none⟩)) rfl (by kernel_rfl) (by kernel_rfl) (by kernel_rfl) (fun _ _ _ h => h) (Or.inl ⟨by rfl, ?_⟩) (by assumption) ?_
            · intro w9 hSw
              exact y_field rfl rfl (field_p2 _ _)
            simp only [Act.put, List.setIfInBounds_toArray, List.set_cons_zero, List.set_cons_succ]
            refine wpAnyH_take (i := 2) (oi := { dst := some 77, op := _, type := _, pos := _, after := _, guard := _ }) (v := .agg (vals o.v)) rfl (by kernel_rfl) (by kernel_rfl) (by kernel_rfl) (fun _ _ _ h => h) (Or.inl ⟨by rfl, ?_⟩) (by assumption) ?_
            · intro w9 hSw
              exact y_load rfl rfl (ldv_p hSw ho)
            simp only [Act.put, List.setIfInBounds_toArray, List.set_cons_zero, List.set_cons_succ]
            refine wpAnyH_take (i := 4) (oi := { dst := some 79, op := _, type := _, pos := _, after := _, guard := _ }) (v := .pointer (some ⟨q, 0, none⟩)) rfl (by kernel_rfl) (by kernel_rfl) (by kernel_rfl) (fun _ _ _ h => h) (Or.inl ⟨by rfl, ?_⟩) (by assumption) ?_
            · intro w9 hSw
              exact y_move rfl rfl
            simp only [Act.put, List.setIfInBounds_toArray, List.set_cons_zero, List.set_cons_succ]
            refine wpAnyH_take (i := 5) (oi := { dst := some 80, op := _, type := _, pos := _, after := _, guard := _ }) (v := .pointer (some ⟨D, 27, none⟩)) rfl (by kernel_rfl) (by kernel_rfl) (by kernel_rfl) (fun _ _ _ h => h) (Or.inl ⟨by rfl, ?_⟩) (by assumption) ?_
            · intro w9 hSw
              exact y_field rfl rfl (field_p2 _ _)
            simp only [Act.put, List.setIfInBounds_toArray, List.set_cons_zero, List.set_cons_succ]
            refine wpAnyH_take (i := 6) (oi := { dst := some 81, op := _, type := _, pos := _, after := _, guard := _ }) (v := .agg (vals o.v)) rfl (by kernel_rfl) (by kernel_rfl) (by kernel_rfl) (fun _ _ _ h => h) (Or.inl ⟨by rfl, ?_⟩) (by assumption) ?_
            · intro w9 hSw
              exact y_load rfl rfl (ldv_p hSw ho)
            simp only [Act.put, List.setIfInBounds_toArray, List.set_cons_zero, List.set_cons_succ]
            clear hHeld
            refine wpAnyH_ready (rs := [3]) (by kernel_rfl) (by simp) ?_
            refine AllReadyH.cons (o := { dst := some 78, op := _, type := _, pos := _, after := _, guard := _ }) rfl (fun K hK => ?_) AllReadyH.nil
            rw [if_pos (by rfl)]
            refine y_call (f := 15) (xs := [.tmp 75, .tmp 77]) (vs := [.pointer (some ⟨g', 0, none⟩), .agg (vals o.v)]) rfl rfl (enters_ptrim _ _) (ptrim_at g' lv L o.v ho.v (by omega) W hPd.lp) ?_
            rintro ex w6 ⟨rfl, lv', hL6, hT6⟩
            refine ⟨_, rfl, ?_⟩
            obtain ⟨hP6, hB6⟩ := hPd.turn hBd.size hL6 hT6
            obtain ⟨hAp6, hR6⟩ := hAp.turn tl_ne tr_ne hPd.lp hRd hT6
            have hD6 : LiesP w6 D o := liesP_turn hDW hPd.lp tl_np hT6
            refine hK.out _ _ hD6 (fun hHeld => ?_)
            clear hK K
            simp only [Act.put, List.setIfInBounds_toArray, List.set_cons_zero, List.set_cons_succ]
            clear hHeld
            refine wpAnyH_ready (rs := [7]) (by kernel_rfl) (by simp) ?_
            refine AllReadyH.cons (o := { dst := some 82, op := _, type := _, pos := _, after := _, guard := _ }) rfl (fun K hK => ?_) AllReadyH.nil
            rw [if_pos (by rfl)]
            refine y_call (f := 16) (xs := [.tmp 79, .tmp 81]) (vs := [.pointer (some ⟨q, 0, none⟩), .agg (vals o.v)]) rfl rfl (enters_rtrim _ _) (rtrim_any q rv L o.v ho.v (by omega) w6 hR6.lp) ?_
            rintro ex w7 ⟨rfl, rv', hL7, hT7⟩
            refine ⟨_, rfl, ?_⟩
            obtain ⟨hR7, hB7⟩ := hR6.turn (Nat.le_trans hBd.size hT6.size) hL7 hT7
            obtain ⟨hAp7, hP7⟩ := hAp6.symm.turn tr_ne tl_ne hR6.lp hP6 hT7
            have hD7 : LiesP w7 D o := liesP_turn hD6 hR6.lp tr_np hT7
            refine hK.out _ _ hD7 (fun hHeld => ?_)
            clear hK K
            simp only [Act.put, List.setIfInBounds_toArray, List.set_cons_zero, List.set_cons_succ]
            refine wpAnyH_take (i := 8) (oi := { dst := some 83, op := _, type := _, pos := _, after := _, guard := _ }) (v := .bool false) rfl (by kernel_rfl) (by kernel_rfl) (by kernel_rfl) (fun _ _ _ h => h) (Or.inl ⟨by rfl, ?_⟩) (by assumption) ?_
            · intro w9 hSw
              exact y_bin rfl rfl rfl (eqGuard_int _) (neq_int_same _ _)
            simp only [Act.put, List.setIfInBounds_toArray, List.set_cons_zero, List.set_cons_succ]
            refine wpAnyH_done (by kernel_rfl) ?_ _
            refine NoPanic.normal ?_
            clear hHeld
            have hBw : Below w.heap.size w w7 := (hBd.trans hB6).trans hB7
            have hP := hP7
            have hR := hR7
            have hAp := hAp7.symm
            have hll := trim_len L o.v
            clear hPd hRd hP6 hR6 hBd hD6 hD7 hDW hW hL6 hT6 hL7 hT7 hB6 hB7 hP7 hR7 hAp7 hAp6
            obtain ⟨Wt, hWt⟩ : ∃ Wt, Wt = w7.drew := ⟨_, rfl⟩
            have hP : Lw 31 w.heap.size Wt g' lv' (trimE L o.v) := by rw [hWt]; exact hP.drew
            have hR : Lw 29 w.heap.size Wt q rv' (trimE L o.v) := by rw [hWt]; exact hR.drew
            have hBw : Below w.heap.size w Wt := by rw [hWt]; exact hBw.drew
            obtain ⟨ar, cr, hrv, -⟩ := hR.lp.val
            have hcq := hR.lp.c0
            rw [hrv] at hcq
            clear hrv
            have hLen := plen_any _ _ Wt hP.lp.lp
            obtain ⟨nr, hnr⟩ : ∃ nr, ((trimE L o.v)).length = nr := ⟨_, rfl⟩
            rw [hnr] at hLen hcq
            go_wp2_with fail
            refine wp_region_noPanic ?_
            refine wp_region_held_drew (S := fun W' : World => W'.cell? ⟨q, 0, none⟩ = some (.slice ar nr cr)) (by kernel_rfl) (by rw [← hWt]; exact hcq) (fun hHeld => ?_)
            rw [← hWt] at hHeld ⊢
            refine wpAnyH_take (i := 0) (oi := { dst := some 84, op := _, type := _, pos := _, after := _, guard := _ }) (v := .pointer (some ⟨g', 0, none⟩)) rfl (by kernel_rfl) (by kernel_rfl) (by kernel_rfl) (fun _ _ _ h => h) (Or.inl ⟨by rfl, ?_⟩) (by assumption) ?_
            · intro w9 hSw
              exact y_move rfl rfl
            simp only [Act.put, List.setIfInBounds_toArray, List.set_cons_zero, List.set_cons_succ]
            refine wpAnyH_take (i := 2) (oi := { dst := some 86, op := _, type := _, pos := _, after := _, guard := _ }) (v := .pointer (some ⟨q, 0, none⟩)) rfl (by kernel_rfl) (by kernel_rfl) (by kernel_rfl) (fun _ _ _ h => h) (Or.inl ⟨by rfl, ?_⟩) (by assumption) ?_
            · intro w9 hSw
              exact y_move rfl rfl
            simp only [Act.put, List.setIfInBounds_toArray, List.set_cons_zero, List.set_cons_succ]
            refine wpAnyH_take (i := 3) (oi := { dst := some 87, op := _, type := _, pos := _, after := _, guard := _ }) (v := .pointer (some ⟨q, 0, none⟩)) rfl (by kernel_rfl) (by kernel_rfl) (by kernel_rfl) (fun _ _ _ h => h) (Or.inl ⟨by rfl, ?_⟩) (by assumption) ?_
            · intro w9 hSw
              exact y_nil rfl rfl
            simp only [Act.put, List.setIfInBounds_toArray, List.set_cons_zero, List.set_cons_succ]
            refine wpAnyH_take (i := 4) (oi := { dst := some 88, op := _, type := _, pos := _, after := _, guard := _ }) (v := .pointer (some ⟨q, 0, none⟩)) rfl (by kernel_rfl) (by kernel_rfl) (by kernel_rfl) (fun _ _ _ h => h) (Or.inl ⟨by rfl, ?_⟩) (by assumption) ?_
            · intro w9 hSw
              exact y_field rfl rfl (field_r0 _ _)
            simp only [Act.put, List.setIfInBounds_toArray, List.set_cons_zero, List.set_cons_succ]
            refine wpAnyH_take (i := 5) (oi := { dst := some 89, op := _, type := _, pos := _, after := _, guard := _ }) (v := .slice ar nr cr) rfl (by kernel_rfl) (by kernel_rfl) (by kernel_rfl) (fun _ _ _ h => h) (Or.inl ⟨by rfl, ?_⟩) (by assumption) ?_
            · intro w9 hSw
              exact y_load rfl rfl (load_evs hSw)
            simp only [Act.put, List.setIfInBounds_toArray, List.set_cons_zero, List.set_cons_succ]
            refine wpAnyH_take (i := 6) (oi := { dst := some 90, op := _, type := _, pos := _, after := _, guard := _ }) (v := .int .i64 (nr : Int)) rfl (by kernel_rfl) (by kernel_rfl) (by kernel_rfl) (fun _ _ _ h => h) (Or.inl ⟨by rfl, ?_⟩) (by assumption) ?_
            · intro w9 hSw
              exact y_len rfl rfl
            simp only [Act.put, List.setIfInBounds_toArray, List.set_cons_zero, List.set_cons_succ]
            clear hHeld
            refine wpAnyH_ready (rs := [1]) (by kernel_rfl) (by simp) ?_
            refine AllReadyH.cons (o := { dst := some 85, op := _, type := _, pos := _, after := _, guard := _ }) rfl (fun K hK => ?_) AllReadyH.nil
            rw [if_pos (by rfl)]
            refine y_call (f := 17) (xs := [.tmp 84]) (vs := [.pointer (some ⟨g', 0, none⟩)]) rfl rfl (enters_plen _ _) hLen ?_
            rintro ex wz ⟨rfl, hbz⟩
            refine ⟨_, rfl, ?_⟩
            have hcqz : wz.cell? ⟨q, 0, none⟩ = some (.slice ar nr cr) := (hbz.cell (World.block_lt_of_cell? _ _ hcq)).trans hcq
            refine hK.out _ _ hcqz (fun hHeld => ?_)
            clear hK K
            simp only [Act.put, List.setIfInBounds_toArray, List.set_cons_zero, List.set_cons_succ]
            refine wpAnyH_take (i := 7) (oi := { dst := some 91, op := _, type := _, pos := _, after := _, guard := _ }) (v := .bool false) rfl (by kernel_rfl) (by kernel_rfl) (by kernel_rfl) (fun _ _ _ h => h) (Or.inl ⟨by rfl, ?_⟩) (by assumption) ?_
            · intro w9 hSw
              exact y_bin rfl rfl rfl (eqGuard_int _) (neq_int_same _ _)
            simp only [Act.put, List.setIfInBounds_toArray, List.set_cons_zero, List.set_cons_succ]
            refine wpAnyH_done (by kernel_rfl) ?_ _
            refine NoPanic.normal ?_
            clear hHeld
            have HALL : Hid (Lw 31 w.heap.size wz g' lv' (trimE L o.v) ∧ Lw 29 w.heap.size wz q rv' (trimE L o.v) ∧ Ap g' q lv' rv' ∧ Below w.heap.size w wz) := ⟨hP.below hbz, hR.below hbz, hAp, hBw.trans (hbz.mono hBw.size)⟩
            clear hP hR hBw hcq hcqz hLen hbz hAp hWt
            go_wp2
            go_roundw
            case rel => exact ⟨k + 1, lv', rv', (trimE L o.v), by omega, by go_num, by omega, HALL.out⟩
            case measure => simp [intOf]; omega
          · have hq2 : (o.kind == 2) = false := by simpa using h2
            have hq3 : (o.kind == 3) = false := by simpa using h3
            have hP := hP1
            have hR := hR1
            have hBw := hB1
            clear hP1 hR1 hB1
            generalize o.kind = K at *
            obtain ⟨Wt, hWt⟩ : ∃ Wt, Wt = W1.drew := ⟨_, rfl⟩
            have hP : Lw 31 w.heap.size Wt g' lv L := by rw [hWt]; exact hP.drew
            have hR : Lw 29 w.heap.size Wt q rv L := by rw [hWt]; exact hR.drew
            have hBw : Below w.heap.size w Wt := by rw [hWt]; exact hBw.drew
            obtain ⟨ar, cr, hrv, -⟩ := hR.lp.val
            have hcq := hR.lp.c0
            rw [hrv] at hcq
            clear hrv
            have hLen := plen_any _ _ Wt hP.lp.lp
            obtain ⟨nr, hnr⟩ : ∃ nr, (L).length = nr := ⟨_, rfl⟩
            rw [hnr] at hLen hcq
            go_wp2_with fail
            refine wp_region_noPanic ?_
            refine wp_region_held_drew (S := fun W' : World => W'.cell? ⟨q, 0, none⟩ = some (.slice ar nr cr)) (by kernel_rfl) (by rw [← hWt]; exact hcq) (fun hHeld => ?_)
            rw [← hWt] at hHeld ⊢
            refine wpAnyH_take (i := 0) (oi := { dst := some 84, op := _, type := _, pos := _, after := _, guard := _ }) (v := .pointer (some ⟨g', 0, none⟩)) rfl (by kernel_rfl) (by kernel_rfl) (by kernel_rfl) (fun _ _ _ h => h) (Or.inl ⟨by rfl, ?_⟩) (by assumption) ?_
            · intro w9 hSw
              exact y_move rfl rfl
            simp only [Act.put, List.setIfInBounds_toArray, List.set_cons_zero, List.set_cons_succ]
            refine wpAnyH_take (i := 2) (oi := { dst := some 86, op := _, type := _, pos := _, after := _, guard := _ }) (v := .pointer (some ⟨q, 0, none⟩)) rfl (by kernel_rfl) (by kernel_rfl) (by kernel_rfl) (fun _ _ _ h => h) (Or.inl ⟨by rfl, ?_⟩) (by assumption) ?_
            · intro w9 hSw
              exact y_move rfl rfl
            simp only [Act.put, List.setIfInBounds_toArray, List.set_cons_zero, List.set_cons_succ]
            refine wpAnyH_take (i := 3) (oi := { dst := some 87, op := _, type := _, pos := _, after := _, guard := _ }) (v := .pointer (some ⟨q, 0, none⟩)) rfl (by kernel_rfl) (by kernel_rfl) (by kernel_rfl) (fun _ _ _ h => h) (Or.inl ⟨by rfl, ?_⟩) (by assumption) ?_
            · intro w9 hSw
              exact y_nil rfl rfl
            simp only [Act.put, List.setIfInBounds_toArray, List.set_cons_zero, List.set_cons_succ]
            refine wpAnyH_take (i := 4) (oi := { dst := some 88, op := _, type := _, pos := _, after := _, guard := _ }) (v := .pointer (some ⟨q, 0, none⟩)) rfl (by kernel_rfl) (by kernel_rfl) (by kernel_rfl) (fun _ _ _ h => h) (Or.inl ⟨by rfl, ?_⟩) (by assumption) ?_
            · intro w9 hSw
              exact y_field rfl rfl (field_r0 _ _)
            simp only [Act.put, List.setIfInBounds_toArray, List.set_cons_zero, List.set_cons_succ]
            refine wpAnyH_take (i := 5) (oi := { dst := some 89, op := _, type := _, pos := _, after := _, guard := _ }) (v := .slice ar nr cr) rfl (by kernel_rfl) (by kernel_rfl) (by kernel_rfl) (fun _ _ _ h => h) (Or.inl ⟨by rfl, ?_⟩) (by assumption) ?_
            · intro w9 hSw
              exact y_load rfl rfl (load_evs hSw)
            simp only [Act.put, List.setIfInBounds_toArray, List.set_cons_zero, List.set_cons_succ]
            refine wpAnyH_take (i := 6) (oi := { dst := some 90, op := _, type := _, pos := _, after := _, guard := _ }) (v := .int .i64 (nr : Int)) rfl (by kernel_rfl) (by kernel_rfl) (by kernel_rfl) (fun _ _ _ h => h) (Or.inl ⟨by rfl, ?_⟩) (by assumption) ?_
            · intro w9 hSw
              exact y_len rfl rfl
            simp only [Act.put, List.setIfInBounds_toArray, List.set_cons_zero, List.set_cons_succ]
            clear hHeld
            refine wpAnyH_ready (rs := [1]) (by kernel_rfl) (by simp) ?_
            refine AllReadyH.cons (o := { dst := some 85, op := _, type := _, pos := _, after := _, guard := _ }) rfl (fun K hK => ?_) AllReadyH.nil
            rw [if_pos (by rfl)]
            refine y_call (f := 17) (xs := [.tmp 84]) (vs := [.pointer (some ⟨g', 0, none⟩)]) rfl rfl (enters_plen _ _) hLen ?_
            rintro ex wz ⟨rfl, hbz⟩
            refine ⟨_, rfl, ?_⟩
            have hcqz : wz.cell? ⟨q, 0, none⟩ = some (.slice ar nr cr) := (hbz.cell (World.block_lt_of_cell? _ _ hcq)).trans hcq
            refine hK.out _ _ hcqz (fun hHeld => ?_)
            clear hK K
            simp only [Act.put, List.setIfInBounds_toArray, List.set_cons_zero, List.set_cons_succ]
            refine wpAnyH_take (i := 7) (oi := { dst := some 91, op := _, type := _, pos := _, after := _, guard := _ }) (v := .bool false) rfl (by kernel_rfl) (by kernel_rfl) (by kernel_rfl) (fun _ _ _ h => h) (Or.inl ⟨by rfl, ?_⟩) (by assumption) ?_
            · intro w9 hSw
              exact y_bin rfl rfl rfl (eqGuard_int _) (neq_int_same _ _)
            simp only [Act.put, List.setIfInBounds_toArray, List.set_cons_zero, List.set_cons_succ]
            refine wpAnyH_done (by kernel_rfl) ?_ _
            refine NoPanic.normal ?_
            clear hHeld
            have HALL : Hid (Lw 31 w.heap.size wz g' lv L ∧ Lw 29 w.heap.size wz q rv L ∧ Ap g' q lv rv ∧ Below w.heap.size w wz) := ⟨hP.below hbz, hR.below hbz, hAp, hBw.trans (hbz.mono hBw.size)⟩
            clear hP hR hBw hcq hcqz hLen hbz hAp hWt
            go_wp2
            go_roundw
            case rel => exact ⟨k + 1, lv, rv, L, by omega, by go_num, by omega, HALL.out⟩
            case measure => simp [intOf]; omega
    · obtain rfl : k = len := by omega
      obtain ⟨Wt, hWt⟩ : ∃ Wt, Wt = wr.drew := ⟨_, rfl⟩
      have hP : Lw 31 w.heap.size Wt g' lv L := by rw [hWt]; exact hP.drew
      have hR : Lw 29 w.heap.size Wt q rv L := by rw [hWt]; exact hR.drew
      have hBw : Below w.heap.size w Wt := by rw [hWt]; exact hBw.drew
      obtain ⟨ar, cr, hrv, hEr⟩ := hR.lp.val
      have hcq := hR.lp.c0
      rw [hrv] at hcq
      clear hrv
      obtain ⟨nr, hnr⟩ : ∃ nr, L.length = nr := ⟨_, rfl⟩
      rw [hnr] at hcq hEr
      go_wp2_with fail
      refine wp_region_noPanic ?_
      refine wp_region_held_drew (S := fun W' : World => W'.cell? ⟨q, 0, none⟩ = some (.slice ar nr cr)) (by kernel_rfl) (by rw [← hWt]; exact hcq) (fun hHeld => ?_)
      rw [← hWt] at hHeld ⊢
      refine wpAnyH_take (i := 0) (oi := { dst := some 93, op := _, type := _, pos := _, after := _, guard := _ }) (v := .pointer (some ⟨g', 0, none⟩)) rfl (by kernel_rfl) (by kernel_rfl) (by kernel_rfl) (fun _ _ _ h => h) (Or.inl ⟨by rfl, ?_⟩) (by assumption) ?_
      · intro w9 hSw
        exact y_move rfl rfl
      simp only [Act.put, List.setIfInBounds_toArray, List.set_cons_zero, List.set_cons_succ]
      refine wpAnyH_take (i := 2) (oi := { dst := some 95, op := _, type := _, pos := _, after := _, guard := _ }) (v := .pointer (some ⟨q, 0, none⟩)) rfl (by kernel_rfl) (by kernel_rfl) (by kernel_rfl) (fun _ _ _ h => h) (Or.inl ⟨by rfl, ?_⟩) (by assumption) ?_
      · intro w9 hSw
        exact y_move rfl rfl
      simp only [Act.put, List.setIfInBounds_toArray, List.set_cons_zero, List.set_cons_succ]
      refine wpAnyH_take (i := 3) (oi := { dst := some 96, op := _, type := _, pos := _, after := _, guard := _ }) (v := .pointer (some ⟨q, 0, none⟩)) rfl (by kernel_rfl) (by kernel_rfl) (by kernel_rfl) (fun _ _ _ h => h) (Or.inl ⟨by rfl, ?_⟩) (by assumption) ?_
      · intro w9 hSw
        exact y_nil rfl rfl
      simp only [Act.put, List.setIfInBounds_toArray, List.set_cons_zero, List.set_cons_succ]
      refine wpAnyH_take (i := 4) (oi := { dst := some 97, op := _, type := _, pos := _, after := _, guard := _ }) (v := .pointer (some ⟨q, 0, none⟩)) rfl (by kernel_rfl) (by kernel_rfl) (by kernel_rfl) (fun _ _ _ h => h) (Or.inl ⟨by rfl, ?_⟩) (by assumption) ?_
      · intro w9 hSw
        exact y_field rfl rfl (field_r0 _ _)
      simp only [Act.put, List.setIfInBounds_toArray, List.set_cons_zero, List.set_cons_succ]
      refine wpAnyH_take (i := 5) (oi := { dst := some 98, op := _, type := _, pos := _, after := _, guard := _ }) (v := .slice ar nr cr) rfl (by kernel_rfl) (by kernel_rfl) (by kernel_rfl) (fun _ _ _ h => h) (Or.inl ⟨by rfl, ?_⟩) (by assumption) ?_
      · intro w9 hSw
        exact y_load rfl rfl (load_evs hSw)
      simp only [Act.put, List.setIfInBounds_toArray, List.set_cons_zero, List.set_cons_succ]
      clear hHeld
      refine wpAnyH_ready (rs := [1]) (by kernel_rfl) (by simp) ?_
      refine AllReadyH.cons (o := { dst := some 94, op := _, type := _, pos := _, after := _, guard := _ }) rfl (fun K hK => ?_) AllReadyH.nil
      rw [if_pos (by rfl)]
      refine y_call (f := 18) (xs := [.tmp 93]) (vs := [.pointer (some ⟨g', 0, none⟩)]) rfl rfl (enters_pevents _ _) (pevents_any _ L (by omega) Wt hP.lp.lp) ?_
      rintro ex w6 ⟨r1, rfl, hR1, hb6⟩
      refine ⟨_, rfl, ?_⟩
      have hcq6 : w6.cell? ⟨q, 0, none⟩ = some (.slice ar nr cr) := (hb6.cell (World.block_lt_of_cell? _ _ hcq)).trans hcq
      obtain ⟨a1, c1, rfl, hE1⟩ := hR1.evs hP.lp.wide
      rw [hnr] at hE1 ⊢
      have hEr6 := hEr.below hb6 (Nat.le_refl _)
      refine hK.out _ _ hcq6 (fun hHeld => ?_)
      clear hK K
      simp only [Act.put, List.setIfInBounds_toArray, List.set_cons_zero, List.set_cons_succ]
      clear hHeld
      refine wpAnyH_ready (rs := [6]) (by kernel_rfl) (by simp) ?_
      refine AllReadyH.cons (o := { dst := some 99, op := _, type := _, pos := _, after := _, guard := _ }) rfl (fun K hK => ?_) AllReadyH.nil
      rw [if_pos (by rfl)]
      refine y_call (f := 12) (xs := [.tmp 94, .tmp 98]) (vs := [.slice a1 nr c1, .slice ar nr cr]) rfl rfl (enters_same _ _) (same_yes a1 ar nr c1 cr L w6 hE1 hEr6 (by omega)) ?_
      rintro ex w7 ⟨rfl, hb7⟩
      refine ⟨_, rfl, ?_⟩
      have hcq7 : w7.cell? ⟨q, 0, none⟩ = some (.slice ar nr cr) := (hb7.cell (World.block_lt_of_cell? _ _ hcq6)).trans hcq6
      refine hK.out _ _ hcq7 (fun hHeld => ?_)
      clear hK K
      simp only [Act.put, List.setIfInBounds_toArray, List.set_cons_zero, List.set_cons_succ]
      refine wpAnyH_take (i := 7) (oi := { dst := some 4, op := _, type := _, pos := _, after := _, guard := _ }) (v := .bool true) rfl (by kernel_rfl) (by kernel_rfl) (by kernel_rfl) (fun _ _ _ h => h) (Or.inl ⟨by rfl, ?_⟩) (by assumption) ?_
      · intro w9 hSw
        exact y_assign rfl rfl
      simp only [Act.put, List.setIfInBounds_toArray, List.set_cons_zero, List.set_cons_succ]
      refine wpAnyH_done (by kernel_rfl) ?_ _
      refine NoPanic.normal ?_
      clear hHeld
      have HF : Hid (Below w.heap.size w w7) := (hBw.trans (hb6.mono hBw.size)).trans (hb7.mono (Nat.le_trans hBw.size hb6.size))
      clear hP hR hBw hcq hcq6 hcq7 hEr hEr6 hE1 hR1 hb6 hb7 hWt
      go_wp2
      go_ret
      exact ⟨rfl, HF.out⟩
theorem lplays_walk (a : Option Addr) (len cap : Nat) (z : Bool) (O : Nat → Po) (w : World) (hO : Pops w a len O) : Calls Try.prog 3 #[.slice a len cap, .bool z] w fun e w' => e = .returned (.bool true) ∧ Below w.heap.size w w' := by
  by_cases hl : 200 < len
  · cases z
    · exact lplays_far_false a len cap w hl
    · exact lplays_far_true a len cap w hl
  · cases z
    · exact lplays_false a len cap O w hO hl
    · exact lplays_true a len cap O w hO hl
end Go.Proofs.Yteanpepmncgagaa
