/-
  What New, orZero, Len, Add and Events of a log come to.
-/
import Derived.Test.YteanpepmncgagaaPpl
import Derived.Test.YteanpepmncgagaaMex
import Derived.Deep.Cut
import Derived.Deep.CutRange
namespace Go.Proofs.Yteanpepmncgagaa
set_option maxRecDepth 100000
open Go.RowKit

theorem enters_has' (xs : Array Value) (w : World) : (callFunc 32 xs).run Try.prog w = .ok (.enter 32 xs) w := enters Try.func32 (by kernel_rfl) (by kernel_rfl) xs w
theorem tl_ne : (31 : TypeId) ≠ 39 := by decide
/-- A pointer to a log, or none. -/
def LP (w : World) (p : Value) (E : List Ev) : Prop := (∃ g v, p = .pointer (some ⟨g, 0, none⟩) ∧ Lp 31 w g v E) ∨ (p = .pointer none ∧ E = [])
theorem LP.below {w w' : World} {p : Value} {E : List Ev} (h : LP w p E) (hb : Below w.heap.size w w') : LP w' p E := by
  rcases h with ⟨g, v, rfl, h⟩ | h
  · exact .inl ⟨g, v, rfl, h.below hb (Nat.le_refl _)⟩
  · exact .inr h
theorem LP.wide {w : World} {p : Value} {E : List Ev} (h : LP w p E) : ∀ e ∈ E, Wide e := by
  rcases h with ⟨g, v, rfl, h⟩ | ⟨-, rfl⟩
  · exact h.wide
  · intro e he; cases he
theorem Lp.lp {w : World} {g : Nat} {v : Value} {E : List Ev} (h : Lp 31 w g v E) : LP w (.pointer (some ⟨g, 0, none⟩)) E := .inl ⟨g, v, rfl, h⟩
/-- Where a log comes from. -/
def Src (w : World) (p : Value) (g : Nat) (v : Value) : Prop := (p = .pointer (some ⟨g, 0, none⟩) ∧ w.heap[g]? = some (.cells #[v] 31 (0, 0))) ∨ (p = .pointer none ∧ w.heap.size ≤ g ∧ v = .slice none 0 0)
theorem pnew_any (w : World) : Calls Try.prog 10 #[] w fun e w' => e = .returned (.pointer (some ⟨w.heap.size, 0, none⟩)) ∧ w' = w.alloc (.cells #[.slice none 0 0] 31) := by
  go_enter Try.func10, Try.ntmps10
  go_wp2
  go_ret
  exact ⟨rfl, rfl⟩
theorem field_l0 (w : World) (g : Nat) : (Instr.fieldAt 31 (.pointer (some ⟨g, 0, none⟩)) 0).run Try.prog w = .ok (.pointer (some ⟨g, 0, none⟩)) w := by kernel_rfl
theorem load_whole {w : World} {g : Nat} {u : Ev} (h : LiesE w g u) (hl : u.deps.length = 16) : (loadVar 39 ⟨g, 0, none⟩).run Try.prog w = .ok (.agg (evc u)) w :=
  run_loadVar_row w g 39 39 _ (0, 0) _ h Try.underlying39 rfl (size26 u hl)
theorem y_build {o : Oper} {a : Act} {w w' : World} {K : Act → World → Prop} {Q : Exit → Act → World → Prop} {x : Operand} {ty : TypeId} {k : Nat} {u v : Value} (ho : o.op = .buildSlice ty k #[(0, x)]) (hx : a.eval x = u) (hr : (Instr.buildSlice ty k #[(0, u)]).run Try.prog w = .ok v w') (h : K (a.put o.dst v) w') : o.wp Try.prog a w K Q := by
  unfold Oper.wp execOp
  simp only [ho, List.map_toArray, List.map_cons, List.map_nil, hx, Sem.run_bind, Sem.run_pure, Result.andThen_ok, hr]
  exact h
theorem y_app {o : Oper} {a : Act} {w w' : World} {K : Act → World → Prop} {Q : Exit → Act → World → Prop} {x y : Operand} {v q z : Value} (ho : o.op = .call { callee := .builtin .append, args := #[x, y], argTypes := #[27, 27] }) (hx : a.eval x = v) (hy : a.eval y = q) (hr : (Builtin.append_ #[27, 27] o.type #[v, q]).run Try.prog w = .ok z w') (h : K (a.put o.dst z) w') : o.wp Try.prog a w K Q := by
  unfold Oper.wp execOp
  simp only [ho, resolve, invoke, builtin, Sem.run_bind, Sem.run_pure, Result.andThen_ok, List.map_toArray, List.map_cons, List.map_nil, hx, hy, hr]
  exact h
theorem eql_lp (w : World) (ad : Addr) : (binOp .eql 24 (.pointer (some ad)) (.pointer none)).run Try.prog w = .ok (.bool false) w := by kernel_rfl
theorem porz_any (p : Value) (E : List Ev) (w : World) (h : LP w p E) : Calls Try.prog 31 #[p] w fun e w' => ∃ g v, e = .returned (.pointer (some ⟨g, 0, none⟩)) ∧ Lp 31 w' g v E ∧ Below w.heap.size w w' ∧ Src w p g v := by
  rcases h with ⟨g, v, rfl, h⟩ | ⟨rfl, rfl⟩
  · have he := eql_lp w ⟨g, 0, none⟩
    have H : Hid _ := h
    clear h
    go_enter Try.func31, Try.ntmps31
    go_wp2
    go_ret
    exact ⟨g, v, rfl, H.out, Below.refl _ _, .inl ⟨rfl, H.out.cell⟩⟩
  · have he : (binOp .eql 24 (.pointer none) (.pointer none)).run Try.prog w = .ok (.bool true) w := by kernel_rfl
    have H : Hid _ := lp_new w 31
    have HB : Hid (Below w.heap.size w (w.alloc (.cells #[.slice none 0 0] 31))) := (Below.refl _ w).alloc (Nat.le_refl _) _
    go_enter Try.func31, Try.ntmps31
    go_wp2
    go_ret
    exact ⟨_, _, rfl, H.out, HB.out, .inr ⟨rfl, Nat.le_refl _, rfl⟩⟩
theorem plen_any (p : Value) (E : List Ev) (w : World) (h : LP w p E) : Calls Try.prog 17 #[p] w fun e w' => e = .returned (.int .i64 (E.length : Int)) ∧ Below w.heap.size w w' := by
  have hO := porz_any p E w h
  clear h
  go_enter Try.func17, Try.ntmps17
  go_wp2_with fail
  refine Calls.mono hO ?_
  rintro e w1 ⟨g, v, rfl, hL, hb, -⟩
  obtain ⟨ao, c, rfl, -⟩ := hL.val
  have hc := hL.c0
  have HB : Hid _ := hb
  clear hL hO hb
  go_wp2
  go_ret
  exact ⟨rfl, HB.out⟩
set_option maxHeartbeats 2000000 in
theorem padd_any (p : Value) (E : List Ev) (e : Ev) (he : Wide e) (hm : E.length ≤ 100000) (w : World) (h : LP w p E) : Calls Try.prog 11 #[p, .agg (evc e)] w fun ex w' => ex = .returned (.tuple #[]) ∧ ∃ g v v', Lp 31 w' g v' (E ++ [e]) ∧ Tn g v.ownBlock v'.ownBlock w w' ∧ Src w p g v := by
  have hb0 : Below w.heap.size w (w.alloc (.cells (evc e) 39)) := (Below.refl _ w).alloc (Nat.le_refl _) _
  have hU0 := liesE_new w e
  have hO := porz_any p E _ (h.below hb0)
  have hl0 := hU0.lt
  generalize hW0 : w.alloc (.cells (evc e) 39) = W0 at *
  obtain ⟨B, hB⟩ : ∃ B, B = w.heap.size := ⟨_, rfl⟩
  rw [← hB] at hU0 hl0
  have hsrc : ∀ g v, Src W0 p g v → Src w p g v ∧ v.ownBlock ≠ some B := fun g v hs => by
    rcases hs with ⟨rfl, hc⟩ | ⟨rfl, h1, h2⟩
    · rcases h with ⟨g', v', hp, hL⟩ | ⟨hp, -⟩
      · injection hp with hp; injection hp with hp; injection hp with hp
        subst hp
        have hc' := (hb0.block _ hL.lt).symm.trans hc
        refine ⟨.inl ⟨rfl, hc'⟩, fun e1 => ?_⟩
        rw [hL.uniq hc'] at e1
        have := hL.rowLt e1
        omega
      · cases hp
    · exact ⟨.inr ⟨rfl, by have := hb0.size; omega, h2⟩, by rw [h2]; intro e1; cases e1⟩
  clear h
  have HS : Hid _ := hsrc
  clear hsrc
  go_enter Try.func11, Try.ntmps11
  go_wp2_with fail
  refine Calls.mono hO ?_
  rintro ex w1 ⟨g, v, rfl, hL, hb1, hs⟩
  have hb01 : Below w.heap.size w w1 := hb0.trans (hb1.mono hb0.size)
  have hU := hU0.below hb1 hl0
  have HSS : Hid (Src w p g v) := (HS.out g v hs).1
  have hvb := (HS.out g v hs).2
  obtain ⟨W, hW⟩ : ∃ W, W = w1.drew := ⟨_, rfl⟩
  have hLd : Lp 31 W g v E := by rw [hW]; exact hL.kept rfl fun _ _ => rfl
  have hUd : LiesE W B e := by rw [hW]; exact hU
  have HB0 : Hid (Below w.heap.size w W) := by rw [hW]; exact hb01.drew
  have hBg : B < W.heap.size := hUd.lt
  obtain ⟨a, n, c, wA, wB, wC, hbu, hbA, hLA, hap, hcB, hgB', hst, hLC, hT, hC⟩ := push_log 27 hLd tl_ne he (by omega)
  have hgw := hLd.lt
  have hgB : g ≠ B := by
    rintro rfl
    rw [LiesE, hLd.cell] at hUd
    injection hUd with e1
    injection e1 with _ e2
    exact tl_ne e2
  have hUA : LiesE wA B e := hUd.below hbA hBg
  have hUB : LiesE wB B e := (hgB'.block B hUA.lt (fun e1 => hvb e1.symm)).trans hUA
  have hUC : LiesE wC B e := (hC B hUB.lt (Ne.symm hgB)).trans hUB
  have hcW := hLd.c0
  have hcA := hLA.c0
  have FIN : Hid (Lp 31 wC g (.slice a n c) (E ++ [e]) ∧ Tn g v.ownBlock (Value.slice a n c).ownBlock w wC) := ⟨hLC, (Tn.of_below v.ownBlock HB0.out).trans hT⟩
  subst hB
  go_wp2_with fail
  refine wp_region_noPanic ?_
  refine wp_region_held_drew (S := fun W' : World => LiesE W' w.heap.size e) (by kernel_rfl) (by rw [← hW]; exact hUd) (fun hHeld => ?_)
  rw [← hW] at hHeld ⊢
  refine wpAnyH_take (i := 0) (oi := { dst := some 6, op := _, type := _, pos := _, after := _, guard := _ }) (v := .pointer (some ⟨g, 0, none⟩)) rfl (by kernel_rfl) (by kernel_rfl) (by kernel_rfl) (fun _ _ _ h => h) (Or.inl ⟨by rfl, ?_⟩) (by assumption) ?_
  · intro w9 hSw
    exact y_move rfl rfl
  simp only [Act.put, List.setIfInBounds_toArray, List.set_cons_zero, List.set_cons_succ]
  refine wpAnyH_take (i := 1) (oi := { dst := some 7, op := _, type := _, pos := _, after := _, guard := _ }) (v := .pointer (some ⟨g, 0, none⟩)) rfl (by kernel_rfl) (by kernel_rfl) (by kernel_rfl) (fun _ _ _ h => h) (Or.inl ⟨by rfl, ?_⟩) (by assumption) ?_
  · intro w9 hSw
    exact y_move rfl rfl
  simp only [Act.put, List.setIfInBounds_toArray, List.set_cons_zero, List.set_cons_succ]
  refine wpAnyH_take (i := 2) (oi := { dst := some 8, op := _, type := _, pos := _, after := _, guard := _ }) (v := .pointer (some ⟨g, 0, none⟩)) rfl (by kernel_rfl) (by kernel_rfl) (by kernel_rfl) (fun _ _ _ h => h) (Or.inl ⟨by rfl, ?_⟩) (by assumption) ?_
  · intro w9 hSw
    exact y_nil rfl rfl
  simp only [Act.put, List.setIfInBounds_toArray, List.set_cons_zero, List.set_cons_succ]
  refine wpAnyH_take (i := 3) (oi := { dst := some 9, op := _, type := _, pos := _, after := _, guard := _ }) (v := .pointer (some ⟨g, 0, none⟩)) rfl (by kernel_rfl) (by kernel_rfl) (by kernel_rfl) (fun _ _ _ h => h) (Or.inl ⟨by rfl, ?_⟩) (by assumption) ?_
  · intro w9 hSw
    exact y_field rfl rfl (field_l0 _ _)
  simp only [Act.put, List.setIfInBounds_toArray, List.set_cons_zero, List.set_cons_succ]
  refine wpAnyH_take (i := 5) (oi := { dst := some 11, op := _, type := _, pos := _, after := _, guard := _ }) (v := .agg (evc e)) rfl (by kernel_rfl) (by kernel_rfl) (by kernel_rfl) (fun _ _ _ h => h) (Or.inl ⟨by rfl, ?_⟩) (by assumption) ?_
  · intro w9 hSw
    exact y_load rfl rfl (load_whole hSw he.1)
  simp only [Act.put, List.setIfInBounds_toArray, List.set_cons_zero, List.set_cons_succ]
  clear hHeld
  refine wpAnyH_ready (rs := [4, 6]) (by kernel_rfl) (by simp) ?_
  refine AllReadyH.cons (o := { dst := some 10, op := _, type := _, pos := _, after := _, guard := _ }) rfl (fun K hK => ?_) ?_
  · rw [if_pos (by rfl)]
    refine y_ldw (ty := 27) (x := .tmp 9) (ad := ⟨g, 0, none⟩) (v := v) rfl rfl (load_evs hcW) ?_
    refine hK.out _ _ hUd (fun hHeld => ?_)
    clear hK K
    simp only [Act.put, List.setIfInBounds_toArray, List.set_cons_zero, List.set_cons_succ]
    clear hHeld
    refine wpAnyH_ready (rs := [6]) (by kernel_rfl) (by simp) ?_
    refine AllReadyH.cons (o := { dst := some 12, op := _, type := _, pos := _, after := _, guard := _ }) rfl (fun K hK => ?_) AllReadyH.nil
    rw [if_pos (by rfl)]
    refine y_build (ty := 27) (k := 1) (x := .tmp 11) (u := .agg (evc e)) (v := .slice (some ⟨W.heap.size, 0, none⟩) 1 1) (w' := wA) rfl rfl hbu ?_
    refine hK.out _ _ hUA (fun hHeld => ?_)
    clear hK K
    simp only [Act.put, List.setIfInBounds_toArray, List.set_cons_zero, List.set_cons_succ]
    clear hHeld
    refine wpAnyH_ready (rs := [7]) (by kernel_rfl) (by simp) ?_
    refine AllReadyH.cons (o := { dst := some 13, op := _, type := _, pos := _, after := _, guard := _ }) rfl (fun K hK => ?_) AllReadyH.nil
    rw [if_pos (by rfl)]
    refine y_app (x := .tmp 10) (y := .tmp 12) (v := v) (q := .slice (some ⟨W.heap.size, 0, none⟩) 1 1) (z := .slice a n c) (w' := wB) rfl rfl rfl hap ?_
    refine hK.out _ _ hUB (fun hHeld => ?_)
    clear hK K
    simp only [Act.put, List.setIfInBounds_toArray, List.set_cons_zero, List.set_cons_succ]
    refine wpAnyH_take (i := 8) (oi := { dst := some 14, op := _, type := _, pos := _, after := _, guard := _ }) (v := .pointer (some ⟨g, 0, none⟩)) rfl (by kernel_rfl) (by kernel_rfl) (by kernel_rfl) (fun _ _ _ h => h) (Or.inl ⟨by rfl, ?_⟩) (by assumption) ?_
    · intro w9 hSw
      exact y_nil rfl rfl
    simp only [Act.put, List.setIfInBounds_toArray, List.set_cons_zero, List.set_cons_succ]
    refine wpAnyH_take (i := 9) (oi := { dst := some 15, op := _, type := _, pos := _, after := _, guard := _ }) (v := .pointer (some ⟨g, 0, none⟩)) rfl (by kernel_rfl) (by kernel_rfl) (by kernel_rfl) (fun _ _ _ h => h) (Or.inl ⟨by rfl, ?_⟩) (by assumption) ?_
    · intro w9 hSw
      exact y_field rfl rfl (field_l0 _ _)
    simp only [Act.put, List.setIfInBounds_toArray, List.set_cons_zero, List.set_cons_succ]
    clear hHeld
    refine wpAnyH_ready (rs := [10]) (by kernel_rfl) (by simp) ?_
    refine AllReadyH.cons (o := { dst := none, op := _, type := _, pos := _, after := _, guard := _ }) rfl (fun K hK => ?_) AllReadyH.nil
    rw [if_pos (by rfl)]
    refine y_store (ty := 27) (x := .tmp 15) (y := .tmp 13) (ad := ⟨g, 0, none⟩) (v := .slice a n c) (w' := wC) rfl rfl rfl hst ?_
    refine hK.out _ _ hUC (fun hHeld => ?_)
    clear hK K
    simp only [Act.put]
    clear hHeld
    have hHeld := hUC
    refine wpAnyH_done (by kernel_rfl) ?_ _
    refine NoPanic.normal ?_
    clear hHeld
    go_wp2
    go_end0
    exact ⟨rfl, g, v, _, FIN.out.1, FIN.out.2, HSS.out⟩
  refine AllReadyH.cons (o := { dst := some 12, op := _, type := _, pos := _, after := _, guard := _ }) rfl (fun K hK => ?_) AllReadyH.nil
  rw [if_pos (by rfl)]
  refine y_build (ty := 27) (k := 1) (x := .tmp 11) (u := .agg (evc e)) (v := .slice (some ⟨W.heap.size, 0, none⟩) 1 1) (w' := wA) rfl rfl hbu ?_
  refine hK.out _ _ hUA (fun hHeld => ?_)
  clear hK K
  simp only [Act.put, List.setIfInBounds_toArray, List.set_cons_zero, List.set_cons_succ]
  clear hHeld
  refine wpAnyH_ready (rs := [4]) (by kernel_rfl) (by simp) ?_
  refine AllReadyH.cons (o := { dst := some 10, op := _, type := _, pos := _, after := _, guard := _ }) rfl (fun K hK => ?_) AllReadyH.nil
  rw [if_pos (by rfl)]
  refine y_ldw (ty := 27) (x := .tmp 9) (ad := ⟨g, 0, none⟩) (v := v) rfl rfl (load_evs hcA) ?_
  refine hK.out _ _ hUA (fun hHeld => ?_)
  clear hK K
  simp only [Act.put, List.setIfInBounds_toArray, List.set_cons_zero, List.set_cons_succ]
  clear hHeld
  refine wpAnyH_ready (rs := [7]) (by kernel_rfl) (by simp) ?_
  refine AllReadyH.cons (o := { dst := some 13, op := _, type := _, pos := _, after := _, guard := _ }) rfl (fun K hK => ?_) AllReadyH.nil
  rw [if_pos (by rfl)]
  refine y_app (x := .tmp 10) (y := .tmp 12) (v := v) (q := .slice (some ⟨W.heap.size, 0, none⟩) 1 1) (z := .slice a n c) (w' := wB) rfl rfl rfl hap ?_
  refine hK.out _ _ hUB (fun hHeld => ?_)
  clear hK K
  simp only [Act.put, List.setIfInBounds_toArray, List.set_cons_zero, List.set_cons_succ]
  refine wpAnyH_take (i := 8) (oi := { dst := some 14, op := _, type := _, pos := _, after := _, guard := _ }) (v := .pointer (some ⟨g, 0, none⟩)) rfl (by kernel_rfl) (by kernel_rfl) (by kernel_rfl) (fun _ _ _ h => h) (Or.inl ⟨by rfl, ?_⟩) (by assumption) ?_
  · intro w9 hSw
    exact y_nil rfl rfl
  simp only [Act.put, List.setIfInBounds_toArray, List.set_cons_zero, List.set_cons_succ]
  refine wpAnyH_take (i := 9) (oi := { dst := some 15, op := _, type := _, pos := _, after := _, guard := _ }) (v := .pointer (some ⟨g, 0, none⟩)) rfl (by kernel_rfl) (by kernel_rfl) (by kernel_rfl) (fun _ _ _ h => h) (Or.inl ⟨by rfl, ?_⟩) (by assumption) ?_
  · intro w9 hSw
    exact y_field rfl rfl (field_l0 _ _)
  simp only [Act.put, List.setIfInBounds_toArray, List.set_cons_zero, List.set_cons_succ]
  clear hHeld
  refine wpAnyH_ready (rs := [10]) (by kernel_rfl) (by simp) ?_
  refine AllReadyH.cons (o := { dst := none, op := _, type := _, pos := _, after := _, guard := _ }) rfl (fun K hK => ?_) AllReadyH.nil
  rw [if_pos (by rfl)]
  refine y_store (ty := 27) (x := .tmp 15) (y := .tmp 13) (ad := ⟨g, 0, none⟩) (v := .slice a n c) (w' := wC) rfl rfl rfl hst ?_
  refine hK.out _ _ hUC (fun hHeld => ?_)
  clear hK K
  simp only [Act.put]
  clear hHeld
  have hHeld := hUC
  refine wpAnyH_done (by kernel_rfl) ?_ _
  refine NoPanic.normal ?_
  clear hHeld
  go_wp2
  go_end0
  exact ⟨rfl, g, v, _, FIN.out.1, FIN.out.2, HSS.out⟩
end Go.Proofs.Yteanpepmncgagaa
