/-
  A buffer in memory; what takes, Len and New come to.
-/
import Derived.Test.YthpkpmcccpfabaaQtu
import Derived.Test.YthpkpmcccpfabaaYgte
namespace Go.Proofs.Ythpkpmcccpfabaa
set_option maxRecDepth 100000
open Go.RowKit

/-- A buffer lies in a block: its bag has these events. -/
def Bf (w : World) (g : Nat) (m : Option Nat) (S : List Ev) : Prop := ∃ cs, E.Bg w g 0 cs 34 m (S.map eit)
theorem Bf.below {w w' : World} {g : Nat} {m : Option Nat} {S : List Ev} (h : Bf w g m S) (hb : Below w.heap.size w w') : Bf w' g m S := by
  obtain ⟨cs, h⟩ := h
  exact ⟨cs, h.below hb (Nat.le_refl _)⟩
theorem Bf.lt {w : World} {g : Nat} {m : Option Nat} {S : List Ev} (h : Bf w g m S) : g < w.heap.size := by
  obtain ⟨cs, h⟩ := h
  exact h.lt
theorem Bf.own {w : World} {g : Nat} {m : Option Nat} {S : List Ev} (h : Bf w g m S) : ∀ k, m = some k → k < w.heap.size ∧ k ≠ g := by
  obtain ⟨cs, h⟩ := h
  exact h.own
theorem bf_new (w : World) : Bf (w.alloc (.cells #[.map none] 34)) w.heap.size none [] := ⟨_, heap_alloc_new w _, rfl, .inl ⟨rfl, rfl⟩⟩
theorem eql_pb (w : World) (ad : Addr) : (binOp .eql 24 (.pointer (some ad)) (.pointer none)).run Try.prog w = .ok (.bool false) w := by kernel_rfl
theorem field_q (w : World) (g : Nat) : (Instr.fieldAt 34 (.pointer (some ⟨g, 0, none⟩)) 0).run Try.prog w = .ok (.pointer (some ⟨g, 0, none⟩)) w := by kernel_rfl
theorem qnew_any (w : World) : Calls Try.prog 9 #[] w fun e w' => e = .returned (.pointer (some ⟨w.heap.size, 0, none⟩)) ∧ w' = w.alloc (.cells #[.map none] 34) := by
  go_enter Try.func9, Try.ntmps9
  go_wp2
  go_ret
  exact ⟨rfl, rfl⟩
theorem qlen_any (g : Nat) (m : Option Nat) (S : List Ev) (w : World) (h : Bf w g m S) : Calls Try.prog 13 #[.pointer (some ⟨g, 0, none⟩)] w fun e w' => e = .returned (.int .i64 (S.length : Int)) ∧ w' = w := by
  obtain ⟨cs, h⟩ := h
  have hL := E.len_any g 0 cs 34 m (S.map eit) w h
  rw [List.length_map] at hL
  have he := eql_pb w ⟨g, 0, none⟩
  go_enter Try.func13, Try.ntmps13
  go_wp2_with fail
  refine Calls.mono hL ?_
  rintro e w1 ⟨rfl, hw1⟩
  obtain rfl := hw1.symm
  go_wp2
  go_ret
  exact ⟨rfl, rfl⟩
theorem qlenb (g : Nat) (m : Option Nat) (S : List Ev) (w : World) (h : Bf w g m S) : Calls Try.prog 24 #[.pointer (some ⟨g, 0, none⟩)] w fun e w' => e = .returned (.int .i64 (S.length : Int)) ∧ w' = w := by
  obtain ⟨cs, h⟩ := h
  have hL := E.len_any g 0 cs 34 m (S.map eit) w h
  rwa [List.length_map] at hL
theorem qlen_nil (w : World) : Calls Try.prog 13 #[.pointer none] w fun e w' => e = .returned (.int .i64 0) ∧ w' = w := by
  have he : (binOp .eql 24 (.pointer none) (.pointer none)).run Try.prog w = .ok (.bool true) w := by kernel_rfl
  go_enter Try.func13, Try.ntmps13
  go_wp2
  go_ret
  exact ⟨rfl, rfl⟩
theorem hasD_eit (S : List Ev) (e : Ev) : hasD (S.map eit) e.r e.n = hasE S e := by
  unfold hasD hasE
  rw [List.any_map]
  rfl
theorem alloc_ev (w : World) : (Instr.alloc 44 true (.tuple #[])).run Try.prog w = .ok (.pointer (some ⟨w.heap.size, 0, none⟩)) (w.alloc (.cells #[Value.int IntKind.i64 0, Value.int IntKind.i64 0, Value.int IntKind.i64 0, Value.int IntKind.i64 0, Value.int IntKind.i64 0, Value.int IntKind.i64 0, Value.int IntKind.i64 0, Value.int IntKind.i64 0, Value.int IntKind.i64 0, Value.int IntKind.i64 0, Value.int IntKind.i64 0, Value.int IntKind.i64 0, Value.int IntKind.i64 0, Value.int IntKind.i64 0, Value.int IntKind.i64 0, Value.int IntKind.i64 0, Value.int IntKind.i64 0, Value.int IntKind.i64 0, Value.int IntKind.i64 0, Value.int IntKind.i64 0, Value.string { data := #[] }, Value.string { data := #[] }, Value.string { data := #[] }, Value.int IntKind.i64 0, Value.int IntKind.i64 0, Value.int IntKind.i64 0] 44)) := by
  simp [go_sem]
theorem enters_get (xs : Array Value) (w : World) : (callFunc 31 xs).run Try.prog w = .ok (.enter 31 xs) w := enters Try.func31 (by kernel_rfl) (by kernel_rfl) xs w
theorem liesX_zero (w : World) : E.LiesX (w.alloc (.cells #[Value.int IntKind.i64 0, Value.int IntKind.i64 0, Value.int IntKind.i64 0, Value.int IntKind.i64 0, Value.int IntKind.i64 0, Value.int IntKind.i64 0, Value.int IntKind.i64 0, Value.int IntKind.i64 0, Value.int IntKind.i64 0, Value.int IntKind.i64 0, Value.int IntKind.i64 0, Value.int IntKind.i64 0, Value.int IntKind.i64 0, Value.int IntKind.i64 0, Value.int IntKind.i64 0, Value.int IntKind.i64 0, Value.int IntKind.i64 0, Value.int IntKind.i64 0, Value.int IntKind.i64 0, Value.int IntKind.i64 0, Value.string { data := #[] }, Value.string { data := #[] }, Value.string { data := #[] }, Value.int IntKind.i64 0, Value.int IntKind.i64 0, Value.int IntKind.i64 0] 44)) w.heap.size E.zx := heap_alloc_new w _
/-- What takes reads. -/
structure Qk (g : Nat) (m : Option Nat) (S : List Ev) (B : Nat) (e : Ev) (W : World) : Prop where
  bf : Bf W g m S
  ev : LiesE W B e
theorem Qk.below {g : Nat} {m : Option Nat} {S : List Ev} {B : Nat} {e : Ev} {W W' : World} (h : Qk g m S B e W) (hb : Below W.heap.size W W') : Qk g m S B e W' := ⟨h.bf.below hb, h.ev.below hb h.ev.lt⟩
theorem get_q {g : Nat} {m : Option Nat} {S : List Ev} {B : Nat} {e : Ev} {W : World} (h : Qk g m S B e W) : Calls Try.prog 31 #[.pointer (some ⟨g, 0, none⟩), .agg (dotc e.r e.n)] W fun ex w' => (∃ x : Cx 26, ex = .returned (.tuple #[.agg x.l.toArray, .bool (hasE S e)])) ∧ Below W.heap.size W w' := by
  obtain ⟨cs, hb⟩ := h.bf
  refine (E.get_any g 0 cs 34 m (S.map eit) e.r e.n W hb).mono ?_
  rintro ex w' ⟨rfl, h2⟩
  exact ⟨⟨_, by rw [hasD_eit]⟩, h2⟩
set_option maxHeartbeats 2000000 in
theorem qtakes_any (g : Nat) (m : Option Nat) (S : List Ev) (e : Ev) (v : List Int) (hw : Wide e) (hv : v.length = 16) (w : World) (h : Bf w g m S) :
    Calls Try.prog 17 #[.pointer (some ⟨g, 0, none⟩), .agg (evc e), .agg (vals v)] w fun ex w' => ex = .returned (.bool (takesE S e v)) ∧ Below w.heap.size w w' := by
  have he16 := hw.1
  obtain ⟨B, hB⟩ : ∃ B, w.heap.size = B := ⟨_, rfl⟩
  have hb0 : Below w.heap.size w ((w.alloc (.cells (evc e) 44)).alloc (.cells (vals v) 40)) := ((Below.refl _ w).alloc (Nat.le_refl _) _).alloc (by simp) _
  have hK0 : Qk g m S w.heap.size e ((w.alloc (.cells (evc e) 44)).alloc (.cells (vals v) 40)) := ⟨h.below hb0, (liesE_new w e).alloc _⟩
  have hV0 : Lies ((w.alloc (.cells (evc e) 44)).alloc (.cells (vals v) 40)) (w.heap.size + 1) v := by
    have := lies_new (w.alloc (.cells (evc e) 44)) v
    rwa [World.size_alloc] at this
  generalize hW0 : (w.alloc (.cells (evc e) 44)).alloc (.cells (vals v) 40) = W0 at *
  rw [hB] at hK0 hV0
  have hOk := eright_any e he16 hw.2 W0
  have HB0 : Hid (Below w.heap.size w W0) := hb0
  have hE0 := hK0.ev
  unfold takesE
  clear hb0 h
  cases hok : okev e
  · rw [hok] at hOk
    go_enter Try.func17, Try.ntmps17
    go_wp2_with (first | refine load_ev rfl rfl rfl hE0 he16 ?_)
    refine Calls.mono hOk ?_
    rintro ex w1 ⟨rfl, hb1⟩
    have FIN : Hid (Below w.heap.size w w1) := HB0.out.trans (hb1.mono HB0.out.size)
    clear hE0 hK0 hb1 hOk hV0
    go_wp2
    go_ret
    exact ⟨rfl, FIN.out⟩
  · rw [hok] at hOk
    go_enter Try.func17, Try.ntmps17
    go_wp2_with (first | refine load_ev rfl rfl rfl hE0 he16 ?_)
    refine Calls.mono hOk ?_
    rintro ex w1 ⟨rfl, hb1⟩
    have HB1 : Hid (Below w.heap.size w w1) := HB0.out.trans (hb1.mono HB0.out.size)
    have hK1 := hK0.below hb1
    have hV1 := hV0.below hb1 hV0.lt
    have hlv := load_v hV1 hv
    have hld := hK1.ev.dotAt
    have hHa := has_any v e.r e.n hv w1
    have hfe := field_ev0 w1 B
    clear hE0 hK0 hb1 hOk HB0 hV0 hV1
    go_wp2_with (first
      | (refine wpList_loadW (ty := 40) (x := .tmp 5) (ad := ⟨B + 1, 0, none⟩) (v := .agg (vals v)) rfl rfl rfl hlv ?_)
      | (refine wpList_loadW (ty := 38) (x := .tmp 14) (ad := ⟨B, 0, none⟩) (v := .agg (dotc e.r e.n)) rfl rfl rfl hld ?_))
    refine Calls.mono hHa ?_
    rintro ex w2 ⟨rfl, hb2⟩
    have HB2 : Hid (Below w.heap.size w w2) := HB1.out.trans (hb2.mono HB1.out.size)
    have hK2 := hK1.below hb2
    clear hlv hld hHa hfe hb2 hK1 HB1
    cases hh : hasv v e.r e.n
    · go_upto_region 3 with fail
      go_cut [0, 8] from 7 (fun v0 v8 wr => v0 = .pointer (some ⟨g, 0, none⟩) ∧ v8 = .bool (hasE S e) ∧ Aside (Bf wr g m S ∧ Below w.heap.size w wr))
      case first =>
        have hbd : Below w2.heap.size w2 w2.drew := (Below.refl _ w2).drew
        have hKd := hK2.below hbd
        obtain ⟨W, hW⟩ : ∃ W, w2.drew = W := ⟨_, rfl⟩
        have HBd : Hid (Below w.heap.size w W) := hW ▸ HB2.out.trans (hbd.mono HB2.out.size)
        rw [hW] at hKd
        clear hbd hK2 HB2
        refine wp_region_noPanic ?_
        refine wp_region_held_drew (S := fun W' : World => Below W.heap.size W W') (by kernel_rfl) (by rw [hW]; exact Below.refl _ _) (fun hHeld => ?_)
        rw [hW] at hHeld ⊢
        refine wpAnyH_take (i := 0) (oi := { dst := some 19, op := _, type := _, pos := _, after := _, guard := _ }) (v := .pointer (some ⟨g, 0, none⟩)) rfl (by kernel_rfl) (by kernel_rfl) (by kernel_rfl) (fun _ _ _ h => h) (Or.inl ⟨by rfl, ?_⟩) (by assumption) ?_
        · intro w9 hSw
          exact y_move rfl rfl
        simp only [Act.put, List.setIfInBounds_toArray, List.set_cons_zero, List.set_cons_succ]
        refine wpAnyH_take (i := 1) (oi := { dst := some 20, op := _, type := _, pos := _, after := _, guard := _ }) (v := .pointer (some ⟨g, 0, none⟩)) rfl (by kernel_rfl) (by kernel_rfl) (by kernel_rfl) (fun _ _ _ h => h) (Or.inl ⟨by rfl, ?_⟩) (by assumption) ?_
        · intro w9 hSw
          exact y_nil rfl rfl
        simp only [Act.put, List.setIfInBounds_toArray, List.set_cons_zero, List.set_cons_succ]
        refine wpAnyH_take (i := 2) (oi := { dst := some 21, op := _, type := _, pos := _, after := _, guard := _ }) (v := .pointer (some ⟨g, 0, none⟩)) rfl (by kernel_rfl) (by kernel_rfl) (by kernel_rfl) (fun _ _ _ h => h) (Or.inl ⟨by rfl, ?_⟩) (by assumption) ?_
        · intro w9 hSw
          exact y_field rfl rfl (field_q _ _)
        simp only [Act.put, List.setIfInBounds_toArray, List.set_cons_zero, List.set_cons_succ]
        refine wpAnyH_take (i := 3) (oi := { dst := some 22, op := _, type := _, pos := _, after := _, guard := _ }) (v := .pointer (some ⟨B, 0, none⟩)) rfl (by kernel_rfl) (by kernel_rfl) (by kernel_rfl) (fun _ _ _ h => h) (Or.inl ⟨by rfl, ?_⟩) (by assumption) ?_
        · intro w9 hSw
          exact y_field rfl rfl (field_ev0 _ _)
        simp only [Act.put, List.setIfInBounds_toArray, List.set_cons_zero, List.set_cons_succ]
        refine wpAnyH_take (i := 4) (oi := { dst := some 23, op := _, type := _, pos := _, after := _, guard := _ }) (v := .agg (dotc e.r e.n)) rfl (by kernel_rfl) (by kernel_rfl) (by kernel_rfl) (fun _ _ _ h => h) (Or.inl ⟨by rfl, ?_⟩) (by assumption) ?_
        · intro w9 hSw
          exact y_load rfl rfl (hKd.below hSw).ev.dotAt
        simp only [Act.put, List.setIfInBounds_toArray, List.set_cons_zero, List.set_cons_succ]
        clear hHeld
        refine wpAnyH_ready (rs := [5, 9]) (by kernel_rfl) (by simp) ?_
        refine AllReadyH.cons (o := { dst := some 24, op := _, type := _, pos := _, after := _, guard := _ }) rfl (fun K hK => ?_) ?_
        · rw [if_pos (by rfl)]
          refine y_call (f := 31) (xs := [.tmp 21, .tmp 23]) (vs := [.pointer (some ⟨g, 0, none⟩), .agg (dotc e.r e.n)]) rfl rfl (enters_get _ _) (get_q (hKd.below (Below.refl W.heap.size W))) ?_
          rintro ex wc1 ⟨⟨xg, rfl⟩, hbc⟩
          refine ⟨_, rfl, ?_⟩
          have hb1 : Below W.heap.size W wc1 := ((Below.refl W.heap.size W) : Below W.heap.size W W).trans (hbc.mono ((Below.refl W.heap.size W) : Below W.heap.size W W).size)
          refine hK.out _ _ hb1 (fun hHeld => ?_)
          clear hK K
          simp only [Act.put, List.setIfInBounds_toArray, List.set_cons_zero, List.set_cons_succ]
          clear hHeld
          have hHeld : Below W.heap.size W wc1 := hb1
          refine wpAnyH_take (i := 6) (oi := { dst := some 18, op := _, type := _, pos := _, after := _, guard := _ }) (v := .tuple #[.agg xg.l.toArray, .bool (hasE S e)]) rfl (by kernel_rfl) (by kernel_rfl) (by kernel_rfl) (fun _ _ _ h => h) (Or.inl ⟨by rfl, ?_⟩) (by assumption) ?_
          · intro w9 hSw
            exact y_move rfl rfl
          simp only [Act.put, List.setIfInBounds_toArray, List.set_cons_zero, List.set_cons_succ]
          refine wpAnyH_take (i := 7) (oi := { dst := some 25, op := _, type := _, pos := _, after := _, guard := _ }) (v := .agg xg.l.toArray) rfl (by kernel_rfl) (by kernel_rfl) (by kernel_rfl) (fun _ _ _ h => h) (Or.inl ⟨by rfl, ?_⟩) (by assumption) ?_
          · intro w9 hSw
            exact y_extract rfl rfl rfl
          simp only [Act.put, List.setIfInBounds_toArray, List.set_cons_zero, List.set_cons_succ]
          refine wpAnyH_take (i := 8) (oi := { dst := some 26, op := _, type := _, pos := _, after := _, guard := _ }) (v := .bool (hasE S e)) rfl (by kernel_rfl) (by kernel_rfl) (by kernel_rfl) (fun _ _ _ h => h) (Or.inl ⟨by rfl, ?_⟩) (by assumption) ?_
          · intro w9 hSw
            exact y_extract rfl rfl rfl
          simp only [Act.put, List.setIfInBounds_toArray, List.set_cons_zero, List.set_cons_succ]
          clear hHeld
          refine wpAnyH_ready (rs := [9]) (by kernel_rfl) (by simp) ?_
          refine AllReadyH.cons (o := { dst := some 7, op := _, type := _, pos := _, after := _, guard := _ }) rfl (fun K hK => ?_) AllReadyH.nil
          rw [if_pos (by rfl)]
          refine y_alloc (ty := 44) rfl (alloc_ev wc1) ?_
          have hb2 : Below W.heap.size W (wc1.alloc (.cells #[Value.int IntKind.i64 0, Value.int IntKind.i64 0, Value.int IntKind.i64 0, Value.int IntKind.i64 0, Value.int IntKind.i64 0, Value.int IntKind.i64 0, Value.int IntKind.i64 0, Value.int IntKind.i64 0, Value.int IntKind.i64 0, Value.int IntKind.i64 0, Value.int IntKind.i64 0, Value.int IntKind.i64 0, Value.int IntKind.i64 0, Value.int IntKind.i64 0, Value.int IntKind.i64 0, Value.int IntKind.i64 0, Value.int IntKind.i64 0, Value.int IntKind.i64 0, Value.int IntKind.i64 0, Value.int IntKind.i64 0, Value.string { data := #[] }, Value.string { data := #[] }, Value.string { data := #[] }, Value.int IntKind.i64 0, Value.int IntKind.i64 0, Value.int IntKind.i64 0] 44)) := (hb1 : Below W.heap.size W wc1).alloc (hb1 : Below W.heap.size W wc1).size _
          refine hK.out _ _ hb2 (fun hHeld => ?_)
          clear hK K
          simp only [Act.put, List.setIfInBounds_toArray, List.set_cons_zero, List.set_cons_succ]
          clear hHeld
          refine wpAnyH_ready (rs := [10]) (by kernel_rfl) (by simp) ?_
          refine AllReadyH.cons (o := { dst := none, op := _, type := _, pos := _, after := _, guard := _ }) rfl (fun K hK => ?_) AllReadyH.nil
          rw [if_pos (by rfl)]
          refine y_store (ty := 44) (x := .tmp 7) (y := .tmp 25) (ad := ⟨wc1.heap.size, 0, none⟩) (v := .agg xg.l.toArray) (w' := (wc1.alloc (.cells #[Value.int IntKind.i64 0, Value.int IntKind.i64 0, Value.int IntKind.i64 0, Value.int IntKind.i64 0, Value.int IntKind.i64 0, Value.int IntKind.i64 0, Value.int IntKind.i64 0, Value.int IntKind.i64 0, Value.int IntKind.i64 0, Value.int IntKind.i64 0, Value.int IntKind.i64 0, Value.int IntKind.i64 0, Value.int IntKind.i64 0, Value.int IntKind.i64 0, Value.int IntKind.i64 0, Value.int IntKind.i64 0, Value.int IntKind.i64 0, Value.int IntKind.i64 0, Value.int IntKind.i64 0, Value.int IntKind.i64 0, Value.string { data := #[] }, Value.string { data := #[] }, Value.string { data := #[] }, Value.int IntKind.i64 0, Value.int IntKind.i64 0, Value.int IntKind.i64 0] 44)).setRow (wc1.heap.size) xg.l.toArray) rfl rfl rfl (E.store_x (liesX_zero wc1)) ?_
          have hbF : Below W.heap.size W ((wc1.alloc (.cells #[Value.int IntKind.i64 0, Value.int IntKind.i64 0, Value.int IntKind.i64 0, Value.int IntKind.i64 0, Value.int IntKind.i64 0, Value.int IntKind.i64 0, Value.int IntKind.i64 0, Value.int IntKind.i64 0, Value.int IntKind.i64 0, Value.int IntKind.i64 0, Value.int IntKind.i64 0, Value.int IntKind.i64 0, Value.int IntKind.i64 0, Value.int IntKind.i64 0, Value.int IntKind.i64 0, Value.int IntKind.i64 0, Value.int IntKind.i64 0, Value.int IntKind.i64 0, Value.int IntKind.i64 0, Value.int IntKind.i64 0, Value.string { data := #[] }, Value.string { data := #[] }, Value.string { data := #[] }, Value.int IntKind.i64 0, Value.int IntKind.i64 0, Value.int IntKind.i64 0] 44)).setRow (wc1.heap.size) xg.l.toArray) := below_setRow hb2 hb1.size _
          refine hK.out _ _ hbF (fun hHeld => ?_)
          clear hK K
          simp only [Act.put]
          refine wpAnyH_take (i := 11) (oi := { dst := some 8, op := _, type := _, pos := _, after := _, guard := _ }) (v := .bool (hasE S e)) rfl (by kernel_rfl) (by kernel_rfl) (by kernel_rfl) (fun _ _ _ h => h) (Or.inl ⟨by rfl, ?_⟩) (by assumption) ?_
          · intro w9 hSw
            exact y_assign rfl rfl
          simp only [Act.put, List.setIfInBounds_toArray, List.set_cons_zero, List.set_cons_succ]
          refine wpAnyH_done (by kernel_rfl) ?_ _
          refine NoPanic.normal ?_
          clear hHeld
          go_wp2
          go_meet
          case rel => exact ⟨rfl, rfl, hKd.bf.below hbF, HBd.out.trans (hbF.mono HBd.out.size)⟩
        refine AllReadyH.cons (o := { dst := some 7, op := _, type := _, pos := _, after := _, guard := _ }) rfl (fun K hK => ?_) AllReadyH.nil
        rw [if_pos (by rfl)]
        refine y_alloc (ty := 44) rfl (alloc_ev W) ?_
        have hb1 : Below W.heap.size W (W.alloc (.cells #[Value.int IntKind.i64 0, Value.int IntKind.i64 0, Value.int IntKind.i64 0, Value.int IntKind.i64 0, Value.int IntKind.i64 0, Value.int IntKind.i64 0, Value.int IntKind.i64 0, Value.int IntKind.i64 0, Value.int IntKind.i64 0, Value.int IntKind.i64 0, Value.int IntKind.i64 0, Value.int IntKind.i64 0, Value.int IntKind.i64 0, Value.int IntKind.i64 0, Value.int IntKind.i64 0, Value.int IntKind.i64 0, Value.int IntKind.i64 0, Value.int IntKind.i64 0, Value.int IntKind.i64 0, Value.int IntKind.i64 0, Value.string { data := #[] }, Value.string { data := #[] }, Value.string { data := #[] }, Value.int IntKind.i64 0, Value.int IntKind.i64 0, Value.int IntKind.i64 0] 44)) := ((Below.refl W.heap.size W) : Below W.heap.size W W).alloc ((Below.refl W.heap.size W) : Below W.heap.size W W).size _
        refine hK.out _ _ hb1 (fun hHeld => ?_)
        clear hK K
        simp only [Act.put, List.setIfInBounds_toArray, List.set_cons_zero, List.set_cons_succ]
        clear hHeld
        refine wpAnyH_ready (rs := [5]) (by kernel_rfl) (by simp) ?_
        refine AllReadyH.cons (o := { dst := some 24, op := _, type := _, pos := _, after := _, guard := _ }) rfl (fun K hK => ?_) AllReadyH.nil
        rw [if_pos (by rfl)]
        refine y_call (f := 31) (xs := [.tmp 21, .tmp 23]) (vs := [.pointer (some ⟨g, 0, none⟩), .agg (dotc e.r e.n)]) rfl rfl (enters_get _ _) (get_q (hKd.below hb1)) ?_
        rintro ex wc1 ⟨⟨xg, rfl⟩, hbc⟩
        refine ⟨_, rfl, ?_⟩
        have hb2 : Below W.heap.size W wc1 := (hb1 : Below W.heap.size W (W.alloc (.cells #[Value.int IntKind.i64 0, Value.int IntKind.i64 0, Value.int IntKind.i64 0, Value.int IntKind.i64 0, Value.int IntKind.i64 0, Value.int IntKind.i64 0, Value.int IntKind.i64 0, Value.int IntKind.i64 0, Value.int IntKind.i64 0, Value.int IntKind.i64 0, Value.int IntKind.i64 0, Value.int IntKind.i64 0, Value.int IntKind.i64 0, Value.int IntKind.i64 0, Value.int IntKind.i64 0, Value.int IntKind.i64 0, Value.int IntKind.i64 0, Value.int IntKind.i64 0, Value.int IntKind.i64 0, Value.int IntKind.i64 0, Value.string { data := #[] }, Value.string { data := #[] }, Value.string { data := #[] }, Value.int IntKind.i64 0, Value.int IntKind.i64 0, Value.int IntKind.i64 0] 44))).trans (hbc.mono (hb1 : Below W.heap.size W (W.alloc (.cells #[Value.int IntKind.i64 0, Value.int IntKind.i64 0, Value.int IntKind.i64 0, Value.int IntKind.i64 0, Value.int IntKind.i64 0, Value.int IntKind.i64 0, Value.int IntKind.i64 0, Value.int IntKind.i64 0, Value.int IntKind.i64 0, Value.int IntKind.i64 0, Value.int IntKind.i64 0, Value.int IntKind.i64 0, Value.int IntKind.i64 0, Value.int IntKind.i64 0, Value.int IntKind.i64 0, Value.int IntKind.i64 0, Value.int IntKind.i64 0, Value.int IntKind.i64 0, Value.int IntKind.i64 0, Value.int IntKind.i64 0, Value.string { data := #[] }, Value.string { data := #[] }, Value.string { data := #[] }, Value.int IntKind.i64 0, Value.int IntKind.i64 0, Value.int IntKind.i64 0] 44))).size)
        refine hK.out _ _ hb2 (fun hHeld => ?_)
        clear hK K
        simp only [Act.put, List.setIfInBounds_toArray, List.set_cons_zero, List.set_cons_succ]
        clear hHeld
        have hHeld : Below W.heap.size W wc1 := hb2
        refine wpAnyH_take (i := 6) (oi := { dst := some 18, op := _, type := _, pos := _, after := _, guard := _ }) (v := .tuple #[.agg xg.l.toArray, .bool (hasE S e)]) rfl (by kernel_rfl) (by kernel_rfl) (by kernel_rfl) (fun _ _ _ h => h) (Or.inl ⟨by rfl, ?_⟩) (by assumption) ?_
        · intro w9 hSw
          exact y_move rfl rfl
        simp only [Act.put, List.setIfInBounds_toArray, List.set_cons_zero, List.set_cons_succ]
        refine wpAnyH_take (i := 7) (oi := { dst := some 25, op := _, type := _, pos := _, after := _, guard := _ }) (v := .agg xg.l.toArray) rfl (by kernel_rfl) (by kernel_rfl) (by kernel_rfl) (fun _ _ _ h => h) (Or.inl ⟨by rfl, ?_⟩) (by assumption) ?_
        · intro w9 hSw
          exact y_extract rfl rfl rfl
        simp only [Act.put, List.setIfInBounds_toArray, List.set_cons_zero, List.set_cons_succ]
        refine wpAnyH_take (i := 8) (oi := { dst := some 26, op := _, type := _, pos := _, after := _, guard := _ }) (v := .bool (hasE S e)) rfl (by kernel_rfl) (by kernel_rfl) (by kernel_rfl) (fun _ _ _ h => h) (Or.inl ⟨by rfl, ?_⟩) (by assumption) ?_
        · intro w9 hSw
          exact y_extract rfl rfl rfl
        simp only [Act.put, List.setIfInBounds_toArray, List.set_cons_zero, List.set_cons_succ]
        clear hHeld
        refine wpAnyH_ready (rs := [10]) (by kernel_rfl) (by simp) ?_
        refine AllReadyH.cons (o := { dst := none, op := _, type := _, pos := _, after := _, guard := _ }) rfl (fun K hK => ?_) AllReadyH.nil
        rw [if_pos (by rfl)]
        refine y_store (ty := 44) (x := .tmp 7) (y := .tmp 25) (ad := ⟨W.heap.size, 0, none⟩) (v := .agg xg.l.toArray) (w' := (wc1).setRow (W.heap.size) xg.l.toArray) rfl rfl rfl (E.store_x (show E.LiesX wc1 W.heap.size E.zx from (hbc.block _ (by simp)).trans (liesX_zero W))) ?_
        have hbF : Below W.heap.size W ((wc1).setRow (W.heap.size) xg.l.toArray) := below_setRow hb2 (Nat.le_refl _) _
        refine hK.out _ _ hbF (fun hHeld => ?_)
        clear hK K
        simp only [Act.put]
        refine wpAnyH_take (i := 11) (oi := { dst := some 8, op := _, type := _, pos := _, after := _, guard := _ }) (v := .bool (hasE S e)) rfl (by kernel_rfl) (by kernel_rfl) (by kernel_rfl) (fun _ _ _ h => h) (Or.inl ⟨by rfl, ?_⟩) (by assumption) ?_
        · intro w9 hSw
          exact y_assign rfl rfl
        simp only [Act.put, List.setIfInBounds_toArray, List.set_cons_zero, List.set_cons_succ]
        refine wpAnyH_done (by kernel_rfl) ?_ _
        refine NoPanic.normal ?_
        clear hHeld
        go_wp2
        go_meet
        case rel => exact ⟨rfl, rfl, hKd.bf.below hbF, HBd.out.trans (hbF.mono HBd.out.size)⟩
      case rest =>
        obtain ⟨rfl, rfl, HA⟩ := hcut
        have hL := qlenb g m S wc HA.out.1
        cases hs : hasE S e
        · by_cases hl : S.length < 64
          · have hl' : (S.length : Int) < 64 := by omega
            have hd : decide (S.length < 64) = true := by simpa using hl
            go_wp2_with fail
            refine Calls.mono hL ?_
            rintro ex w5 ⟨rfl, hw5⟩
            obtain rfl := hw5.symm
            go_wp2
            go_ret
            exact ⟨by rw [hh, hs, hd]; rfl, HA.out.2⟩
          · have hl' : ¬ (S.length : Int) < 64 := by omega
            have hd : decide (S.length < 64) = false := by simpa using hl
            go_wp2_with fail
            refine Calls.mono hL ?_
            rintro ex w5 ⟨rfl, hw5⟩
            obtain rfl := hw5.symm
            go_wp2
            go_ret
            exact ⟨by rw [hh, hs, hd]; exact congrArg (fun b => Ending.returned (.bool b)) (decide_eq_false (by omega)), HA.out.2⟩
        · go_wp2
          go_ret
          exact ⟨by rw [hh, hs]; rfl, HA.out.2⟩
    · go_wp2
      go_ret
      exact ⟨by rw [hh]; rfl, HB2.out⟩
end Go.Proofs.Ythpkpmcccpfabaa
