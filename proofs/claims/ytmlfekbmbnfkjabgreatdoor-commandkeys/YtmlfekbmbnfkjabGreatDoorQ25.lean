/-
  What Ready comes to.
-/
import Derived.Test.YtmlfekbmbnfkjabGreatDoorQ22
import Derived.Test.YtmlfekbmbnfkjabGreatDoorQ24
import Derived.Test.YtmlfekbmbnfkjabGreatDoorQ09
import Derived.Test.YtmlfekbmbnfkjabGreatDoorQ14
import Derived.Laws.IdiomStrings
import Derived.Test.YtmlfekbmbnfkjabGreatDoorQ02
import Derived.Deep.Cut
namespace Go.Proofs.YtmlfekbmbnfkjabGreatDoor
set_option maxRecDepth 100000
open Go.RowKit

/-- May it be seen next? -/
def readyE (s : St) (e : Ev) : Bool := okev e && (decide (withE s.seen e.r e.n = 0) && decide (each max s.seen e.deps = s.seen))
theorem eqGuard_vv (w : World) {op : BinOp} {x y : Operand} (a b : List Int) : (eqGuard op 41 x y (.agg (vals a)) (.agg (vals b))).run Tryz.prog w = .ok () w := by
  have := plain_vec
  go_simp
theorem eqGuard_er (w : World) {op : BinOp} {x y : Operand} (a b : Int) : (eqGuard op 43 x y (.int .i64 a) (.int .i64 b)).run Tryz.prog w = .ok () w := by go_simp
theorem eql_er (w : World) {a b : Int} {t : Bool} (h : (a == b) = t) : (binOp .eql 43 (.int .i64 a) (.int .i64 b)).run Tryz.prog w = .ok (.bool t) w := by
  subst h
  simp [go_sem]
theorem y_alloc {o : Oper} {a : Act} {w w' : World} {K : Act → World → Prop} {Q : Exit → Act → World → Prop} {ty : TypeId} {v : Value} (ho : o.op = .alloc ty) (hr : (Instr.alloc ty true (.tuple #[])).run Tryz.prog w = .ok v w') (h : K (a.put o.dst v) w') : o.wp Tryz.prog a w K Q := by
  unfold Oper.wp execOp
  simp only [ho, Sem.run_bind, Sem.run_pure, Result.andThen_ok, hr]
  exact h
theorem alloc_vv (w : World) : (Instr.alloc 41 true (.tuple #[])).run Tryz.prog w = .ok (.pointer (some ⟨w.heap.size, 0, none⟩)) (w.alloc (.cells (vals zeros) 41)) := by
  rw [zeros_vals]
  simp [go_sem]
theorem store_vv {w : World} {g : Nat} {z v : List Int} (hg : Lies w g z) (hz : z.length = 16) (hv : v.length = 16) : (storeVar 41 ⟨g, 0, none⟩ (.agg (vals v))).run Tryz.prog w = .ok () (w.setRow g (vals v)) :=
  run_storeVar_row (P := Tryz.prog) w g 41 41 (vals z) (vals v) hg (by rw [vals_size, hv]; kernel_rfl) (by rw [vals_size, vals_size, hz, hv]) (vals_one v)
theorem enters_join (xs : Array Value) (w : World) : (callFunc 33 xs).run Tryz.prog w = .ok (.enter 33 xs) w := enters Tryz.func33 (by kernel_rfl) (by kernel_rfl) xs w
theorem each_len {a b : List Int} (la : a.length = 16) (lb : b.length = 16) : (each max a b).length = 16 := each_length max a b la lb
/-- What Ready reads. -/
structure Rr (Y : Lay) (g : Nat) (s : St) (B : Nat) (e : Ev) (W : World) : Prop where
  sp : SpK Y W g s none
  ev : LiesE W B e
theorem Rr.below {Y : Lay} {g : Nat} {s : St} {B : Nat} {e : Ev} {W W' : World} (h : Rr Y g s B e W) (hb : Below W.heap.size W W') : Rr Y g s B e W' := ⟨h.sp.below hb (Nat.le_refl _), h.ev.below hb h.ev.lt⟩
theorem eql_ps (w : World) (ad : Addr) : (binOp .eql 25 (.pointer (some ad)) (.pointer none)).run Tryz.prog w = .ok (.bool false) w := by kernel_rfl

set_option maxHeartbeats 2000000 in
theorem ready_any (Y : Lay) (w : World) (g : Nat) (s : St) (e : Ev) (hS : SpK Y w g s none) (hw : Wide e) :
    Calls Tryz.prog 19 #[.pointer (some ⟨g, 0, none⟩), .agg (evc e)] w fun ex w' => ex = .returned (.bool (readyE s e)) ∧ Below w.heap.size w w' := by
  have he16 := hw.1
  have hb0 : Below w.heap.size w (w.alloc (.cells (evc e) 47)) := (Below.refl _ w).alloc (Nat.le_refl _) _
  have hE0 := liesE_new w e
  have hR0 : Rr Y g s w.heap.size e (w.alloc (.cells (evc e) 47)) := ⟨hS.below hb0 (Nat.le_refl _), hE0⟩
  have hl16 := hS.len
  generalize hW0 : w.alloc (.cells (evc e) 47) = W0 at *
  obtain ⟨B, hB⟩ : ∃ B, w.heap.size = B := ⟨_, rfl⟩
  rw [hB] at hE0 hR0
  have hOk := eright_any e he16 hw.2 W0
  have he := eql_ps W0 ⟨g, 0, none⟩
  have HB0 : Hid (Below w.heap.size w W0) := hb0
  clear hS hb0
  unfold readyE
  cases hok : okev e
  · rw [hok] at hOk
    go_enter Tryz.func19, Tryz.ntmps19
    go_wp2_with (first | refine load_ev rfl rfl rfl hE0 he16 ?_)
    refine Calls.mono hOk ?_
    rintro ex w1 ⟨rfl, hb1⟩
    have FIN : Hid (Below w.heap.size w w1) := HB0.out.trans (hb1.mono HB0.out.size)
    clear hE0 hR0 hb1 hOk
    go_wp2
    go_ret
    exact ⟨rfl, FIN.out⟩
  · rw [hok] at hOk
    rw [Bool.true_and]
    go_enter Tryz.func19, Tryz.ntmps19
    go_wp2_with (first | refine load_ev rfl rfl rfl hE0 he16 ?_)
    refine Calls.mono hOk ?_
    rintro ex w1 ⟨rfl, hb1⟩
    have HB1 : Hid (Below w.heap.size w w1) := HB0.out.trans (hb1.mono HB0.out.size)
    have hR1 := hR0.below hb1
    clear hE0 hR0 hb1 hOk he HB0
    go_upto_region 3 with fail
    go_cut [0, 3, 6] from 5 (fun v0 v3 v6 wr => v0 = .pointer (some ⟨g, 0, none⟩) ∧ v3 = .pointer (some ⟨B, 0, none⟩) ∧ v6 = .int .i64 (withE s.seen e.r e.n) ∧ Aside (Rr Y g s B e wr ∧ Below w.heap.size w wr))
    case first =>
      have hbd : Below w1.heap.size w1 w1.drew := (Below.refl _ w1).drew
      have hRd := hR1.below hbd
      have hHs : Below w1.drew.heap.size w1.drew w1.drew := Below.refl _ _
      obtain ⟨W, hW⟩ : ∃ W, w1.drew = W := ⟨_, rfl⟩
      have HBd : Hid (Below w.heap.size w W) := hW ▸ HB1.out.trans (hbd.mono HB1.out.size)
      rw [hW] at hRd
      have hwl := withV_length s.seen e.r e.n hl16
      clear hbd hHs hR1
      refine wp_region_noPanic ?_
      refine wp_region_held_drew (S := fun W' : World => Below W.heap.size W W') (by kernel_rfl) (by rw [hW]; exact Below.refl _ _) (fun hHeld => ?_)
      rw [hW] at hHeld ⊢
      refine wpAnyH_take (i := 0) (oi := { dst := some 15, op := _, type := _, pos := _, after := _, guard := _ }) (v := .pointer (some ⟨g, 0, none⟩)) rfl (by kernel_rfl) (by kernel_rfl) (by kernel_rfl) (fun _ _ _ h => h) (Or.inl ⟨by rfl, ?_⟩) (by assumption) ?_
      · intro w9 hSw
        exact y_move rfl rfl
      simp only [Act.put, List.setIfInBounds_toArray, List.set_cons_zero, List.set_cons_succ]
      refine wpAnyH_take (i := 1) (oi := { dst := some 16, op := _, type := _, pos := _, after := _, guard := _ }) (v := .pointer (some ⟨g, 0, none⟩)) rfl (by kernel_rfl) (by kernel_rfl) (by kernel_rfl) (fun _ _ _ h => h) (Or.inl ⟨by rfl, ?_⟩) (by assumption) ?_
      · intro w9 hSw
        exact y_nil rfl rfl
      simp only [Act.put, List.setIfInBounds_toArray, List.set_cons_zero, List.set_cons_succ]
      refine wpAnyH_take (i := 2) (oi := { dst := some 17, op := _, type := _, pos := _, after := _, guard := _ }) (v := .pointer (some ⟨g, 0, none⟩)) rfl (by kernel_rfl) (by kernel_rfl) (by kernel_rfl) (fun _ _ _ h => h) (Or.inl ⟨by rfl, ?_⟩) (by assumption) ?_
      · intro w9 hSw
        exact y_field rfl rfl (field_s0 _ _)
      simp only [Act.put, List.setIfInBounds_toArray, List.set_cons_zero, List.set_cons_succ]
      refine wpAnyH_take (i := 3) (oi := { dst := some 18, op := _, type := _, pos := _, after := _, guard := _ }) (v := .agg (vals s.seen)) rfl (by kernel_rfl) (by kernel_rfl) (by kernel_rfl) (fun _ _ _ h => h) (Or.inl ⟨by rfl, ?_⟩) (by assumption) ?_
      · intro w9 hSw
        exact y_load rfl rfl (load_seen (hRd.below hSw).sp)
      simp only [Act.put, List.setIfInBounds_toArray, List.set_cons_zero, List.set_cons_succ]
      refine wpAnyH_take (i := 4) (oi := { dst := some 19, op := _, type := _, pos := _, after := _, guard := _ }) (v := .pointer (some ⟨B, 0, none⟩)) rfl (by kernel_rfl) (by kernel_rfl) (by kernel_rfl) (fun _ _ _ h => h) (Or.inl ⟨by rfl, ?_⟩) (by assumption) ?_
      · intro w9 hSw
        exact y_field rfl rfl (field_ev0 _ _)
      simp only [Act.put, List.setIfInBounds_toArray, List.set_cons_zero, List.set_cons_succ]
      refine wpAnyH_take (i := 5) (oi := { dst := some 20, op := _, type := _, pos := _, after := _, guard := _ }) (v := .agg (dotc e.r e.n)) rfl (by kernel_rfl) (by kernel_rfl) (by kernel_rfl) (fun _ _ _ h => h) (Or.inl ⟨by rfl, ?_⟩) (by assumption) ?_
      · intro w9 hSw
        exact y_load rfl rfl (hRd.below hSw).ev.dotAt
      simp only [Act.put, List.setIfInBounds_toArray, List.set_cons_zero, List.set_cons_succ]
      clear hHeld
      refine wpAnyH_ready (rs := [6, 10]) (by kernel_rfl) (by simp) ?_
      refine AllReadyH.cons (o := { dst := some 21, op := _, type := _, pos := _, after := _, guard := _ }) rfl (fun K hK => ?_) ?_
      · rw [if_pos (by rfl)]
        refine y_call (f := 32) (xs := [.tmp 18, .tmp 20]) (vs := [.agg (vals s.seen), .agg (dotc e.r e.n)]) rfl rfl (enters_with _ _) (with_any s.seen e.r e.n hl16 W) ?_
        rintro ex wc1 ⟨rfl, hbc⟩
        refine ⟨_, rfl, ?_⟩
        have hb1 : Below W.heap.size W wc1 := (Below.refl W.heap.size W).trans (hbc.mono (Below.refl W.heap.size W).size)
        refine hK.out _ _ hb1 (fun hHeld => ?_)
        clear hK K
        simp only [Act.put, List.setIfInBounds_toArray, List.set_cons_zero, List.set_cons_succ]
        clear hHeld
        have hHeld : Below W.heap.size W wc1 := hb1
        refine wpAnyH_take (i := 7) (oi := { dst := some 14, op := _, type := _, pos := _, after := _, guard := _ }) (v := .tuple #[.agg (vals (withV s.seen e.r e.n)), .int .i64 (withE s.seen e.r e.n)]) rfl (by kernel_rfl) (by kernel_rfl) (by kernel_rfl) (fun _ _ _ h => h) (Or.inl ⟨by rfl, ?_⟩) (by assumption) ?_
        · intro w9 hSw
          exact y_move rfl rfl
        simp only [Act.put, List.setIfInBounds_toArray, List.set_cons_zero, List.set_cons_succ]
        refine wpAnyH_take (i := 8) (oi := { dst := some 22, op := _, type := _, pos := _, after := _, guard := _ }) (v := .agg (vals (withV s.seen e.r e.n))) rfl (by kernel_rfl) (by kernel_rfl) (by kernel_rfl) (fun _ _ _ h => h) (Or.inl ⟨by rfl, ?_⟩) (by assumption) ?_
        · intro w9 hSw
          exact y_extract rfl rfl rfl
        simp only [Act.put, List.setIfInBounds_toArray, List.set_cons_zero, List.set_cons_succ]
        refine wpAnyH_take (i := 9) (oi := { dst := some 23, op := _, type := _, pos := _, after := _, guard := _ }) (v := .int .i64 (withE s.seen e.r e.n)) rfl (by kernel_rfl) (by kernel_rfl) (by kernel_rfl) (fun _ _ _ h => h) (Or.inl ⟨by rfl, ?_⟩) (by assumption) ?_
        · intro w9 hSw
          exact y_extract rfl rfl rfl
        simp only [Act.put, List.setIfInBounds_toArray, List.set_cons_zero, List.set_cons_succ]
        clear hHeld
        refine wpAnyH_ready (rs := [10]) (by kernel_rfl) (by simp) ?_
        refine AllReadyH.cons (o := { dst := some 5, op := _, type := _, pos := _, after := _, guard := _ }) rfl (fun K hK => ?_) AllReadyH.nil
        rw [if_pos (by rfl)]
        refine y_alloc (ty := 41) rfl (alloc_vv wc1) ?_
        have hb2 : Below W.heap.size W (wc1.alloc (.cells (vals zeros) 41)) := hb1.alloc hb1.size _
        refine hK.out _ _ hb2 (fun hHeld => ?_)
        clear hK K
        simp only [Act.put, List.setIfInBounds_toArray, List.set_cons_zero, List.set_cons_succ]
        clear hHeld
        refine wpAnyH_ready (rs := [11]) (by kernel_rfl) (by simp) ?_
        refine AllReadyH.cons (o := { dst := none, op := _, type := _, pos := _, after := _, guard := _ }) rfl (fun K hK => ?_) AllReadyH.nil
        rw [if_pos (by rfl)]
        refine y_store (ty := 41) (x := .tmp 5) (y := .tmp 22) (ad := ⟨wc1.heap.size, 0, none⟩) (v := .agg (vals (withV s.seen e.r e.n))) (w' := (wc1.alloc (.cells (vals zeros) 41)).setRow (wc1.heap.size) (vals (withV s.seen e.r e.n))) rfl rfl rfl (store_vv (lies_new wc1 zeros) rfl hwl) ?_
        have hbF : Below W.heap.size W ((wc1.alloc (.cells (vals zeros) 41)).setRow (wc1.heap.size) (vals (withV s.seen e.r e.n))) := below_setRow hb2 hb1.size _
        refine hK.out _ _ hbF (fun hHeld => ?_)
        clear hK K
        simp only [Act.put]
        refine wpAnyH_take (i := 12) (oi := { dst := some 6, op := _, type := _, pos := _, after := _, guard := _ }) (v := .int .i64 (withE s.seen e.r e.n)) rfl (by kernel_rfl) (by kernel_rfl) (by kernel_rfl) (fun _ _ _ h => h) (Or.inl ⟨by rfl, ?_⟩) (by assumption) ?_
        · intro w9 hSw
          exact y_assign rfl rfl
        simp only [Act.put, List.setIfInBounds_toArray, List.set_cons_zero, List.set_cons_succ]
        refine wpAnyH_done (by kernel_rfl) ?_ _
        refine NoPanic.normal ?_
        clear hHeld
        go_wp2
        go_meet
        case rel => exact ⟨rfl, rfl, rfl, hRd.below hbF, HBd.out.trans (hbF.mono HBd.out.size)⟩
      refine AllReadyH.cons (o := { dst := some 5, op := _, type := _, pos := _, after := _, guard := _ }) rfl (fun K hK => ?_) AllReadyH.nil
      rw [if_pos (by rfl)]
      refine y_alloc (ty := 41) rfl (alloc_vv W) ?_
      have hb1 : Below W.heap.size W (W.alloc (.cells (vals zeros) 41)) := (Below.refl W.heap.size W).alloc (Below.refl W.heap.size W).size _
      refine hK.out _ _ hb1 (fun hHeld => ?_)
      clear hK K
      simp only [Act.put, List.setIfInBounds_toArray, List.set_cons_zero, List.set_cons_succ]
      clear hHeld
      refine wpAnyH_ready (rs := [6]) (by kernel_rfl) (by simp) ?_
      refine AllReadyH.cons (o := { dst := some 21, op := _, type := _, pos := _, after := _, guard := _ }) rfl (fun K hK => ?_) AllReadyH.nil
      rw [if_pos (by rfl)]
      refine y_call (f := 32) (xs := [.tmp 18, .tmp 20]) (vs := [.agg (vals s.seen), .agg (dotc e.r e.n)]) rfl rfl (enters_with _ _) (with_any s.seen e.r e.n hl16 (W.alloc (.cells (vals zeros) 41))) ?_
      rintro ex wc1 ⟨rfl, hbc⟩
      refine ⟨_, rfl, ?_⟩
      have hb2 : Below W.heap.size W wc1 := hb1.trans (hbc.mono hb1.size)
      refine hK.out _ _ hb2 (fun hHeld => ?_)
      clear hK K
      simp only [Act.put, List.setIfInBounds_toArray, List.set_cons_zero, List.set_cons_succ]
      clear hHeld
      have hHeld : Below W.heap.size W wc1 := hb2
      refine wpAnyH_take (i := 7) (oi := { dst := some 14, op := _, type := _, pos := _, after := _, guard := _ }) (v := .tuple #[.agg (vals (withV s.seen e.r e.n)), .int .i64 (withE s.seen e.r e.n)]) rfl (by kernel_rfl) (by kernel_rfl) (by kernel_rfl) (fun _ _ _ h => h) (Or.inl ⟨by rfl, ?_⟩) (by assumption) ?_
      · intro w9 hSw
        exact y_move rfl rfl
      simp only [Act.put, List.setIfInBounds_toArray, List.set_cons_zero, List.set_cons_succ]
      refine wpAnyH_take (i := 8) (oi := { dst := some 22, op := _, type := _, pos := _, after := _, guard := _ }) (v := .agg (vals (withV s.seen e.r e.n))) rfl (by kernel_rfl) (by kernel_rfl) (by kernel_rfl) (fun _ _ _ h => h) (Or.inl ⟨by rfl, ?_⟩) (by assumption) ?_
      · intro w9 hSw
        exact y_extract rfl rfl rfl
      simp only [Act.put, List.setIfInBounds_toArray, List.set_cons_zero, List.set_cons_succ]
      refine wpAnyH_take (i := 9) (oi := { dst := some 23, op := _, type := _, pos := _, after := _, guard := _ }) (v := .int .i64 (withE s.seen e.r e.n)) rfl (by kernel_rfl) (by kernel_rfl) (by kernel_rfl) (fun _ _ _ h => h) (Or.inl ⟨by rfl, ?_⟩) (by assumption) ?_
      · intro w9 hSw
        exact y_extract rfl rfl rfl
      simp only [Act.put, List.setIfInBounds_toArray, List.set_cons_zero, List.set_cons_succ]
      clear hHeld
      refine wpAnyH_ready (rs := [11]) (by kernel_rfl) (by simp) ?_
      refine AllReadyH.cons (o := { dst := none, op := _, type := _, pos := _, after := _, guard := _ }) rfl (fun K hK => ?_) AllReadyH.nil
      rw [if_pos (by rfl)]
      refine y_store (ty := 41) (x := .tmp 5) (y := .tmp 22) (ad := ⟨W.heap.size, 0, none⟩) (v := .agg (vals (withV s.seen e.r e.n))) (w' := (wc1).setRow (W.heap.size) (vals (withV s.seen e.r e.n))) rfl rfl rfl (store_vv ((lies_new W zeros).below hbc (by simp)) rfl hwl) ?_
      have hbF : Below W.heap.size W ((wc1).setRow (W.heap.size) (vals (withV s.seen e.r e.n))) := below_setRow hb2 (Nat.le_refl _) _
      refine hK.out _ _ hbF (fun hHeld => ?_)
      clear hK K
      simp only [Act.put]
      refine wpAnyH_take (i := 12) (oi := { dst := some 6, op := _, type := _, pos := _, after := _, guard := _ }) (v := .int .i64 (withE s.seen e.r e.n)) rfl (by kernel_rfl) (by kernel_rfl) (by kernel_rfl) (fun _ _ _ h => h) (Or.inl ⟨by rfl, ?_⟩) (by assumption) ?_
      · intro w9 hSw
        exact y_assign rfl rfl
      simp only [Act.put, List.setIfInBounds_toArray, List.set_cons_zero, List.set_cons_succ]
      refine wpAnyH_done (by kernel_rfl) ?_ _
      refine NoPanic.normal ?_
      clear hHeld
      go_wp2
      go_meet
      case rel => exact ⟨rfl, rfl, rfl, hRd.below hbF, HBd.out.trans (hbF.mono HBd.out.size)⟩
    case rest =>
      obtain ⟨rfl, rfl, rfl, HA⟩ := hcut
      have hR2 := HA.out.1
      have HB2 : Hid (Below w.heap.size w wc) := HA.out.2
      clear HA HB1 hR1
      have hbd : Below wc.heap.size wc wc.drew := (Below.refl _ wc).drew
      have hRd := hR2.below hbd
      have HB3 : Hid (Below w.heap.size w wc.drew) := HB2.out.trans (hbd.mono HB2.out.size)
      obtain ⟨x, hx⟩ : ∃ x, withE s.seen e.r e.n = x := ⟨_, rfl⟩
      have HX : Hid (withE s.seen e.r e.n = x) := hx
      rw [hx]
      clear hbd hR2 HB2
      by_cases h0 : x = 0
      · have hx0 : (x == 0) = true := by simpa using h0
        have hd0 : decide (x = 0) = true := by simpa using h0
        have HD0 : Hid (decide (x = 0) = true) := hd0
        have hjl := each_len hl16 he16
        clear h0 hd0 hx
        go_wp2_with fail
        refine wp_region_noPanic ?_
        refine wp_region_held_drew (S := fun W' : World => Rr Y g s B e W') (by kernel_rfl) hRd (fun hHeld => ?_)
        refine wpAnyH_take (i := 0) (oi := { dst := some 24, op := _, type := _, pos := _, after := _, guard := _ }) (v := .int .i64 x) rfl (by kernel_rfl) (by kernel_rfl) (by kernel_rfl) (fun _ _ _ h => h) (Or.inl ⟨by rfl, ?_⟩) (by assumption) ?_
        · intro w9 hSw
          exact y_move rfl rfl
        simp only [Act.put, List.setIfInBounds_toArray, List.set_cons_zero, List.set_cons_succ]
        refine wpAnyH_take (i := 1) (oi := { dst := some 25, op := _, type := _, pos := _, after := _, guard := _ }) (v := .bool true) rfl (by kernel_rfl) (by kernel_rfl) (by kernel_rfl) (fun _ _ _ h => h) (Or.inl ⟨by rfl, ?_⟩) (by assumption) ?_
        · intro w9 hSw
          exact exec_bin rfl rfl rfl (eqGuard_er _ _ _) (eql_er _ hx0)
        simp only [Act.put, List.setIfInBounds_toArray, List.set_cons_zero, List.set_cons_succ]
        refine wpAnyH_take (i := 2) (oi := { dst := some 26, op := _, type := _, pos := _, after := _, guard := _ }) (v := .bool true) rfl (by kernel_rfl) (by kernel_rfl) (by kernel_rfl) (fun _ _ _ h => h) (Or.inl ⟨by rfl, ?_⟩) (by assumption) ?_
        · intro w9 hSw
          exact y_move rfl rfl
        simp only [Act.put, List.setIfInBounds_toArray, List.set_cons_zero, List.set_cons_succ]
        refine wpAnyH_take (i := 3) (oi := { dst := some 27, op := _, type := _, pos := _, after := _, guard := _ }) (v := .pointer (some ⟨g, 0, none⟩)) rfl (by kernel_rfl) (by kernel_rfl) (by kernel_rfl) (fun _ _ _ h => h) (Or.inl ⟨by rfl, ?_⟩) (by assumption) ?_
        · intro w9 hSw
          exact y_move rfl rfl
        simp only [Act.put, List.setIfInBounds_toArray, List.set_cons_zero, List.set_cons_succ]
        refine wpAnyH_take (i := 4) (oi := { dst := some 28, op := _, type := _, pos := _, after := _, guard := _ }) (v := .pointer (some ⟨g, 0, none⟩)) rfl (by kernel_rfl) (by kernel_rfl) (by kernel_rfl) (fun _ _ _ h => h) (Or.inl ⟨by rfl, ?_⟩) (by assumption) ?_
        · intro w9 hSw
          exact y_nil rfl rfl
        simp only [Act.put, List.setIfInBounds_toArray, List.set_cons_zero, List.set_cons_succ]
        refine wpAnyH_take (i := 5) (oi := { dst := some 29, op := _, type := _, pos := _, after := _, guard := _ }) (v := .pointer (some ⟨g, 0, none⟩)) rfl (by kernel_rfl) (by kernel_rfl) (by kernel_rfl) (fun _ _ _ h => h) (Or.inl ⟨by rfl, ?_⟩) (by assumption) ?_
        · intro w9 hSw
          exact y_field rfl rfl (field_s0 _ _)
        simp only [Act.put, List.setIfInBounds_toArray, List.set_cons_zero, List.set_cons_succ]
        refine wpAnyH_take (i := 6) (oi := { dst := some 30, op := _, type := _, pos := _, after := _, guard := _ }) (v := .agg (vals s.seen)) rfl (by kernel_rfl) (by kernel_rfl) (by kernel_rfl) (fun _ _ _ h => h) (Or.inl ⟨by rfl, ?_⟩) (by assumption) ?_
        · intro w9 hSw
          exact y_load rfl rfl (load_seen hSw.sp)
        simp only [Act.put, List.setIfInBounds_toArray, List.set_cons_zero, List.set_cons_succ]
        refine wpAnyH_take (i := 7) (oi := { dst := some 31, op := _, type := _, pos := _, after := _, guard := _ }) (v := .pointer (some ⟨B, 3, none⟩)) rfl (by kernel_rfl) (by kernel_rfl) (by kernel_rfl) (fun _ _ _ h => h) (Or.inl ⟨by rfl, ?_⟩) (by assumption) ?_
        · intro w9 hSw
          exact y_field rfl rfl (field_ev2 _ _)
        simp only [Act.put, List.setIfInBounds_toArray, List.set_cons_zero, List.set_cons_succ]
        refine wpAnyH_take (i := 8) (oi := { dst := some 32, op := _, type := _, pos := _, after := _, guard := _ }) (v := .agg (vals e.deps)) rfl (by kernel_rfl) (by kernel_rfl) (by kernel_rfl) (fun _ _ _ h => h) (Or.inl ⟨by rfl, ?_⟩) (by assumption) ?_
        · intro w9 hSw
          exact y_load rfl rfl (load_dp hSw.ev he16)
        simp only [Act.put, List.setIfInBounds_toArray, List.set_cons_zero, List.set_cons_succ]
        refine wpAnyH_take (i := 10) (oi := { dst := some 34, op := _, type := _, pos := _, after := _, guard := _ }) (v := .pointer (some ⟨g, 0, none⟩)) rfl (by kernel_rfl) (by kernel_rfl) (by kernel_rfl) (fun _ _ _ h => h) (Or.inl ⟨by rfl, ?_⟩) (by assumption) ?_
        · intro w9 hSw
          exact y_move rfl rfl
        simp only [Act.put, List.setIfInBounds_toArray, List.set_cons_zero, List.set_cons_succ]
        refine wpAnyH_take (i := 11) (oi := { dst := some 35, op := _, type := _, pos := _, after := _, guard := _ }) (v := .pointer (some ⟨g, 0, none⟩)) rfl (by kernel_rfl) (by kernel_rfl) (by kernel_rfl) (fun _ _ _ h => h) (Or.inl ⟨by rfl, ?_⟩) (by assumption) ?_
        · intro w9 hSw
          exact y_nil rfl rfl
        simp only [Act.put, List.setIfInBounds_toArray, List.set_cons_zero, List.set_cons_succ]
        refine wpAnyH_take (i := 12) (oi := { dst := some 36, op := _, type := _, pos := _, after := _, guard := _ }) (v := .pointer (some ⟨g, 0, none⟩)) rfl (by kernel_rfl) (by kernel_rfl) (by kernel_rfl) (fun _ _ _ h => h) (Or.inl ⟨by rfl, ?_⟩) (by assumption) ?_
        · intro w9 hSw
          exact y_field rfl rfl (field_s0 _ _)
        simp only [Act.put, List.setIfInBounds_toArray, List.set_cons_zero, List.set_cons_succ]
        refine wpAnyH_take (i := 13) (oi := { dst := some 37, op := _, type := _, pos := _, after := _, guard := _ }) (v := .agg (vals s.seen)) rfl (by kernel_rfl) (by kernel_rfl) (by kernel_rfl) (fun _ _ _ h => h) (Or.inl ⟨by rfl, ?_⟩) (by assumption) ?_
        · intro w9 hSw
          exact y_load rfl rfl (load_seen hSw.sp)
        simp only [Act.put, List.setIfInBounds_toArray, List.set_cons_zero, List.set_cons_succ]
        clear hHeld
        refine wpAnyH_ready (rs := [9]) (by kernel_rfl) (by simp) ?_
        refine AllReadyH.cons (o := { dst := some 33, op := _, type := _, pos := _, after := _, guard := _ }) rfl (fun K hK => ?_) AllReadyH.nil
        rw [if_pos (by rfl)]
        refine y_call (f := 33) (xs := [.tmp 30, .tmp 32]) (vs := [.agg (vals s.seen), .agg (vals e.deps)]) rfl rfl (enters_join _ _) (join_any s.seen e.deps hl16 he16 wc.drew) ?_
        rintro ex w5 ⟨rfl, hb5⟩
        refine ⟨_, rfl, ?_⟩
        have HB5 : Hid (Below w.heap.size w w5) := HB3.out.trans (hb5.mono HB3.out.size)
        refine hK.out _ _ (hRd.below hb5) (fun hHeld => ?_)
        clear hK K
        simp only [Act.put, List.setIfInBounds_toArray, List.set_cons_zero, List.set_cons_succ]
        refine wpAnyH_take (i := 14) (oi := { dst := some 38, op := _, type := _, pos := _, after := _, guard := _ }) (v := .bool (decide (each max s.seen e.deps = s.seen))) rfl (by kernel_rfl) (by kernel_rfl) (by kernel_rfl) (fun _ _ _ h => h) (Or.inl ⟨by rfl, ?_⟩) (by assumption) ?_
        · intro w9 hSw
          exact exec_bin rfl rfl rfl (eqGuard_vv _ _ _) (run_eql_vec _ _ _ hjl hl16)
        simp only [Act.put, List.setIfInBounds_toArray, List.set_cons_zero, List.set_cons_succ]
        refine wpAnyH_take (i := 15) (oi := { dst := some 39, op := _, type := _, pos := _, after := _, guard := _ }) (v := .bool (decide (each max s.seen e.deps = s.seen))) rfl (by kernel_rfl) (by kernel_rfl) (by kernel_rfl) (fun _ _ _ h => h) (Or.inl ⟨by rfl, ?_⟩) (by assumption) ?_
        · intro w9 hSw
          exact exec_pick (b := true) rfl rfl rfl rfl
        simp only [Act.put, List.setIfInBounds_toArray, List.set_cons_zero, List.set_cons_succ]
        refine wpAnyH_take (i := 16) (oi := { dst := some 4, op := _, type := _, pos := _, after := _, guard := _ }) (v := .bool (decide (each max s.seen e.deps = s.seen))) rfl (by kernel_rfl) (by kernel_rfl) (by kernel_rfl) (fun _ _ _ h => h) (Or.inl ⟨by rfl, ?_⟩) (by assumption) ?_
        · intro w9 hSw
          exact y_assign rfl rfl
        simp only [Act.put, List.setIfInBounds_toArray, List.set_cons_zero, List.set_cons_succ]
        refine wpAnyH_done (by kernel_rfl) ?_ _
        refine NoPanic.normal ?_
        clear hHeld
        go_wp2
        go_ret
        exact ⟨by rw [HX.out, HD0.out, Bool.true_and]; rfl, HB5.out⟩
      · have hx0 : (x == 0) = false := by simpa using h0
        have hd0 : decide (x = 0) = false := by simpa using h0
        have HD0 : Hid (decide (x = 0) = false) := hd0
        clear h0 hd0 hx
        go_wp2_with fail
        refine wp_region_noPanic ?_
        refine wp_region_held_drew (S := fun W' : World => Rr Y g s B e W') (by kernel_rfl) hRd (fun hHeld => ?_)
        refine wpAnyH_take (i := 0) (oi := { dst := some 24, op := _, type := _, pos := _, after := _, guard := _ }) (v := .int .i64 x) rfl (by kernel_rfl) (by kernel_rfl) (by kernel_rfl) (fun _ _ _ h => h) (Or.inl ⟨by rfl, ?_⟩) (by assumption) ?_
        · intro w9 hSw
          exact y_move rfl rfl
        simp only [Act.put, List.setIfInBounds_toArray, List.set_cons_zero, List.set_cons_succ]
        refine wpAnyH_take (i := 1) (oi := { dst := some 25, op := _, type := _, pos := _, after := _, guard := _ }) (v := .bool false) rfl (by kernel_rfl) (by kernel_rfl) (by kernel_rfl) (fun _ _ _ h => h) (Or.inl ⟨by rfl, ?_⟩) (by assumption) ?_
        · intro w9 hSw
          exact exec_bin rfl rfl rfl (eqGuard_er _ _ _) (eql_er _ hx0)
        simp only [Act.put, List.setIfInBounds_toArray, List.set_cons_zero, List.set_cons_succ]
        refine wpAnyH_take (i := 2) (oi := { dst := some 26, op := _, type := _, pos := _, after := _, guard := _ }) (v := .bool false) rfl (by kernel_rfl) (by kernel_rfl) (by kernel_rfl) (fun _ _ _ h => h) (Or.inl ⟨by rfl, ?_⟩) (by assumption) ?_
        · intro w9 hSw
          exact y_move rfl rfl
        simp only [Act.put, List.setIfInBounds_toArray, List.set_cons_zero, List.set_cons_succ]
        refine wpAnyH_take (i := 3) (oi := { dst := some 27, op := _, type := _, pos := _, after := _, guard := _ }) (v := undef) rfl (by kernel_rfl) (by kernel_rfl) (by kernel_rfl) (fun _ _ _ h => h) (Or.inr ⟨by rfl, rfl⟩) (by assumption) ?_
        simp only [Act.put, List.setIfInBounds_toArray, List.set_cons_zero, List.set_cons_succ]
        refine wpAnyH_take (i := 4) (oi := { dst := some 28, op := _, type := _, pos := _, after := _, guard := _ }) (v := undef) rfl (by kernel_rfl) (by kernel_rfl) (by kernel_rfl) (fun _ _ _ h => h) (Or.inr ⟨by rfl, rfl⟩) (by assumption) ?_
        simp only [Act.put, List.setIfInBounds_toArray, List.set_cons_zero, List.set_cons_succ]
        refine wpAnyH_take (i := 5) (oi := { dst := some 29, op := _, type := _, pos := _, after := _, guard := _ }) (v := undef) rfl (by kernel_rfl) (by kernel_rfl) (by kernel_rfl) (fun _ _ _ h => h) (Or.inr ⟨by rfl, rfl⟩) (by assumption) ?_
        simp only [Act.put, List.setIfInBounds_toArray, List.set_cons_zero, List.set_cons_succ]
        refine wpAnyH_take (i := 6) (oi := { dst := some 30, op := _, type := _, pos := _, after := _, guard := _ }) (v := undef) rfl (by kernel_rfl) (by kernel_rfl) (by kernel_rfl) (fun _ _ _ h => h) (Or.inr ⟨by rfl, rfl⟩) (by assumption) ?_
        simp only [Act.put, List.setIfInBounds_toArray, List.set_cons_zero, List.set_cons_succ]
        refine wpAnyH_take (i := 7) (oi := { dst := some 31, op := _, type := _, pos := _, after := _, guard := _ }) (v := undef) rfl (by kernel_rfl) (by kernel_rfl) (by kernel_rfl) (fun _ _ _ h => h) (Or.inr ⟨by rfl, rfl⟩) (by assumption) ?_
        simp only [Act.put, List.setIfInBounds_toArray, List.set_cons_zero, List.set_cons_succ]
        refine wpAnyH_take (i := 8) (oi := { dst := some 32, op := _, type := _, pos := _, after := _, guard := _ }) (v := undef) rfl (by kernel_rfl) (by kernel_rfl) (by kernel_rfl) (fun _ _ _ h => h) (Or.inr ⟨by rfl, rfl⟩) (by assumption) ?_
        simp only [Act.put, List.setIfInBounds_toArray, List.set_cons_zero, List.set_cons_succ]
        refine wpAnyH_take (i := 9) (oi := { dst := some 33, op := _, type := _, pos := _, after := _, guard := _ }) (v := undef) rfl (by kernel_rfl) (by kernel_rfl) (by kernel_rfl) (fun _ _ _ h => h) (Or.inr ⟨by rfl, rfl⟩) (by assumption) ?_
        simp only [Act.put, List.setIfInBounds_toArray, List.set_cons_zero, List.set_cons_succ]
        refine wpAnyH_take (i := 10) (oi := { dst := some 34, op := _, type := _, pos := _, after := _, guard := _ }) (v := undef) rfl (by kernel_rfl) (by kernel_rfl) (by kernel_rfl) (fun _ _ _ h => h) (Or.inr ⟨by rfl, rfl⟩) (by assumption) ?_
        simp only [Act.put, List.setIfInBounds_toArray, List.set_cons_zero, List.set_cons_succ]
        refine wpAnyH_take (i := 11) (oi := { dst := some 35, op := _, type := _, pos := _, after := _, guard := _ }) (v := undef) rfl (by kernel_rfl) (by kernel_rfl) (by kernel_rfl) (fun _ _ _ h => h) (Or.inr ⟨by rfl, rfl⟩) (by assumption) ?_
        simp only [Act.put, List.setIfInBounds_toArray, List.set_cons_zero, List.set_cons_succ]
        refine wpAnyH_take (i := 12) (oi := { dst := some 36, op := _, type := _, pos := _, after := _, guard := _ }) (v := undef) rfl (by kernel_rfl) (by kernel_rfl) (by kernel_rfl) (fun _ _ _ h => h) (Or.inr ⟨by rfl, rfl⟩) (by assumption) ?_
        simp only [Act.put, List.setIfInBounds_toArray, List.set_cons_zero, List.set_cons_succ]
        refine wpAnyH_take (i := 13) (oi := { dst := some 37, op := _, type := _, pos := _, after := _, guard := _ }) (v := undef) rfl (by kernel_rfl) (by kernel_rfl) (by kernel_rfl) (fun _ _ _ h => h) (Or.inr ⟨by rfl, rfl⟩) (by assumption) ?_
        simp only [Act.put, List.setIfInBounds_toArray, List.set_cons_zero, List.set_cons_succ]
        refine wpAnyH_take (i := 14) (oi := { dst := some 38, op := _, type := _, pos := _, after := _, guard := _ }) (v := undef) rfl (by kernel_rfl) (by kernel_rfl) (by kernel_rfl) (fun _ _ _ h => h) (Or.inr ⟨by rfl, rfl⟩) (by assumption) ?_
        simp only [Act.put, List.setIfInBounds_toArray, List.set_cons_zero, List.set_cons_succ]
        refine wpAnyH_take (i := 15) (oi := { dst := some 39, op := _, type := _, pos := _, after := _, guard := _ }) (v := .bool false) rfl (by kernel_rfl) (by kernel_rfl) (by kernel_rfl) (fun _ _ _ h => h) (Or.inl ⟨by rfl, ?_⟩) (by assumption) ?_
        · intro w9 hSw
          exact exec_pick (b := false) rfl rfl rfl rfl
        simp only [Act.put, List.setIfInBounds_toArray, List.set_cons_zero, List.set_cons_succ]
        refine wpAnyH_take (i := 16) (oi := { dst := some 4, op := _, type := _, pos := _, after := _, guard := _ }) (v := .bool false) rfl (by kernel_rfl) (by kernel_rfl) (by kernel_rfl) (fun _ _ _ h => h) (Or.inl ⟨by rfl, ?_⟩) (by assumption) ?_
        · intro w9 hSw
          exact y_assign rfl rfl
        simp only [Act.put, List.setIfInBounds_toArray, List.set_cons_zero, List.set_cons_succ]
        refine wpAnyH_done (by kernel_rfl) ?_ _
        refine NoPanic.normal ?_
        clear hHeld
        go_wp2
        go_ret
        exact ⟨by rw [HX.out, HD0.out, Bool.false_and]; rfl, HB3.out⟩
end Go.Proofs.YtmlfekbmbnfkjabGreatDoor

/-
  What Apply, VV and New come to.
-/
namespace Go.Proofs.YtmlfekbmbnfkjabGreatDoor
set_option maxRecDepth 100000
open Go.RowKit

/-- The error. -/
def applyE (s : St) (e : Ev) : Int := if okev e then (if readyE s e then 0 else 11) else 1
def applyS (s : St) (e : Ev) : St := if readyE s e then seeE s e else s
theorem max_get {a b : List Int} (la : a.length = 16) (lb : b.length = 16) (h : each max a b = a) (k : Nat) : b.getD k 0 ≤ a.getD k 0 ∨ 16 ≤ k := by
  by_cases hk : k < 16
  · left
    have h1 : (each max a b)[k]? = a[k]? := by rw [h]
    have hka : k < a.length := by omega
    have hkb : k < b.length := by omega
    rw [each, List.getElem?_zipWith, List.getElem?_eq_getElem hka, List.getElem?_eq_getElem hkb] at h1
    simp only [Option.some.injEq] at h1
    rw [List.getD_eq_getElem?_getD, List.getD_eq_getElem?_getD, List.getElem?_eq_getElem hka, List.getElem?_eq_getElem hkb]
    simp only [Option.getD_some]
    omega
  · right; omega
theorem with_zero {v : List Int} {r n : Int} (h : withE v r n = 0) : okdot r n = true ∧ n = v.getD r.toNat 0 + 1 := by
  unfold withE at h
  split at h
  · rename_i h1
    rw [Bool.and_eq_true] at h1
    split at h
    · rename_i h2
      exact ⟨h1.2, h2⟩
    · cases h
  · cases h
theorem ready_rdy {s : St} {e : Ev} (hw : Wide e) (h : readyE s e = true) : Rdy s e := by
  unfold readyE at h
  simp only [Bool.and_eq_true, decide_eq_true_eq] at h
  obtain ⟨-, h2, -⟩ := h
  obtain ⟨h3, h4⟩ := with_zero h2
  have h5 := of_decide_eq_true (show decide _ = true from h3)
  refine ⟨hw, by omega, by omega, ?_⟩
  unfold hasv
  rw [h3, Bool.true_and]
  simp only [decide_eq_false_iff_not]
  omega
theorem hasv_iff {v : List Int} {r n : Int} : hasv v r n = true ↔ okdot r n = true ∧ n ≤ v.getD r.toNat 0 := by
  unfold hasv
  simp
theorem okdot_iff {r n : Int} : okdot r n = true ↔ 0 ≤ r ∧ r < 16 ∧ 1 ≤ n ∧ n ≤ 1048576 := by
  unfold okdot
  simp
theorem getD_set {v : List Int} {k j : Nat} {x : Int} (_hk : k < v.length) : (v.set k x).getD j 0 = if k = j then x else v.getD j 0 := by
  rw [List.getD_eq_getElem?_getD, List.getD_eq_getElem?_getD, List.getElem?_set]
  split
  · rename_i e
    subst e
    simp
  · rfl
theorem inv_see {s : St} {e : Ev} (hI : Inv s) (hw : Wide e) (h : readyE s e = true) : Inv (seeE s e) := by
  have hR := ready_rdy hw h
  have h' := h
  unfold readyE at h'
  simp only [Bool.and_eq_true, decide_eq_true_eq] at h'
  obtain ⟨hd, hn⟩ := with_zero h'.2.1
  have hd' := okdot_iff.1 hd
  have hlen := hI.len
  have hmono : ∀ r n, hasv s.seen r n = true → hasv (s.seen.set e.r.toNat e.n) r n = true := fun r n hh => by
    rw [hasv_iff] at hh ⊢
    refine ⟨hh.1, ?_⟩
    rw [getD_set (by omega)]
    split
    · rename_i e1
      rw [← e1] at hh
      omega
    · exact hh.2
  have hself : hasv (s.seen.set e.r.toNat e.n) e.r e.n = true := by
    rw [hasv_iff]
    refine ⟨hd, ?_⟩
    rw [getD_set (by omega), if_pos rfl]
    exact Int.le_refl _
  have hnd := hI.noDot hR
  obtain ⟨-, -, k3, k4, -, -⟩ := keys1 (e := e) hI
  have hDL : ∀ d ∈ deadTo e s.L s.DL, (∃ a ∈ s.L, d = ⟨a, e.r, e.n⟩ ∧ fell e a = true) ∨ d ∈ s.DL := by
    suffices hh : ∀ (L : List Ev) (DL : List Ed), ∀ d ∈ deadTo e L DL, (∃ a ∈ L, d = ⟨a, e.r, e.n⟩ ∧ fell e a = true) ∨ d ∈ DL from hh s.L s.DL
    intro L
    induction L with
    | nil => exact fun DL d hd => .inr hd
    | cons a L ih =>
      intro DL d hd
      have hd2 : d ∈ deadTo e L (if fell e a then putD DL ⟨a, e.r, e.n⟩ else DL) := hd
      rcases ih _ d hd2 with ⟨b, hb, q⟩ | h1
      · exact .inl ⟨b, by simp [hb], q⟩
      · split at h1
        · rename_i hf
          rcases mem_putD h1 with rfl | h1
          · exact .inl ⟨a, by simp, rfl, hf⟩
          · exact .inr h1
        · exact .inr h1
  have hmem : ∀ a ∈ (seeE s e).L, a = e ∨ (a ∈ s.L ∧ endsE e a = false) := fun a ha => by
    unfold seeE at ha
    simp only at ha
    split at ha
    · rcases mem_putE ha with rfl | h1
      · exact .inl rfl
      · obtain ⟨q1, q2⟩ := List.mem_filter.1 h1
        exact .inr ⟨q1, by simpa using q2⟩
    · obtain ⟨q1, q2⟩ := List.mem_filter.1 ha
      exact .inr ⟨q1, by simpa using q2⟩
  refine ⟨by show (s.seen.set _ _).length = 16; rw [List.length_set]; exact hlen, fun a ha => ?_, fun d hd1 => ?_, fun a ha d hd1 => ?_, ?_, k4⟩
  · rcases hmem a ha with rfl | ⟨h1, -⟩
    · exact hself
    · exact hmono _ _ (hI.seenL a h1)
  · rcases hDL d hd1 with ⟨a, ha, rfl, -⟩ | h1
    · exact hmono _ _ (hI.seenL a ha)
    · exact hmono _ _ (hI.seenD d h1)
  · rcases hDL d hd1 with ⟨b, hb, rfl, hf⟩ | h1
    · rcases hmem a ha with rfl | ⟨h2, h3⟩
      · exact hnd b hb
      · intro hs
        have := hI.srL.same hb h2 hs.1 hs.2
        subst this
        unfold fell at hf
        rw [h3] at hf
        cases hf
    · rcases hmem a ha with rfl | ⟨h2, -⟩
      · intro hs
        have := hI.seenD d h1
        rw [hs.1, hs.2, hR.new] at this
        cases this
      · exact hI.apart a h2 d h1
  · unfold seeE
    simp only
    split
    · exact k3.put e
    · exact k3
set_option maxHeartbeats 1000000 in
theorem apply_any (Y : Lay) (w : World) (g : Nat) (s : St) (e : Ev) (hS : SpK Y w g s none) (hI : Inv s) (hw : Wide e) (hl : s.L.length ≤ 1048576) :
    Calls Tryz.prog 10 #[.pointer (some ⟨g, 0, none⟩), .agg (evc e)] w fun ex w' => ex = .returned (.int .i64 (applyE s e)) ∧ ∃ Y', SpK Y' w' g (applyS s e) none ∧ Tm g Y Y' w w' := by
  have he16 := hw.1
  have hb0 : Below w.heap.size w (w.alloc (.cells (evc e) 47)) := (Below.refl _ w).alloc (Nat.le_refl _) _
  have hE0 := liesE_new w e
  have hS0 := hS.below hb0 (Nat.le_refl _)
  have T0 : Hid (Tm g Y Y w (w.alloc (.cells (evc e) 47))) := Tm.of_below Y hb0
  generalize hW0 : w.alloc (.cells (evc e) 47) = W0 at *
  have hOk := eright_any e he16 hw.2 W0
  have he := eql_ps W0 ⟨g, 0, none⟩
  have HS0 : Hid _ := hS0
  clear hS hb0 hS0
  unfold applyE applyS
  cases hok : okev e
  · have hre : readyE s e = false := by unfold readyE; rw [hok]; rfl
    rw [hok] at hOk
    rw [hre]
    simp only [Bool.false_eq_true, if_false]
    go_enter Tryz.func10, Tryz.ntmps10
    go_wp2_with (first | refine load_ev rfl rfl rfl hE0 he16 ?_)
    refine Calls.mono hOk ?_
    rintro ex w1 ⟨rfl, hb1⟩
    have FIN : Hid (SpK Y w1 g s none ∧ Tm g Y Y w w1) := ⟨HS0.out.below hb1 (Nat.le_refl _), T0.out.trans (Tm.of_below Y hb1)⟩
    clear hE0 hb1 hOk
    go_wp2
    go_ret
    exact ⟨rfl, Y, FIN.out⟩
  · rw [hok] at hOk
    simp only [if_true]
    cases hre : readyE s e
    · simp only [Bool.false_eq_true, if_false]
      go_enter Tryz.func10, Tryz.ntmps10
      go_wp2_with (first | refine load_ev rfl rfl rfl hE0 he16 ?_)
      refine Calls.mono hOk ?_
      rintro ex w1 ⟨rfl, hb1⟩
      have hE1 := hE0.below hb1 hE0.lt
      have hS1 := HS0.out.below hb1 (Nat.le_refl _)
      have HT1 : Hid (Tm g Y Y w w1) := T0.out.trans (Tm.of_below Y hb1)
      have hRe := ready_any Y w1 g s e hS1 hw
      have HS1 : Hid _ := hS1
      clear hE0 hb1 hOk T0 HS0 hS1 he
      rw [hre] at hRe
      go_wp2_with (first | refine load_ev rfl rfl rfl hE1 he16 ?_)
      refine Calls.mono hRe ?_
      rintro ex w2 ⟨rfl, hb2⟩
      have FIN : Hid (SpK Y w2 g s none ∧ Tm g Y Y w w2) := ⟨HS1.out.below hb2 (Nat.le_refl _), HT1.out.trans (Tm.of_below Y hb2)⟩
      clear hE1 hb2 hRe hre
      go_wp2
      go_ret
      exact ⟨rfl, Y, FIN.out⟩
    · simp only [if_true]
      go_enter Tryz.func10, Tryz.ntmps10
      go_wp2_with (first | refine load_ev rfl rfl rfl hE0 he16 ?_)
      refine Calls.mono hOk ?_
      rintro ex w1 ⟨rfl, hb1⟩
      have hE1 := hE0.below hb1 hE0.lt
      have hS1 := HS0.out.below hb1 (Nat.le_refl _)
      have HT1 : Hid (Tm g Y Y w w1) := T0.out.trans (Tm.of_below Y hb1)
      have hRe := ready_any Y w1 g s e hS1 hw
      have HS1 : Hid _ := hS1
      clear hE0 hb1 hOk T0 HS0 hS1 he
      rw [hre] at hRe
      go_wp2_with (first | refine load_ev rfl rfl rfl hE1 he16 ?_)
      refine Calls.mono hRe ?_
      rintro ex w2 ⟨rfl, hb2⟩
      have hE2 := hE1.below hb2 hE1.lt
      have hSe := see_any Y w2 g s e (HS1.out.below hb2 (Nat.le_refl _)) hI (ready_rdy hw hre) hl
      have HT2 : Hid (Tm g Y Y w w2) := HT1.out.trans (Tm.of_below Y hb2)
      clear hE1 hb2 hRe HS1 HT1 hre
      go_wp2_with (first | refine load_ev rfl rfl rfl hE2 he16 ?_)
      refine Calls.mono hSe ?_
      rintro ex w3 ⟨rfl, Y3, hS3, ht3⟩
      have FIN : Hid (SpK Y3 w3 g (seeE s e) none ∧ Tm g Y Y3 w w3) := ⟨hS3, HT2.out.trans ht3⟩
      clear hE2 hSe hS3 ht3
      go_wp2
      go_ret
      exact ⟨rfl, Y3, FIN.out⟩
def st0 : St := ⟨zeros, 0, [], []⟩
def lay0 : Lay := ⟨none, [], fun _ => none, fun _ => none, fun _ => none⟩
theorem inv0 : Inv st0 := ⟨rfl, by simp [st0], by simp [st0], by simp [st0], List.Pairwise.nil, List.Pairwise.nil⟩
theorem sp_new (w : World) : SpK lay0 (w.alloc (.cells (spc st0 none) 58)) w.heap.size st0 none :=
  ⟨heap_alloc_new w _, rfl, .inl ⟨rfl, rfl⟩, by simp [lay0], fun k _ => by simp [lay0, st0, ofKeyE, ofKeyD], rfl, by simp [lay0], by simp [lay0], by simp [lay0], List.Pairwise.nil, List.Pairwise.nil, by simp [st0], by simp [st0]⟩
theorem above_new (w : World) : Above w.heap.size w.heap.size lay0 := ⟨Nat.le_refl _, by simp [lay0], by simp [lay0]⟩
theorem new_any (w : World) : Calls Tryz.prog 14 #[] w fun e w' => e = .returned (.pointer (some ⟨w.heap.size, 0, none⟩)) ∧ w' = w.alloc (.cells (spc st0 none) 58) := by
  go_enter Tryz.func14, Tryz.ntmps14
  go_wp2
  go_ret
  exact ⟨rfl, rfl⟩
theorem sorz_some (g : Nat) (w : World) : Calls Tryz.prog 17 #[.pointer (some ⟨g, 0, none⟩)] w fun e w' => e = .returned (.pointer (some ⟨g, 0, none⟩)) ∧ w' = w := by
  go_enter Tryz.func17, Tryz.ntmps17
  go_wp2
  go_ret
  exact ⟨rfl, rfl⟩
end Go.Proofs.YtmlfekbmbnfkjabGreatDoor

/-
  Texts as lists of bytes, and back: what the two conversions come to.
-/
namespace Go.Proofs.YtmlfekbmbnfkjabGreatDoor
set_option maxRecDepth 100000
open Go.RowKit

theorem own_below {w w' : World} {base : Nat} {v : Value} {n : Nat} {xs : List Value} (h : w.ownsRow base 5 1 v n xs) (hb : Below w.heap.size w w') : w'.ownsRow base 5 1 v n xs := by
  refine h.kept (row := none) ⟨hb.os, hb.tape, hb.output, hb.size, fun k hk _ => hb.block k hk⟩ ?_
  cases v.ownBlock <;> simp

end Go.Proofs.YtmlfekbmbnfkjabGreatDoor

/-
  What the document's answers come to: a number's bytes as a text, a text's, those of a number with a sign. They make memory, and turn nothing that was there.
-/
namespace Go.Proofs.YtmlfekbmbnfkjabGreatDoor
set_option maxRecDepth 100000
open Go.RowKit

end Go.Proofs.YtmlfekbmbnfkjabGreatDoor

/-
  What vlq.PutText comes to, and the document's bytes of a number with a sign. Asked: texts of at most 1048576 bytes behind fewer than 2^40.
-/
namespace Go.Proofs.YtmlfekbmbnfkjabGreatDoor
set_option maxRecDepth 100000
open Go.RowKit

end Go.Proofs.YtmlfekbmbnfkjabGreatDoor

/-
  What putNumber and putDot come to: the bytes, and behind them a number's, a dot's.
-/
namespace Go.Proofs.YtmlfekbmbnfkjabGreatDoor
set_option maxRecDepth 100000
open Go.RowKit

/-- What an operation of a region leaves: a value, or a new list of bytes. -/
inductive Kd where
  | val (v : Value)
  | bytes (l : List UInt8)
def Kd.holds : Kd → Value → World → Prop
  | .val v, u, _ => u = v
  | .bytes l, u, W => ∃ g c, u = .slice (some ⟨g, 0, none⟩) l.length c ∧ Bytes W (some ⟨g, 0, none⟩) l.length c l ∧ c ≤ maxLen
def Kd.at (l : List Kd) (i : Nat) : Kd := l.getD i (.val undef)
theorem Kd.stable {k : Kd} {v : Value} {w w' : World} (hb : Below w.heap.size w w') (h : k.holds v w) : k.holds v w' := by
  cases k with
  | val x => exact h
  | bytes l =>
    obtain ⟨g, c, h1, h2, h3⟩ := h
    exact ⟨g, c, h1, h2.below hb (Nat.le_refl _), h3⟩

end Go.Proofs.YtmlfekbmbnfkjabGreatDoor

/-
  What putOp comes to: the bytes, and behind them an operation's. (Written by genpop.py.)
-/
namespace Go.Proofs.YtmlfekbmbnfkjabGreatDoor
set_option maxRecDepth 100000
open Go.RowKit

end Go.Proofs.YtmlfekbmbnfkjabGreatDoor

