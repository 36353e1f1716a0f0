/-
  What Ready comes to.
-/
import Derived.Test.YtmlfekbmbnfkjabGreatDoorQ46
import Derived.Test.YtmlfekbmbnfkjabGreatDoorQ52
import Derived.Test.YtmlfekbmbnfkjabGreatDoorQ03
import Derived.Test.YtmlfekbmbnfkjabGreatDoorQ18
import Derived.Test.YtmlfekbmbnfkjabGreatDoorQ36
import Derived.Test.YtmlfekbmbnfkjabGreatDoorQ12
import Derived.Laws.OwnMore
import Derived.Laws.AppendOwnNone
import Derived.Test.YtmlfekbmbnfkjabGreatDoorQ45
import Derived.Test.YtmlfekbmbnfkjabGreatDoorQ42
namespace Go.Proofs.YtmlfekbmbnfkjabGreatDoor
set_option maxRecDepth 100000
open Go.RowKit

/-- May it be seen next? -/
def readyE (s : St) (e : Ev) : Bool := okev e && (decide (withE s.seen e.r e.n = 0) && decide (each max s.seen e.deps = s.seen))
theorem eqGuard_vv (w : World) {op : BinOp} {x y : Operand} (a b : List Int) : (eqGuard op 41 x y (.agg (vals a)) (.agg (vals b))).run Tryz.prog w = .ok () w := by
  have := plain_vec
  go_simp
theorem eqGuard_er (w : World) {op : BinOp} {x y : Operand} (a b : Int) : (eqGuard op 43 x y (.int .i64 a) (.int .i64 b)).run Tryz.prog w = .ok () w := by go_simp
theorem eql_er (w : World) {a b : Int} {t : Bool} (h : (a == b) = t) : (binOp .eql 43 (.int .i64 a) (.int .i64 b)).run Tryz.prog w = .ok (.bool t) w := by
  subst h
  simp [go_sem]
theorem y_alloc {o : Oper} {a : Act} {w w' : World} {K : Act → World → Prop} {Q : Exit → Act → World → Prop} {ty : TypeId} {v : Value} (ho : o.op = .alloc ty) (hr : (Instr.alloc ty true (.tuple #[])).run Tryz.prog w = .ok v w') (h : K (a.put o.dst v) w') : o.wp Tryz.prog a w K Q := by
  unfold Oper.wp execOp
  simp only [ho, Sem.run_bind, Sem.run_pure, Result.andThen_ok, hr]
  exact h
theorem alloc_vv (w : World) : (Instr.alloc 41 true (.tuple #[])).run Tryz.prog w = .ok (.pointer (some ⟨w.heap.size, 0, none⟩)) (w.alloc (.cells (vals zeros) 41)) := by
  rw [zeros_vals]
  simp [go_sem]
theorem store_vv {w : World} {g : Nat} {z v : List Int} (hg : Lies w g z) (hz : z.length = 16) (hv : v.length = 16) : (storeVar 41 ⟨g, 0, none⟩ (.agg (vals v))).run Tryz.prog w = .ok () (w.setRow g (vals v)) :=
  run_storeVar_row (P := Tryz.prog) w g 41 41 (vals z) (vals v) hg (by rw [vals_size, hv]; kernel_rfl) (by rw [vals_size, vals_size, hz, hv]) (vals_one v)
theorem enters_join (xs : Array Value) (w : World) : (callFunc 33 xs).run Tryz.prog w = .ok (.enter 33 xs) w := enters Tryz.func33 (by kernel_rfl) (by kernel_rfl) xs w
theorem each_len {a b : List Int} (la : a.length = 16) (lb : b.length = 16) : (each max a b).length = 16 := each_length max a b la lb
/-- What Ready reads. -/
structure Rr (Y : Lay) (g : Nat) (s : St) (B : Nat) (e : Ev) (W : World) : Prop where
  sp : SpK Y W g s none
  ev : LiesE W B e
theorem Rr.below {Y : Lay} {g : Nat} {s : St} {B : Nat} {e : Ev} {W W' : World} (h : Rr Y g s B e W) (hb : Below W.heap.size W W') : Rr Y g s B e W' := ⟨h.sp.below hb (Nat.le_refl _), h.ev.below hb h.ev.lt⟩
theorem eql_ps (w : World) (ad : Addr) : (binOp .eql 25 (.pointer (some ad)) (.pointer none)).run Tryz.prog w = .ok (.bool false) w := by kernel_rfl

set_option maxHeartbeats 2000000 in
theorem ready_any (Y : Lay) (w : World) (g : Nat) (s : St) (e : Ev) (hS : SpK Y w g s none) (hw : Wide e) :
    Calls Tryz.prog 19 #[.pointer (some ⟨g, 0, none⟩), .agg (evc e)] w fun ex w' => ex = .returned (.bool (readyE s e)) ∧ Below w.heap.size w w' := by
  have he16 := hw.1
  have hb0 : Below w.heap.size w (w.alloc (.cells (evc e) 47)) := (Below.refl _ w).alloc (Nat.le_refl _) _
  have hE0 := liesE_new w e
  have hR0 : Rr Y g s w.heap.size e (w.alloc (.cells (evc e) 47)) := ⟨hS.below hb0 (Nat.le_refl _), hE0⟩
  have hl16 := hS.len
  generalize hW0 : w.alloc (.cells (evc e) 47) = W0 at *
  obtain ⟨B, hB⟩ : ∃ B, w.heap.size = B := ⟨_, rfl⟩
  rw [hB] at hE0 hR0
  have hOk := eright_any e he16 hw.2 W0
  have he := eql_ps W0 ⟨g, 0, none⟩
  have HB0 : Hid (Below w.heap.size w W0) := hb0
  clear hS hb0
  unfold readyE
  cases hok : okev e
  · rw [hok] at hOk
    go_enter Tryz.func19, Tryz.ntmps19
    go_wp2_with (first | refine load_ev rfl rfl rfl hE0 he16 ?_)
    refine Calls.mono hOk ?_
    rintro ex w1 ⟨rfl, hb1⟩
    have FIN : Hid (Below w.heap.size w w1) := HB0.out.trans (hb1.mono HB0.out.size)
    clear hE0 hR0 hb1 hOk
    go_wp2
    go_ret
    exact ⟨rfl, FIN.out⟩
  · rw [hok] at hOk
    rw [Bool.true_and]
    go_enter Tryz.func19, Tryz.ntmps19
    go_wp2_with (first | refine load_ev rfl rfl rfl hE0 he16 ?_)
    refine Calls.mono hOk ?_
    rintro ex w1 ⟨rfl, hb1⟩
    have HB1 : Hid (Below w.heap.size w w1) := HB0.out.trans (hb1.mono HB0.out.size)
    have hR1 := hR0.below hb1
    clear hE0 hR0 hb1 hOk he HB0
    go_upto_region 3 with fail
    go_cut [0, 3, 6] from 5 (fun v0 v3 v6 wr => v0 = .pointer (some ⟨g, 0, none⟩) ∧ v3 = .pointer (some ⟨B, 0, none⟩) ∧ v6 = .int .i64 (withE s.seen e.r e.n) ∧ Aside (Rr Y g s B e wr ∧ Below w.heap.size w wr))
    case first =>
      have hbd : Below w1.heap.size w1 w1.drew := (Below.refl _ w1).drew
      have hRd := hR1.below hbd
      have hHs : Below w1.drew.heap.size w1.drew w1.drew := Below.refl _ _
      obtain ⟨W, hW⟩ : ∃ W, w1.drew = W := ⟨_, rfl⟩
      have HBd : Hid (Below w.heap.size w W) := hW ▸ HB1.out.trans (hbd.mono HB1.out.size)
      rw [hW] at hRd
      have hwl := withV_length s.seen e.r e.n hl16
      clear hbd hHs hR1
      refine wp_region_noPanic ?_
      refine wp_region_held_drew (S := fun W' : World => Below W.heap.size W W') (by kernel_rfl) (by rw [hW]; exact Below.refl _ _) (fun hHeld => ?_)
      rw [hW] at hHeld ⊢
      refine wpAnyH_take (i := 0) (oi := { dst := some 15, op := _, type := _, pos := _, after := _, guard := _ }) (v := .pointer (some ⟨g, 0, none⟩)) rfl (by kernel_rfl) (by kernel_rfl) (by kernel_rfl) (fun _ _ _ h => h) (Or.inl ⟨by rfl, ?_⟩) (by assumption) ?_
      · intro w9 hSw
        exact y_move rfl rfl
      simp only [Act.put, List.setIfInBounds_toArray, List.set_cons_zero, List.set_cons_succ]
      refine wpAnyH_take (i := 1) (oi := { dst := some 16, op := _, type := _, pos := _, after := _, guard := _ }) (v := .pointer (some ⟨g, 0, none⟩)) rfl (by kernel_rfl) (by kernel_rfl) (by kernel_rfl) (fun _ _ _ h => h) (Or.inl ⟨by rfl, ?_⟩) (by assumption) ?_
      · intro w9 hSw
        exact y_nil rfl rfl
      simp only [Act.put, List.setIfInBounds_toArray, List.set_cons_zero, List.set_cons_succ]
      refine wpAnyH_take (i := 2) (oi := { dst := some 17, op := _, type := _, pos := _, after := _, guard := _ }) (v := .pointer (some ⟨g, 0, none⟩)) rfl (by kernel_rfl) (by kernel_rfl) (by kernel_rfl) (fun _ _ _ h => h) (Or.inl ⟨by rfl, ?_⟩) (by assumption) ?_
      · intro w9 hSw
        exact y_field rfl rfl (field_s0 _ _)
      simp only [Act.put, List.setIfInBounds_toArray, List.set_cons_zero, List.set_cons_succ]
      refine wpAnyH_take (i := 3) (oi := { dst := some 18, op := _, type := _, pos := _, after := _, guard := _ }) (v := .agg (vals s.seen)) rfl (by kernel_rfl) (by kernel_rfl) (by kernel_rfl) (fun _ _ _ h => h) (Or.inl ⟨by rfl, ?_⟩) (by assumption) ?_
      · intro w9 hSw
        exact y_load rfl rfl (load_seen (hRd.below hSw).sp)
      simp only [Act.put, List.setIfInBounds_toArray, List.set_cons_zero, List.set_cons_succ]
      refine wpAnyH_take (i := 4) (oi := { dst := some 19, op := _, type := _, pos := _, after := _, guard := _ }) (v := .pointer (some ⟨B, 0, none⟩)) rfl (by kernel_rfl) (by kernel_rfl) (by kernel_rfl) (fun _ _ _ h => h) (Or.inl ⟨by rfl, ?_⟩) (by assumption) ?_
      · intro w9 hSw
        exact y_field rfl rfl (field_ev0 _ _)
      simp only [Act.put, List.setIfInBounds_toArray, List.set_cons_zero, List.set_cons_succ]
      refine wpAnyH_take (i := 5) (oi := { dst := some 20, op := _, type := _, pos := _, after := _, guard := _ }) (v := .agg (dotc e.r e.n)) rfl (by kernel_rfl) (by kernel_rfl) (by kernel_rfl) (fun _ _ _ h => h) (Or.inl ⟨by rfl, ?_⟩) (by assumption) ?_
      · intro w9 hSw
        exact y_load rfl rfl (hRd.below hSw).ev.dotAt
      simp only [Act.put, List.setIfInBounds_toArray, List.set_cons_zero, List.set_cons_succ]
      clear hHeld
      refine wpAnyH_ready (rs := [6, 10]) (by kernel_rfl) (by simp) ?_
      refine AllReadyH.cons (o := { dst := some 21, op := _, type := _, pos := _, after := _, guard := _ }) rfl (fun K hK => ?_) ?_
      · rw [if_pos (by rfl)]
        refine y_call (f := 32) (xs := [.tmp 18, .tmp 20]) (vs := [.agg (vals s.seen), .agg (dotc e.r e.n)]) rfl rfl (enters_with _ _) (with_any s.seen e.r e.n hl16 W) ?_
        rintro ex wc1 ⟨rfl, hbc⟩
        refine ⟨_, rfl, ?_⟩
        have hb1 : Below W.heap.size W wc1 := (Below.refl W.heap.size W).trans (hbc.mono (Below.refl W.heap.size W).size)
        refine hK.out _ _ hb1 (fun hHeld => ?_)
        clear hK K
        simp only [Act.put, List.setIfInBounds_toArray, List.set_cons_zero, List.set_cons_succ]
        clear hHeld
        have hHeld : Below W.heap.size W wc1 := hb1
        refine wpAnyH_take (i := 7) (oi := { dst := some 14, op := _, type := _, pos := _, after := _, guard := _ }) (v := .tuple #[.agg (vals (withV s.seen e.r e.n)), .int .i64 (withE s.seen e.r e.n)]) rfl (by kernel_rfl) (by kernel_rfl) (by kernel_rfl) (fun _ _ _ h => h) (Or.inl ⟨by rfl, ?_⟩) (by assumption) ?_
        · intro w9 hSw
          exact y_move rfl rfl
        simp only [Act.put, List.setIfInBounds_toArray, List.set_cons_zero, List.set_cons_succ]
        refine wpAnyH_take (i := 8) (oi := { dst := some 22, op := _, type := _, pos := _, after := _, guard := _ }) (v := .agg (vals (withV s.seen e.r e.n))) rfl (by kernel_rfl) (by kernel_rfl) (by kernel_rfl) (fun _ _ _ h => h) (Or.inl ⟨by rfl, ?_⟩) (by assumption) ?_
        · intro w9 hSw
          exact y_extract rfl rfl rfl
        simp only [Act.put, List.setIfInBounds_toArray, List.set_cons_zero, List.set_cons_succ]
        refine wpAnyH_take (i := 9) (oi := { dst := some 23, op := _, type := _, pos := _, after := _, guard := _ }) (v := .int .i64 (withE s.seen e.r e.n)) rfl (by kernel_rfl) (by kernel_rfl) (by kernel_rfl) (fun _ _ _ h => h) (Or.inl ⟨by rfl, ?_⟩) (by assumption) ?_
        · intro w9 hSw
          exact y_extract rfl rfl rfl
        simp only [Act.put, List.setIfInBounds_toArray, List.set_cons_zero, List.set_cons_succ]
        clear hHeld
        refine wpAnyH_ready (rs := [10]) (by kernel_rfl) (by simp) ?_
        refine AllReadyH.cons (o := { dst := some 5, op := _, type := _, pos := _, after := _, guard := _ }) rfl (fun K hK => ?_) AllReadyH.nil
        rw [if_pos (by rfl)]
        refine y_alloc (ty := 41) rfl (alloc_vv wc1) ?_
        have hb2 : Below W.heap.size W (wc1.alloc (.cells (vals zeros) 41)) := hb1.alloc hb1.size _
        refine hK.out _ _ hb2 (fun hHeld => ?_)
        clear hK K
        simp only [Act.put, List.setIfInBounds_toArray, List.set_cons_zero, List.set_cons_succ]
        clear hHeld
        refine wpAnyH_ready (rs := [11]) (by kernel_rfl) (by simp) ?_
        refine AllReadyH.cons (o := { dst := none, op := _, type := _, pos := _, after := _, guard := _ }) rfl (fun K hK => ?_) AllReadyH.nil
        rw [if_pos (by rfl)]
        refine y_store (ty := 41) (x := .tmp 5) (y := .tmp 22) (ad := ⟨wc1.heap.size, 0, none⟩) (v := .agg (vals (withV s.seen e.r e.n))) (w' := (wc1.alloc (.cells (vals zeros) 41)).setRow (wc1.heap.size) (vals (withV s.seen e.r e.n))) rfl rfl rfl (store_vv (lies_new wc1 zeros) rfl hwl) ?_
        have hbF : Below W.heap.size W ((wc1.alloc (.cells (vals zeros) 41)).setRow (wc1.heap.size) (vals (withV s.seen e.r e.n))) := below_setRow hb2 hb1.size _
        refine hK.out _ _ hbF (fun hHeld => ?_)
        clear hK K
        simp only [Act.put]
        refine wpAnyH_take (i := 12) (oi := { dst := some 6, op := _, type := _, pos := _, after := _, guard := _ }) (v := .int .i64 (withE s.seen e.r e.n)) rfl (by kernel_rfl) (by kernel_rfl) (by kernel_rfl) (fun _ _ _ h => h) (Or.inl ⟨by rfl, ?_⟩) (by assumption) ?_
        · intro w9 hSw
          exact y_assign rfl rfl
        simp only [Act.put, List.setIfInBounds_toArray, List.set_cons_zero, List.set_cons_succ]
        refine wpAnyH_done (by kernel_rfl) ?_ _
        refine NoPanic.normal ?_
        clear hHeld
        go_wp2
        go_meet
        case rel => exact ⟨rfl, rfl, rfl, hRd.below hbF, HBd.out.trans (hbF.mono HBd.out.size)⟩
      refine AllReadyH.cons (o := { dst := some 5, op := _, type := _, pos := _, after := _, guard := _ }) rfl (fun K hK => ?_) AllReadyH.nil
      rw [if_pos (by rfl)]
      refine y_alloc (ty := 41) rfl (alloc_vv W) ?_
      have hb1 : Below W.heap.size W (W.alloc (.cells (vals zeros) 41)) := (Below.refl W.heap.size W).alloc (Below.refl W.heap.size W).size _
      refine hK.out _ _ hb1 (fun hHeld => ?_)
      clear hK K
      simp only [Act.put, List.setIfInBounds_toArray, List.set_cons_zero, List.set_cons_succ]
      clear hHeld
      refine wpAnyH_ready (rs := [6]) (by kernel_rfl) (by simp) ?_
      refine AllReadyH.cons (o := { dst := some 21, op := _, type := _, pos := _, after := _, guard := _ }) rfl (fun K hK => ?_) AllReadyH.nil
      rw [if_pos (by rfl)]
      refine y_call (f := 32) (xs := [.tmp 18, .tmp 20]) (vs := [.agg (vals s.seen), .agg (dotc e.r e.n)]) rfl rfl (enters_with _ _) (with_any s.seen e.r e.n hl16 (W.alloc (.cells (vals zeros) 41))) ?_
      rintro ex wc1 ⟨rfl, hbc⟩
      refine ⟨_, rfl, ?_⟩
      have hb2 : Below W.heap.size W wc1 := hb1.trans (hbc.mono hb1.size)
      refine hK.out _ _ hb2 (fun hHeld => ?_)
      clear hK K
      simp only [Act.put, List.setIfInBounds_toArray, List.set_cons_zero, List.set_cons_succ]
      clear hHeld
      have hHeld : Below W.heap.size W wc1 := hb2
      refine wpAnyH_take (i := 7) (oi := { dst := some 14, op := _, type := _, pos := _, after := _, guard := _ }) (v := .tuple #[.agg (vals (withV s.seen e.r e.n)), .int .i64 (withE s.seen e.r e.n)]) rfl (by kernel_rfl) (by kernel_rfl) (by kernel_rfl) (fun _ _ _ h => h) (Or.inl ⟨by rfl, ?_⟩) (by assumption) ?_
      · intro w9 hSw
        exact y_move rfl rfl
      simp only [Act.put, List.setIfInBounds_toArray, List.set_cons_zero, List.set_cons_succ]
      refine wpAnyH_take (i := 8) (oi := { dst := some 22, op := _, type := _, pos := _, after := _, guard := _ }) (v := .agg (vals (withV s.seen e.r e.n))) rfl (by kernel_rfl) (by kernel_rfl) (by kernel_rfl) (fun _ _ _ h => h) (Or.inl ⟨by rfl, ?_⟩) (by assumption) ?_
      · intro w9 hSw
        exact y_extract rfl rfl rfl
      simp only [Act.put, List.setIfInBounds_toArray, List.set_cons_zero, List.set_cons_succ]
      refine wpAnyH_take (i := 9) (oi := { dst := some 23, op := _, type := _, pos := _, after := _, guard := _ }) (v := .int .i64 (withE s.seen e.r e.n)) rfl (by kernel_rfl) (by kernel_rfl) (by kernel_rfl) (fun _ _ _ h => h) (Or.inl ⟨by rfl, ?_⟩) (by assumption) ?_
      · intro w9 hSw
        exact y_extract rfl rfl rfl
      simp only [Act.put, List.setIfInBounds_toArray, List.set_cons_zero, List.set_cons_succ]
      clear hHeld
      refine wpAnyH_ready (rs := [11]) (by kernel_rfl) (by simp) ?_
      refine AllReadyH.cons (o := { dst := none, op := _, type := _, pos := _, after := _, guard := _ }) rfl (fun K hK => ?_) AllReadyH.nil
      rw [if_pos (by rfl)]
      refine y_store (ty := 41) (x := .tmp 5) (y := .tmp 22) (ad := ⟨W.heap.size, 0, none⟩) (v := .agg (vals (withV s.seen e.r e.n))) (w' := (wc1).setRow (W.heap.size) (vals (withV s.seen e.r e.n))) rfl rfl rfl (store_vv ((lies_new W zeros).below hbc (by simp)) rfl hwl) ?_
      have hbF : Below W.heap.size W ((wc1).setRow (W.heap.size) (vals (withV s.seen e.r e.n))) := below_setRow hb2 (Nat.le_refl _) _
      refine hK.out _ _ hbF (fun hHeld => ?_)
      clear hK K
      simp only [Act.put]
      refine wpAnyH_take (i := 12) (oi := { dst := some 6, op := _, type := _, pos := _, after := _, guard := _ }) (v := .int .i64 (withE s.seen e.r e.n)) rfl (by kernel_rfl) (by kernel_rfl) (by kernel_rfl) (fun _ _ _ h => h) (Or.inl ⟨by rfl, ?_⟩) (by assumption) ?_
      · intro w9 hSw
        exact y_assign rfl rfl
      simp only [Act.put, List.setIfInBounds_toArray, List.set_cons_zero, List.set_cons_succ]
      refine wpAnyH_done (by kernel_rfl) ?_ _
      refine NoPanic.normal ?_
      clear hHeld
      go_wp2
      go_meet
      case rel => exact ⟨rfl, rfl, rfl, hRd.below hbF, HBd.out.trans (hbF.mono HBd.out.size)⟩
    case rest =>
      obtain ⟨rfl, rfl, rfl, HA⟩ := hcut
      have hR2 := HA.out.1
      have HB2 : Hid (Below w.heap.size w wc) := HA.out.2
      clear HA HB1 hR1
      have hbd : Below wc.heap.size wc wc.drew := (Below.refl _ wc).drew
      have hRd := hR2.below hbd
      have HB3 : Hid (Below w.heap.size w wc.drew) := HB2.out.trans (hbd.mono HB2.out.size)
      obtain ⟨x, hx⟩ : ∃ x, withE s.seen e.r e.n = x := ⟨_, rfl⟩
      have HX : Hid (withE s.seen e.r e.n = x) := hx
      rw [hx]
      clear hbd hR2 HB2
      by_cases h0 : x = 0
      · have hx0 : (x == 0) = true := by simpa using h0
        have hd0 : decide (x = 0) = true := by simpa using h0
        have HD0 : Hid (decide (x = 0) = true) := hd0
        have hjl := each_len hl16 he16
        clear h0 hd0 hx
        go_wp2_with fail
        refine wp_region_noPanic ?_
        refine wp_region_held_drew (S := fun W' : World => Rr Y g s B e W') (by kernel_rfl) hRd (fun hHeld => ?_)
        refine wpAnyH_take (i := 0) (oi := { dst := some 24, op := _, type := _, pos := _, after := _, guard := _ }) (v := .int .i64 x) rfl (by kernel_rfl) (by kernel_rfl) (by kernel_rfl) (fun _ _ _ h => h) (Or.inl ⟨by rfl, ?_⟩) (by assumption) ?_
        · intro w9 hSw
          exact y_move rfl rfl
        simp only [Act.put, List.setIfInBounds_toArray, List.set_cons_zero, List.set_cons_succ]
        refine wpAnyH_take (i := 1) (oi := { dst := some 25, op := _, type := _, pos := _, after := _, guard := _ }) (v := .bool true) rfl (by kernel_rfl) (by kernel_rfl) (by kernel_rfl) (fun _ _ _ h => h) (Or.inl ⟨by rfl, ?_⟩) (by assumption) ?_
        · intro w9 hSw
          exact exec_bin rfl rfl rfl (eqGuard_er _ _ _) (eql_er _ hx0)
        simp only [Act.put, List.setIfInBounds_toArray, List.set_cons_zero, List.set_cons_succ]
        refine wpAnyH_take (i := 2) (oi := { dst := some 26, op := _, type := _, pos := _, after := _, guard := _ }) (v := .bool true) rfl (by kernel_rfl) (by kernel_rfl) (by kernel_rfl) (fun _ _ _ h => h) (Or.inl ⟨by rfl, ?_⟩) (by assumption) ?_
        · intro w9 hSw
          exact y_move rfl rfl
        simp only [Act.put, List.setIfInBounds_toArray, List.set_cons_zero, List.set_cons_succ]
        refine wpAnyH_take (i := 3) (oi := { dst := some 27, op := _, type := _, pos := _, after := _, guard := _ }) (v := .pointer (some ⟨g, 0, none⟩)) rfl (by kernel_rfl) (by kernel_rfl) (by kernel_rfl) (fun _ _ _ h => h) (Or.inl ⟨by rfl, ?_⟩) (by assumption) ?_
        · intro w9 hSw
          exact y_move rfl rfl
        simp only [Act.put, List.setIfInBounds_toArray, List.set_cons_zero, List.set_cons_succ]
        refine wpAnyH_take (i := 4) (oi := { dst := some 28, op := _, type := _, pos := _, after := _, guard := _ }) (v := .pointer (some ⟨g, 0, none⟩)) rfl (by kernel_rfl) (by kernel_rfl) (by kernel_rfl) (fun _ _ _ h => h) (Or.inl ⟨by rfl, ?_⟩) (by assumption) ?_
        · intro w9 hSw
          exact y_nil rfl rfl
        simp only [Act.put, List.setIfInBounds_toArray, List.set_cons_zero, List.set_cons_succ]
        refine wpAnyH_take (i := 5) (oi := { dst := some 29, op := _, type := _, pos := _, after := _, guard := _ }) (v := .pointer (some ⟨g, 0, none⟩)) rfl (by kernel_rfl) (by kernel_rfl) (by kernel_rfl) (fun _ _ _ h => h) (Or.inl ⟨by rfl, ?_⟩) (by assumption) ?_
        · intro w9 hSw
          exact y_field rfl rfl (field_s0 _ _)
        simp only [Act.put, List.setIfInBounds_toArray, List.set_cons_zero, List.set_cons_succ]
        refine wpAnyH_take (i := 6) (oi := { dst := some 30, op := _, type := _, pos := _, after := _, guard := _ }) (v := .agg (vals s.seen)) rfl (by kernel_rfl) (by kernel_rfl) (by kernel_rfl) (fun _ _ _ h => h) (Or.inl ⟨by rfl, ?_⟩) (by assumption) ?_
        · intro w9 hSw
          exact y_load rfl rfl (load_seen hSw.sp)
        simp only [Act.put, List.setIfInBounds_toArray, List.set_cons_zero, List.set_cons_succ]
        refine wpAnyH_take (i := 7) (oi := { dst := some 31, op := _, type := _, pos := _, after := _, guard := _ }) (v := .pointer (some ⟨B, 3, none⟩)) rfl (by kernel_rfl) (by kernel_rfl) (by kernel_rfl) (fun _ _ _ h => h) (Or.inl ⟨by rfl, ?_⟩) (by assumption) ?_
        · intro w9 hSw
          exact y_field rfl rfl (field_ev2 _ _)
        simp only [Act.put, List.setIfInBounds_toArray, List.set_cons_zero, List.set_cons_succ]
        refine wpAnyH_take (i := 8) (oi := { dst := some 32, op := _, type := _, pos := _, after := _, guard := _ }) (v := .agg (vals e.deps)) rfl (by kernel_rfl) (by kernel_rfl) (by kernel_rfl) (fun _ _ _ h => h) (Or.inl ⟨by rfl, ?_⟩) (by assumption) ?_
        · intro w9 hSw
          exact y_load rfl rfl (load_dp hSw.ev he16)
        simp only [Act.put, List.setIfInBounds_toArray, List.set_cons_zero, List.set_cons_succ]
        refine wpAnyH_take (i := 10) (oi := { dst := some 34, op := _, type := _, pos := _, after := _, guard := _ }) (v := .pointer (some ⟨g, 0, none⟩)) rfl (by kernel_rfl) (by kernel_rfl) (by kernel_rfl) (fun _ _ _ h => h) (Or.inl ⟨by rfl, ?_⟩) (by assumption) ?_
        · intro w9 hSw
          exact y_move rfl rfl
        simp only [Act.put, List.setIfInBounds_toArray, List.set_cons_zero, List.set_cons_succ]
        refine wpAnyH_take (i := 11) (oi := { dst := some 35, op := _, type := _, pos := _, after := _, guard := _ }) (v := .pointer (some ⟨g, 0, none⟩)) rfl (by kernel_rfl) (by kernel_rfl) (by kernel_rfl) (fun _ _ _ h => h) (Or.inl ⟨by rfl, ?_⟩) (by assumption) ?_
        · intro w9 hSw
          exact y_nil rfl rfl
        simp only [Act.put, List.setIfInBounds_toArray, List.set_cons_zero, List.set_cons_succ]
        refine wpAnyH_take (i := 12) (oi := { dst := some 36, op := _, type := _, pos := _, after := _, guard := _ }) (v := .pointer (some ⟨g, 0, none⟩)) rfl (by kernel_rfl) (by kernel_rfl) (by kernel_rfl) (fun _ _ _ h => h) (Or.inl ⟨by rfl, ?_⟩) (by assumption) ?_
        · intro w9 hSw
          exact y_field rfl rfl (field_s0 _ _)
        simp only [Act.put, List.setIfInBounds_toArray, List.set_cons_zero, List.set_cons_succ]
        refine wpAnyH_take (i := 13) (oi := { dst := some 37, op := _, type := _, pos := _, after := _, guard := _ }) (v := .agg (vals s.seen)) rfl (by kernel_rfl) (by kernel_rfl) (by kernel_rfl) (fun _ _ _ h => h) (Or.inl ⟨by rfl, ?_⟩) (by assumption) ?_
        · intro w9 hSw
          exact y_load rfl rfl (load_seen hSw.sp)
        simp only [Act.put, List.setIfInBounds_toArray, List.set_cons_zero, List.set_cons_succ]
        clear hHeld
        refine wpAnyH_ready (rs := [9]) (by kernel_rfl) (by simp) ?_
        refine AllReadyH.cons (o := { dst := some 33, op := _, type := _, pos := _, after := _, guard := _ }) rfl (fun K hK => ?_) AllReadyH.nil
        rw [if_pos (by rfl)]
        refine y_call (f := 33) (xs := [.tmp 30, .tmp 32]) (vs := [.agg (vals s.seen), .agg (vals e.deps)]) rfl rfl (enters_join _ _) (join_any s.seen e.deps hl16 he16 wc.drew) ?_
        rintro ex w5 ⟨rfl, hb5⟩
        refine ⟨_, rfl, ?_⟩
        have HB5 : Hid (Below w.heap.size w w5) := HB3.out.trans (hb5.mono HB3.out.size)
        refine hK.out _ _ (hRd.below hb5) (fun hHeld => ?_)
        clear hK K
        simp only [Act.put, List.setIfInBounds_toArray, List.set_cons_zero, List.set_cons_succ]
        refine wpAnyH_take (i := 14) (oi := { dst := some 38, op := _, type := _, pos := _, after := _, guard := _ }) (v := .bool (decide (each max s.seen e.deps = s.seen))) rfl (by kernel_rfl) (by kernel_rfl) (by kernel_rfl) (fun _ _ _ h => h) (Or.inl ⟨by rfl, ?_⟩) (by assumption) ?_
        · intro w9 hSw
          exact exec_bin rfl rfl rfl (eqGuard_vv _ _ _) (run_eql_vec _ _ _ hjl hl16)
        simp only [Act.put, List.setIfInBounds_toArray, List.set_cons_zero, List.set_cons_succ]
        refine wpAnyH_take (i := 15) (oi := { dst := some 39, op := _, type := _, pos := _, after := _, guard := _ }) (v := .bool (decide (each max s.seen e.deps = s.seen))) rfl (by kernel_rfl) (by kernel_rfl) (by kernel_rfl) (fun _ _ _ h => h) (Or.inl ⟨by rfl, ?_⟩) (by assumption) ?_
        · intro w9 hSw
          exact exec_pick (b := true) rfl rfl rfl rfl
        simp only [Act.put, List.setIfInBounds_toArray, List.set_cons_zero, List.set_cons_succ]
        refine wpAnyH_take (i := 16) (oi := { dst := some 4, op := _, type := _, pos := _, after := _, guard := _ }) (v := .bool (decide (each max s.seen e.deps = s.seen))) rfl (by kernel_rfl) (by kernel_rfl) (by kernel_rfl) (fun _ _ _ h => h) (Or.inl ⟨by rfl, ?_⟩) (by assumption) ?_
        · intro w9 hSw
          exact y_assign rfl rfl
        simp only [Act.put, List.setIfInBounds_toArray, List.set_cons_zero, List.set_cons_succ]
        refine wpAnyH_done (by kernel_rfl) ?_ _
        refine NoPanic.normal ?_
        clear hHeld
        go_wp2
        go_ret
        exact ⟨by rw [HX.out, HD0.out, Bool.true_and]; rfl, HB5.out⟩
      · have hx0 : (x == 0) = false := by simpa using h0
        have hd0 : decide (x = 0) = false := by simpa using h0
        have HD0 : Hid (decide (x = 0) = false) := hd0
        clear h0 hd0 hx
        go_wp2_with fail
        refine wp_region_noPanic ?_
        refine wp_region_held_drew (S := fun W' : World => Rr Y g s B e W') (by kernel_rfl) hRd (fun hHeld => ?_)
        refine wpAnyH_take (i := 0) (oi := { dst := some 24, op := _, type := _, pos := _, after := _, guard := _ }) (v := .int .i64 x) rfl (by kernel_rfl) (by kernel_rfl) (by kernel_rfl) (fun _ _ _ h => h) (Or.inl ⟨by rfl, ?_⟩) (by assumption) ?_
        · intro w9 hSw
          exact y_move rfl rfl
        simp only [Act.put, List.setIfInBounds_toArray, List.set_cons_zero, List.set_cons_succ]
        refine wpAnyH_take (i := 1) (oi := { dst := some 25, op := _, type := _, pos := _, after := _, guard := _ }) (v := .bool false) rfl (by kernel_rfl) (by kernel_rfl) (by kernel_rfl) (fun _ _ _ h => h) (Or.inl ⟨by rfl, ?_⟩) (by assumption) ?_
        · intro w9 hSw
          exact exec_bin rfl rfl rfl (eqGuard_er _ _ _) (eql_er _ hx0)
        simp only [Act.put, List.setIfInBounds_toArray, List.set_cons_zero, List.set_cons_succ]
        refine wpAnyH_take (i := 2) (oi := { dst := some 26, op := _, type := _, pos := _, after := _, guard := _ }) (v := .bool false) rfl (by kernel_rfl) (by kernel_rfl) (by kernel_rfl) (fun _ _ _ h => h) (Or.inl ⟨by rfl, ?_⟩) (by assumption) ?_
        · intro w9 hSw
          exact y_move rfl rfl
        simp only [Act.put, List.setIfInBounds_toArray, List.set_cons_zero, List.set_cons_succ]
        refine wpAnyH_take (i := 3) (oi := { dst := some 27, op := _, type := _, pos := _, after := _, guard := _ }) (v := undef) rfl (by kernel_rfl) (by kernel_rfl) (by kernel_rfl) (fun _ _ _ h => h) (Or.inr ⟨by rfl, rfl⟩) (by assumption) ?_
        simp only [Act.put, List.setIfInBounds_toArray, List.set_cons_zero, List.set_cons_succ]
        refine wpAnyH_take (i := 4) (oi := { dst := some 28, op := _, type := _, pos := _, after := _, guard := _ }) (v := undef) rfl (by kernel_rfl) (by kernel_rfl) (by kernel_rfl) (fun _ _ _ h => h) (Or.inr ⟨by rfl, rfl⟩) (by assumption) ?_
        simp only [Act.put, List.setIfInBounds_toArray, List.set_cons_zero, List.set_cons_succ]
        refine wpAnyH_take (i := 5) (oi := { dst := some 29, op := _, type := _, pos := _, after := _, guard := _ }) (v := undef) rfl (by kernel_rfl) (by kernel_rfl) (by kernel_rfl) (fun _ _ _ h => h) (Or.inr ⟨by rfl, rfl⟩) (by assumption) ?_
        simp only [Act.put, List.setIfInBounds_toArray, List.set_cons_zero, List.set_cons_succ]
        refine wpAnyH_take (i := 6) (oi := { dst := some 30, op := _, type := _, pos := _, after := _, guard := _ }) (v := undef) rfl (by kernel_rfl) (by kernel_rfl) (by kernel_rfl) (fun _ _ _ h => h) (Or.inr ⟨by rfl, rfl⟩) (by assumption) ?_
        simp only [Act.put, List.setIfInBounds_toArray, List.set_cons_zero, List.set_cons_succ]
        refine wpAnyH_take (i := 7) (oi := { dst := some 31, op := _, type := _, pos := _, after := _, guard := _ }) (v := undef) rfl (by kernel_rfl) (by kernel_rfl) (by kernel_rfl) (fun _ _ _ h => h) (Or.inr ⟨by rfl, rfl⟩) (by assumption) ?_
        simp only [Act.put, List.setIfInBounds_toArray, List.set_cons_zero, List.set_cons_succ]
        refine wpAnyH_take (i := 8) (oi := { dst := some 32, op := _, type := _, pos := _, after := _, guard := _ }) (v := undef) rfl (by kernel_rfl) (by kernel_rfl) (by kernel_rfl) (fun _ _ _ h => h) (Or.inr ⟨by rfl, rfl⟩) (by assumption) ?_
        simp only [Act.put, List.setIfInBounds_toArray, List.set_cons_zero, List.set_cons_succ]
        refine wpAnyH_take (i := 9) (oi := { dst := some 33, op := _, type := _, pos := _, after := _, guard := _ }) (v := undef) rfl (by kernel_rfl) (by kernel_rfl) (by kernel_rfl) (fun _ _ _ h => h) (Or.inr ⟨by rfl, rfl⟩) (by assumption) ?_
        simp only [Act.put, List.setIfInBounds_toArray, List.set_cons_zero, List.set_cons_succ]
        refine wpAnyH_take (i := 10) (oi := { dst := some 34, op := _, type := _, pos := _, after := _, guard := _ }) (v := undef) rfl (by kernel_rfl) (by kernel_rfl) (by kernel_rfl) (fun _ _ _ h => h) (Or.inr ⟨by rfl, rfl⟩) (by assumption) ?_
        simp only [Act.put, List.setIfInBounds_toArray, List.set_cons_zero, List.set_cons_succ]
        refine wpAnyH_take (i := 11) (oi := { dst := some 35, op := _, type := _, pos := _, after := _, guard := _ }) (v := undef) rfl (by kernel_rfl) (by kernel_rfl) (by kernel_rfl) (fun _ _ _ h => h) (Or.inr ⟨by rfl, rfl⟩) (by assumption) ?_
        simp only [Act.put, List.setIfInBounds_toArray, List.set_cons_zero, List.set_cons_succ]
        refine wpAnyH_take (i := 12) (oi := { dst := some 36, op := _, type := _, pos := _, after := _, guard := _ }) (v := undef) rfl (by kernel_rfl) (by kernel_rfl) (by kernel_rfl) (fun _ _ _ h => h) (Or.inr ⟨by rfl, rfl⟩) (by assumption) ?_
        simp only [Act.put, List.setIfInBounds_toArray, List.set_cons_zero, List.set_cons_succ]
        refine wpAnyH_take (i := 13) (oi := { dst := some 37, op := _, type := _, pos := _, after := _, guard := _ }) (v := undef) rfl (by kernel_rfl) (by kernel_rfl) (by kernel_rfl) (fun _ _ _ h => h) (Or.inr ⟨by rfl, rfl⟩) (by assumption) ?_
        simp only [Act.put, List.setIfInBounds_toArray, List.set_cons_zero, List.set_cons_succ]
        refine wpAnyH_take (i := 14) (oi := { dst := some 38, op := _, type := _, pos := _, after := _, guard := _ }) (v := undef) rfl (by kernel_rfl) (by kernel_rfl) (by kernel_rfl) (fun _ _ _ h => h) (Or.inr ⟨by rfl, rfl⟩) (by assumption) ?_
        simp only [Act.put, List.setIfInBounds_toArray, List.set_cons_zero, List.set_cons_succ]
        refine wpAnyH_take (i := 15) (oi := { dst := some 39, op := _, type := _, pos := _, after := _, guard := _ }) (v := .bool false) rfl (by kernel_rfl) (by kernel_rfl) (by kernel_rfl) (fun _ _ _ h => h) (Or.inl ⟨by rfl, ?_⟩) (by assumption) ?_
        · intro w9 hSw
          exact exec_pick (b := false) rfl rfl rfl rfl
        simp only [Act.put, List.setIfInBounds_toArray, List.set_cons_zero, List.set_cons_succ]
        refine wpAnyH_take (i := 16) (oi := { dst := some 4, op := _, type := _, pos := _, after := _, guard := _ }) (v := .bool false) rfl (by kernel_rfl) (by kernel_rfl) (by kernel_rfl) (fun _ _ _ h => h) (Or.inl ⟨by rfl, ?_⟩) (by assumption) ?_
        · intro w9 hSw
          exact y_assign rfl rfl
        simp only [Act.put, List.setIfInBounds_toArray, List.set_cons_zero, List.set_cons_succ]
        refine wpAnyH_done (by kernel_rfl) ?_ _
        refine NoPanic.normal ?_
        clear hHeld
        go_wp2
        go_ret
        exact ⟨by rw [HX.out, HD0.out, Bool.false_and]; rfl, HB3.out⟩
end Go.Proofs.YtmlfekbmbnfkjabGreatDoor

/-
  What Apply, VV and New come to.
-/
namespace Go.Proofs.YtmlfekbmbnfkjabGreatDoor
set_option maxRecDepth 100000
open Go.RowKit

/-- The error. -/
def applyE (s : St) (e : Ev) : Int := if okev e then (if readyE s e then 0 else 11) else 1
def applyS (s : St) (e : Ev) : St := if readyE s e then seeE s e else s
theorem max_get {a b : List Int} (la : a.length = 16) (lb : b.length = 16) (h : each max a b = a) (k : Nat) : b.getD k 0 ≤ a.getD k 0 ∨ 16 ≤ k := by
  by_cases hk : k < 16
  · left
    have h1 : (each max a b)[k]? = a[k]? := by rw [h]
    have hka : k < a.length := by omega
    have hkb : k < b.length := by omega
    rw [each, List.getElem?_zipWith, List.getElem?_eq_getElem hka, List.getElem?_eq_getElem hkb] at h1
    simp only [Option.some.injEq] at h1
    rw [List.getD_eq_getElem?_getD, List.getD_eq_getElem?_getD, List.getElem?_eq_getElem hka, List.getElem?_eq_getElem hkb]
    simp only [Option.getD_some]
    omega
  · right; omega
theorem with_zero {v : List Int} {r n : Int} (h : withE v r n = 0) : okdot r n = true ∧ n = v.getD r.toNat 0 + 1 := by
  unfold withE at h
  split at h
  · rename_i h1
    rw [Bool.and_eq_true] at h1
    split at h
    · rename_i h2
      exact ⟨h1.2, h2⟩
    · cases h
  · cases h
theorem ready_rdy {s : St} {e : Ev} (hw : Wide e) (h : readyE s e = true) : Rdy s e := by
  unfold readyE at h
  simp only [Bool.and_eq_true, decide_eq_true_eq] at h
  obtain ⟨-, h2, -⟩ := h
  obtain ⟨h3, h4⟩ := with_zero h2
  have h5 := of_decide_eq_true (show decide _ = true from h3)
  refine ⟨hw, by omega, by omega, ?_⟩
  unfold hasv
  rw [h3, Bool.true_and]
  simp only [decide_eq_false_iff_not]
  omega
theorem hasv_iff {v : List Int} {r n : Int} : hasv v r n = true ↔ okdot r n = true ∧ n ≤ v.getD r.toNat 0 := by
  unfold hasv
  simp
theorem okdot_iff {r n : Int} : okdot r n = true ↔ 0 ≤ r ∧ r < 16 ∧ 1 ≤ n ∧ n ≤ 1048576 := by
  unfold okdot
  simp
theorem getD_set {v : List Int} {k j : Nat} {x : Int} (_hk : k < v.length) : (v.set k x).getD j 0 = if k = j then x else v.getD j 0 := by
  rw [List.getD_eq_getElem?_getD, List.getD_eq_getElem?_getD, List.getElem?_set]
  split
  · rename_i e
    subst e
    simp
  · rfl
theorem inv_see {s : St} {e : Ev} (hI : Inv s) (hw : Wide e) (h : readyE s e = true) : Inv (seeE s e) := by
  have hR := ready_rdy hw h
  have h' := h
  unfold readyE at h'
  simp only [Bool.and_eq_true, decide_eq_true_eq] at h'
  obtain ⟨hd, hn⟩ := with_zero h'.2.1
  have hd' := okdot_iff.1 hd
  have hlen := hI.len
  have hmono : ∀ r n, hasv s.seen r n = true → hasv (s.seen.set e.r.toNat e.n) r n = true := fun r n hh => by
    rw [hasv_iff] at hh ⊢
    refine ⟨hh.1, ?_⟩
    rw [getD_set (by omega)]
    split
    · rename_i e1
      rw [← e1] at hh
      omega
    · exact hh.2
  have hself : hasv (s.seen.set e.r.toNat e.n) e.r e.n = true := by
    rw [hasv_iff]
    refine ⟨hd, ?_⟩
    rw [getD_set (by omega), if_pos rfl]
    exact Int.le_refl _
  have hnd := hI.noDot hR
  obtain ⟨-, -, k3, k4, -, -⟩ := keys1 (e := e) hI
  have hDL : ∀ d ∈ deadTo e s.L s.DL, (∃ a ∈ s.L, d = ⟨a, e.r, e.n⟩ ∧ fell e a = true) ∨ d ∈ s.DL := by
    suffices hh : ∀ (L : List Ev) (DL : List Ed), ∀ d ∈ deadTo e L DL, (∃ a ∈ L, d = ⟨a, e.r, e.n⟩ ∧ fell e a = true) ∨ d ∈ DL from hh s.L s.DL
    intro L
    induction L with
    | nil => exact fun DL d hd => .inr hd
    | cons a L ih =>
      intro DL d hd
      have hd2 : d ∈ deadTo e L (if fell e a then putD DL ⟨a, e.r, e.n⟩ else DL) := hd
      rcases ih _ d hd2 with ⟨b, hb, q⟩ | h1
      · exact .inl ⟨b, by simp [hb], q⟩
      · split at h1
        · rename_i hf
          rcases mem_putD h1 with rfl | h1
          · exact .inl ⟨a, by simp, rfl, hf⟩
          · exact .inr h1
        · exact .inr h1
  have hmem : ∀ a ∈ (seeE s e).L, a = e ∨ (a ∈ s.L ∧ endsE e a = false) := fun a ha => by
    unfold seeE at ha
    simp only at ha
    split at ha
    · rcases mem_putE ha with rfl | h1
      · exact .inl rfl
      · obtain ⟨q1, q2⟩ := List.mem_filter.1 h1
        exact .inr ⟨q1, by simpa using q2⟩
    · obtain ⟨q1, q2⟩ := List.mem_filter.1 ha
      exact .inr ⟨q1, by simpa using q2⟩
  refine ⟨by show (s.seen.set _ _).length = 16; rw [List.length_set]; exact hlen, fun a ha => ?_, fun d hd1 => ?_, fun a ha d hd1 => ?_, ?_, k4⟩
  · rcases hmem a ha with rfl | ⟨h1, -⟩
    · exact hself
    · exact hmono _ _ (hI.seenL a h1)
  · rcases hDL d hd1 with ⟨a, ha, rfl, -⟩ | h1
    · exact hmono _ _ (hI.seenL a ha)
    · exact hmono _ _ (hI.seenD d h1)
  · rcases hDL d hd1 with ⟨b, hb, rfl, hf⟩ | h1
    · rcases hmem a ha with rfl | ⟨h2, h3⟩
      · exact hnd b hb
      · intro hs
        have := hI.srL.same hb h2 hs.1 hs.2
        subst this
        unfold fell at hf
        rw [h3] at hf
        cases hf
    · rcases hmem a ha with rfl | ⟨h2, -⟩
      · intro hs
        have := hI.seenD d h1
        rw [hs.1, hs.2, hR.new] at this
        cases this
      · exact hI.apart a h2 d h1
  · unfold seeE
    simp only
    split
    · exact k3.put e
    · exact k3
set_option maxHeartbeats 1000000 in
theorem apply_any (Y : Lay) (w : World) (g : Nat) (s : St) (e : Ev) (hS : SpK Y w g s none) (hI : Inv s) (hw : Wide e) (hl : s.L.length ≤ 1048576) :
    Calls Tryz.prog 10 #[.pointer (some ⟨g, 0, none⟩), .agg (evc e)] w fun ex w' => ex = .returned (.int .i64 (applyE s e)) ∧ ∃ Y', SpK Y' w' g (applyS s e) none ∧ Tm g Y Y' w w' := by
  have he16 := hw.1
  have hb0 : Below w.heap.size w (w.alloc (.cells (evc e) 47)) := (Below.refl _ w).alloc (Nat.le_refl _) _
  have hE0 := liesE_new w e
  have hS0 := hS.below hb0 (Nat.le_refl _)
  have T0 : Hid (Tm g Y Y w (w.alloc (.cells (evc e) 47))) := Tm.of_below Y hb0
  generalize hW0 : w.alloc (.cells (evc e) 47) = W0 at *
  have hOk := eright_any e he16 hw.2 W0
  have he := eql_ps W0 ⟨g, 0, none⟩
  have HS0 : Hid _ := hS0
  clear hS hb0 hS0
  unfold applyE applyS
  cases hok : okev e
  · have hre : readyE s e = false := by unfold readyE; rw [hok]; rfl
    rw [hok] at hOk
    rw [hre]
    simp only [Bool.false_eq_true, if_false]
    go_enter Tryz.func10, Tryz.ntmps10
    go_wp2_with (first | refine load_ev rfl rfl rfl hE0 he16 ?_)
    refine Calls.mono hOk ?_
    rintro ex w1 ⟨rfl, hb1⟩
    have FIN : Hid (SpK Y w1 g s none ∧ Tm g Y Y w w1) := ⟨HS0.out.below hb1 (Nat.le_refl _), T0.out.trans (Tm.of_below Y hb1)⟩
    clear hE0 hb1 hOk
    go_wp2
    go_ret
    exact ⟨rfl, Y, FIN.out⟩
  · rw [hok] at hOk
    simp only [if_true]
    cases hre : readyE s e
    · simp only [Bool.false_eq_true, if_false]
      go_enter Tryz.func10, Tryz.ntmps10
      go_wp2_with (first | refine load_ev rfl rfl rfl hE0 he16 ?_)
      refine Calls.mono hOk ?_
      rintro ex w1 ⟨rfl, hb1⟩
      have hE1 := hE0.below hb1 hE0.lt
      have hS1 := HS0.out.below hb1 (Nat.le_refl _)
      have HT1 : Hid (Tm g Y Y w w1) := T0.out.trans (Tm.of_below Y hb1)
      have hRe := ready_any Y w1 g s e hS1 hw
      have HS1 : Hid _ := hS1
      clear hE0 hb1 hOk T0 HS0 hS1 he
      rw [hre] at hRe
      go_wp2_with (first | refine load_ev rfl rfl rfl hE1 he16 ?_)
      refine Calls.mono hRe ?_
      rintro ex w2 ⟨rfl, hb2⟩
      have FIN : Hid (SpK Y w2 g s none ∧ Tm g Y Y w w2) := ⟨HS1.out.below hb2 (Nat.le_refl _), HT1.out.trans (Tm.of_below Y hb2)⟩
      clear hE1 hb2 hRe hre
      go_wp2
      go_ret
      exact ⟨rfl, Y, FIN.out⟩
    · simp only [if_true]
      go_enter Tryz.func10, Tryz.ntmps10
      go_wp2_with (first | refine load_ev rfl rfl rfl hE0 he16 ?_)
      refine Calls.mono hOk ?_
      rintro ex w1 ⟨rfl, hb1⟩
      have hE1 := hE0.below hb1 hE0.lt
      have hS1 := HS0.out.below hb1 (Nat.le_refl _)
      have HT1 : Hid (Tm g Y Y w w1) := T0.out.trans (Tm.of_below Y hb1)
      have hRe := ready_any Y w1 g s e hS1 hw
      have HS1 : Hid _ := hS1
      clear hE0 hb1 hOk T0 HS0 hS1 he
      rw [hre] at hRe
      go_wp2_with (first | refine load_ev rfl rfl rfl hE1 he16 ?_)
      refine Calls.mono hRe ?_
      rintro ex w2 ⟨rfl, hb2⟩
      have hE2 := hE1.below hb2 hE1.lt
      have hSe := see_any Y w2 g s e (HS1.out.below hb2 (Nat.le_refl _)) hI (ready_rdy hw hre) hl
      have HT2 : Hid (Tm g Y Y w w2) := HT1.out.trans (Tm.of_below Y hb2)
      clear hE1 hb2 hRe HS1 HT1 hre
      go_wp2_with (first | refine load_ev rfl rfl rfl hE2 he16 ?_)
      refine Calls.mono hSe ?_
      rintro ex w3 ⟨rfl, Y3, hS3, ht3⟩
      have FIN : Hid (SpK Y3 w3 g (seeE s e) none ∧ Tm g Y Y3 w w3) := ⟨hS3, HT2.out.trans ht3⟩
      clear hE2 hSe hS3 ht3
      go_wp2
      go_ret
      exact ⟨rfl, Y3, FIN.out⟩
def st0 : St := ⟨zeros, 0, [], []⟩
def lay0 : Lay := ⟨none, [], fun _ => none, fun _ => none, fun _ => none⟩
theorem inv0 : Inv st0 := ⟨rfl, by simp [st0], by simp [st0], by simp [st0], List.Pairwise.nil, List.Pairwise.nil⟩
theorem sp_new (w : World) : SpK lay0 (w.alloc (.cells (spc st0 none) 58)) w.heap.size st0 none :=
  ⟨heap_alloc_new w _, rfl, .inl ⟨rfl, rfl⟩, by simp [lay0], fun k _ => by simp [lay0, st0, ofKeyE, ofKeyD], rfl, by simp [lay0], by simp [lay0], by simp [lay0], List.Pairwise.nil, List.Pairwise.nil, by simp [st0], by simp [st0]⟩
theorem above_new (w : World) : Above w.heap.size w.heap.size lay0 := ⟨Nat.le_refl _, by simp [lay0], by simp [lay0]⟩
theorem new_any (w : World) : Calls Tryz.prog 14 #[] w fun e w' => e = .returned (.pointer (some ⟨w.heap.size, 0, none⟩)) ∧ w' = w.alloc (.cells (spc st0 none) 58) := by
  go_enter Tryz.func14, Tryz.ntmps14
  go_wp2
  go_ret
  exact ⟨rfl, rfl⟩
theorem sorz_some (g : Nat) (w : World) : Calls Tryz.prog 17 #[.pointer (some ⟨g, 0, none⟩)] w fun e w' => e = .returned (.pointer (some ⟨g, 0, none⟩)) ∧ w' = w := by
  go_enter Tryz.func17, Tryz.ntmps17
  go_wp2
  go_ret
  exact ⟨rfl, rfl⟩
end Go.Proofs.YtmlfekbmbnfkjabGreatDoor

/-
  What putNumber and putEvent of a space's text come to.
-/
namespace Go.Proofs.YtmlfekbmbnfkjabGreatDoor
set_option maxRecDepth 100000
open Go.RowKit

/-- A list of bytes of the program's own. -/
abbrev BR (w : World) (base : Nat) (v : Value) (l : List UInt8) : Prop := w.ownsRow base 5 1 v l.length (bs l)
theorem BR.val {w : World} {base : Nat} {v : Value} {l : List UInt8} (h : BR w base v l) : ∃ ao cap, v = .slice ao l.length cap ∧ cap ≤ maxLen := by
  rcases h.2 with ⟨rfl, h0⟩ | ⟨g, cap, cur, rfl, hbg, hg, hn, hc, rest⟩
  · exact ⟨none, 0, by rw [h0], Nat.zero_le _⟩
  · exact ⟨_, cap, rfl, hc⟩
theorem BR.below {w w' : World} {base : Nat} {v : Value} {l : List UInt8} (h : BR w base v l) (hb : Below w.heap.size w w') : BR w' base v l := own_below h hb
theorem BR.cellsAt {w : World} {base : Nat} {v : Value} {l : List UInt8} (h : BR w base v l) : ∀ k, v.ownBlock = some k → base ≤ k ∧ k < w.heap.size ∧ ∃ cur, w.heap[k]? = some (.cells cur 5 (0, 0)) := by
  intro k hk
  rcases h.2 with ⟨rfl, -⟩ | ⟨g, cap, cur, rfl, hbg, hg, -⟩
  · cases hk
  · obtain rfl : g = k := by simpa [Value.ownBlock] using hk
    exact ⟨hbg, (Array.getElem?_eq_some_iff.1 hg).1, cur, hg⟩
end Go.Proofs.YtmlfekbmbnfkjabGreatDoor

/-
  What Encode comes to.
-/
namespace Go.Proofs.YtmlfekbmbnfkjabGreatDoor
set_option maxRecDepth 100000
open Go.RowKit

/-- What the text needs. -/
structure Inv2 (s : St) : Prop where
  seen : ∀ x ∈ s.seen, Nn x
  time : Nn s.time
  okL : ∀ a ∈ s.L, okev a = true
  okD : ∀ d ∈ s.DL, okev d.push = true ∧ Nn d.br ∧ Nn d.bn
theorem SpK.srcE {Y : Lay} {w : World} {g : Nat} {s : St} (h : SpK Y w g s none) (hl : s.L.length ≤ 1000000) : E.Src w Y.km Y.S s.L := by
  refine ⟨h.map, fun p hp => ⟨_, _, (h.ho p hp (by simp)).live⟩, fun a ha => ?_, h.nodup, h.srL, hl⟩
  have hne : ofKeyE a.key s.L ≠ [] := fun e => by
    have : a ∈ ofKeyE a.key s.L := List.mem_filter.2 ⟨ha, by simp⟩
    rw [e] at this
    cases this
  obtain ⟨x, hx⟩ := (h.has a.key (by simp)).2 (.inl hne)
  exact List.mem_map.2 ⟨_, hx, rfl⟩
theorem SpK.srcD {Y : Lay} {w : World} {g : Nat} {s : St} (h : SpK Y w g s none) (hl : s.DL.length ≤ 1000000) : D.Src w Y.km Y.S s.DL := by
  refine ⟨h.map, fun p hp => ⟨_, _, (h.ho p hp (by simp)).dead⟩, fun a ha => ?_, h.nodup, h.srD, hl⟩
  have hne : ofKeyD a.push.key s.DL ≠ [] := fun e => by
    have : a ∈ ofKeyD a.push.key s.DL := List.mem_filter.2 ⟨ha, by simp⟩
    rw [e] at this
    cases this
  obtain ⟨x, hx⟩ := (h.has a.push.key (by simp)).2 (.inr hne)
  exact List.mem_map.2 ⟨_, hx, rfl⟩
/-- The text so far. -/
structure Tx (w : World) (v : Value) (l : List UInt8) (wr : World) : Prop where
  br : BR wr w.heap.size v l
  be : Below w.heap.size w wr
theorem Tx.step {w : World} {v v' : Value} {l l' : List UInt8} {wr wx : World} (h : Tx w v l wr) (hb : BR wx w.heap.size v' l') (hg : wr.grownBy wx v.ownBlock) : Tx w v' l' wx :=
  ⟨hb, h.be.grown hg h.be.size (fun k e => (h.br.cellsAt k e).1)⟩
theorem Tx.below {w : World} {v : Value} {l : List UInt8} {wr wx : World} (h : Tx w v l wr) (hb : Below wr.heap.size wr wx) : Tx w v l wx := ⟨BR.below h.br hb, h.be.trans (hb.mono h.be.size)⟩
end Go.Proofs.YtmlfekbmbnfkjabGreatDoor

/-
  What Encode comes to: its walk.
-/
namespace Go.Proofs.YtmlfekbmbnfkjabGreatDoor
set_option maxRecDepth 100000
open Go.RowKit

end Go.Proofs.YtmlfekbmbnfkjabGreatDoor

/-
  What living, there, Type, Text and VV come to; few.
-/
namespace Go.Proofs.YtmlfekbmbnfkjabGreatDoor
set_option maxRecDepth 100000
open Go.RowKit

theorem ev_ne : (47 : Nat) ≠ 112 := by decide
/-- The list so far. -/
structure Lx (w : World) (v : Value) (E : List Ev) (wr : World) : Prop where
  row : Row wr w.heap.size v E
  be : Below w.heap.size w wr
theorem Row.cellsAt {w : World} {base : Nat} {v : Value} {E : List Ev} (h : Row w base v E) : ∀ k, v.ownBlock = some k → base ≤ k ∧ k < w.heap.size ∧ ∃ cur, w.heap[k]? = some (.cells cur 47 (0, 0)) := by
  intro k hk
  rcases h.2 with ⟨rfl, -⟩ | ⟨g, cap, cur, rfl, hbg, hg, -⟩
  · cases hk
  · obtain rfl : g = k := by simpa [Value.ownBlock] using hk
    exact ⟨hbg, (Array.getElem?_eq_some_iff.1 hg).1, cur, hg⟩
set_option maxHeartbeats 4000000 in
theorem living_any (Y : Lay) (w : World) (g : Nat) (s : St) (key : Key) (hS : SpK Y w g s none) (hl : s.L.length ≤ 1000) :
    Calls Tryz.prog 45 #[.pointer (some ⟨g, 0, none⟩), .string (sb key)] w fun e w' => ∃ v, e = .returned v ∧ Row w' w.heap.size v (ofKeyE key s.L) ∧ Below w.heap.size w w' := by
  have hz := sorz_some g w
  have hO := of_core Y w g s none key hS
  have hO2 : Calls Tryz.prog 34 #[.pointer (some ⟨g, 0, none⟩), .string (sb key)] w fun e w' => ∃ hb cs m, e = .returned (.pointer (some ⟨hb, 0, none⟩)) ∧ E.Bg w' hb 0 cs 86 m ((ofKeyE key s.L).map eit) ∧ Below w.heap.size w w' := by
    refine hO.mono ?_
    rintro e w' ⟨hb, rfl, ⟨ha, rfl⟩ | ⟨ha, rfl, rfl⟩⟩
    · obtain ⟨-, hh⟩ := hS.take ha
      exact ⟨hb, _, _, rfl, hh.ho.live, Below.refl _ _⟩
    · obtain ⟨-, hh, -⟩ := hS.take_new ha
      exact ⟨_, _, _, rfl, hh.ho.live, (Below.refl _ w).alloc (Nat.le_refl _) _⟩
  have hwl : ∀ a ∈ ofKeyE key s.L, Wide a := fun a ha => hS.wl a (List.mem_filter.1 ha).1
  have hxl : (ofKeyE key s.L).length ≤ 1000 := Nat.le_trans (List.length_filter_le _ _) hl
  have HWL : Hid _ := hwl
  clear hO hS hwl
  generalize ofKeyE key s.L = X at *
  go_enter Tryz.func45, Tryz.ntmps45
  go_wp2_with fail
  refine Calls.mono hz ?_
  rintro e w1 ⟨rfl, hw1⟩
  obtain rfl := hw1.symm
  go_wp2_with fail
  refine Calls.mono hO2 ?_
  rintro e w2 ⟨hb, cs, m, rfl, hB, hb2⟩
  have hIt := E.items_any hb 0 cs 86 m _ w2 hB (by rw [List.length_map]; omega)
  clear hz hO2 hB
  go_wp2_with fail
  refine Calls.mono hIt ?_
  rintro e w3 ⟨vr, rfl, hr3, hb3⟩
  obtain ⟨ao, cap, hvr, -, -⟩ := hr3.val
  rw [List.length_map] at hvr
  obtain ⟨n, hn⟩ : ∃ n, X.length = n := ⟨_, rfl⟩
  rw [hn] at hvr hxl
  subst hvr
  have H3 : Aside (Lx w (.slice none 0 0) (X.take 0) w3 ∧ E.Rw 112 w3 w2.heap.size (.slice ao n cap) (X.map eit)) := ⟨⟨row_nil w3 _, hb2.trans (hb3.mono hb2.size)⟩, hr3⟩
  clear hIt hr3 hb3 hb2
  go_wp2_with fail
  go_loopw [5, 7, 16] (fun vb _ c wr => ∃ k : Nat, k ≤ n ∧ c = .int .i64 (k : Int) ∧ Aside (Lx w vb (X.take k) wr ∧ E.Rw 112 wr w2.heap.size (.slice ao n cap) (X.map eit))) (fun _ _ c _ => n - (intOf c).toNat)
  case atStart => exact ⟨0, Nat.zero_le _, rfl, H3⟩
  case round =>
    clear H3
    obtain ⟨k, hk, rfl, HX⟩ := hrel
    by_cases hkn : k < n
    · have hkn' : (k : Int) < (n : Int) := by omega
      obtain ⟨gr, capr, i, hv', -, hi, hgb, hgrl, hrg, -⟩ := HX.out.2.atx (k := k) (by rw [List.length_map]; omega)
      rw [List.length_map, hn] at hv'
      simp only [Value.slice.injEq] at hv'
      obtain ⟨rfl, -, rfl⟩ := hv'
      obtain ⟨a, ha, rfl⟩ := map_at hi
      have ham := List.mem_of_getElem? ha
      have haw := HWL.out a ham
      have ha16 := haw.1
      have hld := E.ld_mid hrg
      have hst := E.st_new wr (eit a)
      have hb1 : Below wr.heap.size wr (wr.alloc (.cells (xc (eit a)) 112)) := (Below.refl _ wr).alloc (Nat.le_refl _) _
      have hx := heap_alloc_new wr (.cells (xc (eit a)) 112)
      have hr1 : E.Rw 112 (wr.alloc (.cells (xc (eit a)) 112)) w2.heap.size (.slice (some ⟨gr, 0, none⟩) n cap) (X.map eit) := HX.out.2.alloc _
      have hL1 : Lx w u5 (X.take k) (wr.alloc (.cells (xc (eit a)) 112)) := ⟨HX.out.1.row.below hb1 (Nat.le_refl _), HX.out.1.be.trans (hb1.mono HX.out.1.be.size)⟩
      generalize wr.alloc (.cells (xc (eit a)) 112) = W5 at *
      have hxx := E.ldx_at hx
      rw [show (eit a).x.l.toArray = evc a from evX_c haw.1] at hxx
      have hb6 : Below W5.heap.size W5 (W5.alloc (.cells (evc a) 47)) := (Below.refl _ W5).alloc (Nat.le_refl _) _
      have hF : Evs (W5.alloc (.cells (evc a) 47)) (some ⟨W5.heap.size, 0, none⟩) 1 1 [a] := evs_single _ _ a haw (liesE_new W5 a)
      have hRow : Row (W5.alloc (.cells (evc a) 47)) w.heap.size u5 (X.take k) := hL1.row.below hb6 (Nat.le_refl _)
      have hle : w.heap.size ≤ (W5.alloc (.cells (evc a) 47)).heap.size := Nat.le_trans hL1.be.size hb6.size
      have hlk : (X.take k).length ≤ 1000 := by rw [List.length_take]; omega
      have htk : X.take k ++ [a] = X.take (k + 1) := by rw [List.take_add_one, ha]; rfl
      have HFIN : Hid (∀ v' w', Row w' w.heap.size v' (X.take k ++ [a]) → (W5.alloc (.cells (evc a) 47)).grownBy w' u5.ownBlock → Lx w v' (X.take (k + 1)) w' ∧ E.Rw 112 w' w2.heap.size (.slice (some ⟨gr, 0, none⟩) n cap) (X.map eit)) := fun v' w' h1 h2 => by
        rw [htk] at h1
        refine ⟨⟨h1, (hL1.be.trans (hb6.mono hL1.be.size)).grown h2 hle (fun k e => (hRow.cellsAt k e).1)⟩, ?_⟩
        have hr6 := hr1.below hb6 (Nat.le_refl _)
        refine E.Rw.keep hr6 fun j hj => h2.block j (hr6.lt j hj).2 (fun e => ?_)
        obtain ⟨cur, hc⟩ := E.Rw.cellsAt hr6 j hj
        obtain ⟨-, -, cur2, hc2⟩ := hRow.cellsAt j e.symm
        rw [hc] at hc2
        simp only [Option.some.injEq, Obj.cells.injEq] at hc2
        exact ev_ne hc2.2.1.symm
      generalize X.take k = XT at *
      clear htk hL1 hr1 hrg hb1 hx HX hi ha ham hb6
      go_wp2_with (first
        | (refine wpList_loadR (ty := 112) (x := .tmp 18) (ad := ⟨gr, k * 28, none⟩) (v := .agg (xc (eit a))) rfl rfl rfl hld ?_)
        | (refine wpList_storeR (ty := 112) (x := .tmp 7) (y := .tmp 19) (ad := ⟨wr.heap.size, 0, none⟩) (v := .agg (xc (eit a))) (w' := W5) rfl rfl rfl rfl hst ?_)
        | (refine wpList_loadR (ty := 47) (x := .tmp 21) (ad := ⟨wr.heap.size, 2, none⟩) (v := .agg (evc a)) rfl rfl rfl hxx ?_)
        | refine build_ev1 rfl rfl rfl ha16 ?_
        | refine wpList_appE rfl _ _ rfl w.heap.size _ XT rfl hRow _ 1 1 [a] rfl hF (by omega) hle ?_)
      intro v' w' h1 h2 _
      have H6 : Aside (Lx w v' (X.take (k + 1)) w' ∧ E.Rw 112 w' w2.heap.size (.slice (some ⟨gr, 0, none⟩) n cap) (X.map eit)) := HFIN.out v' w' h1 h2
      clear h1 h2 hld hst hxx hF hRow hle hlk HFIN haw
      go_wp2
      go_roundw
      case rel => exact ⟨k + 1, by omega, by go_num, H6⟩
      case measure => simp [intOf]; omega
    · have hkn' : ¬ (k : Int) < (n : Int) := by omega
      have e1 : X.take k = X := List.take_of_length_le (by omega)
      rw [e1] at HX
      have FIN : Aside (Row wr w.heap.size u5 X ∧ Below w.heap.size w wr) := ⟨HX.out.1.row, HX.out.1.be⟩
      clear HX e1
      go_wp2
      go_ret
      exact ⟨_, rfl, FIN.out⟩
end Go.Proofs.YtmlfekbmbnfkjabGreatDoor

/-
  What Type, there, Text and VV come to; few.
-/
namespace Go.Proofs.YtmlfekbmbnfkjabGreatDoor
set_option maxRecDepth 100000
open Go.RowKit

theorem stype_any (Y : Lay) (w : World) (g : Nat) (s : St) (key : Key) (hS : SpK Y w g s none) (hl : s.L.length ≤ 1000) :
    Calls Tryz.prog 28 #[.pointer (some ⟨g, 0, none⟩), .string (sb key)] w fun e w' => e = .returned (.int .i64 (typeE (ofKeyE key s.L) key)) ∧ Below w.heap.size w w' := by
  have hL := living_any Y w g s key hS hl
  have hwl : ∀ a ∈ ofKeyE key s.L, Wide a := fun a ha => hS.wl a (List.mem_filter.1 ha).1
  have hxl : (ofKeyE key s.L).length ≤ 1000 := Nat.le_trans (List.length_filter_le _ _) hl
  clear hS
  generalize ofKeyE key s.L = X at *
  have hT0 := fun ao c w1 hE => type_any ao X.length c X key w1 hE hxl
  generalize typeE X key = t at *
  go_enter Tryz.func28, Tryz.ntmps28
  go_wp2_with fail
  refine Calls.mono hL ?_
  rintro e w1 ⟨v, rfl, hR, hb1⟩
  obtain ⟨ao, c, rfl, hE⟩ := hR.evs hwl
  have hT := hT0 ao c w1 hE
  obtain ⟨n, hn⟩ : ∃ n, X.length = n := ⟨_, rfl⟩
  rw [hn] at hT ⊢
  clear hR hE hL hn hT0
  go_wp2_with fail
  refine Calls.mono hT ?_
  rintro e w2 ⟨rfl, hb2⟩
  have FIN : Hid (Below w.heap.size w w2) := hb1.trans (hb2.mono hb1.size)
  clear hb1 hb2
  go_wp2
  go_ret
  exact ⟨rfl, FIN.out⟩
end Go.Proofs.YtmlfekbmbnfkjabGreatDoor

/-
  The function that a space's Items hands to slices.DeleteFunc: is an event live no more?
-/
namespace Go.Proofs.YtmlfekbmbnfkjabGreatDoor
set_option maxRecDepth 100000
open Go.RowKit

/-- What the function reads: a holding's live events. -/
structure Sf where
  cs : Array Value
  m : Option Nat
  X : List Ev
structure Sit (w : World) (k B : Nat) (F : Sf) : Prop where
  cell : w.cell? ⟨k, 0, none⟩ = some (.pointer (some ⟨B, 0, none⟩))
  bg : E.Bg w B 0 F.cs 86 F.m (F.X.map eit)
theorem Sit.below {w w' : World} {k B : Nat} {F : Sf} (h : Sit w k B F) (hb : Below w.heap.size w w') : Sit w' k B F :=
  ⟨(hb.cell (World.block_lt_of_cell? w _ h.cell)).trans h.cell, h.bg.below hb (Nat.le_refl _)⟩
def badS (F : Sf) (u : Ev) : Bool := !hasD (F.X.map eit) u.r u.n
end Go.Proofs.YtmlfekbmbnfkjabGreatDoor

/-
  What slices.DeleteFunc of events comes to: what is live no more is deleted.
-/
namespace Go.Proofs.YtmlfekbmbnfkjabGreatDoor
set_option maxRecDepth 100000
namespace S16
set_option maxRecDepth 100000
open Go.RowKit Go.Shelf Go.Sort

theorem heap_setCells_other {g k : Nat} (hk : k ≠ g) : ∀ (vs : List Value) (o : Nat) (w : World), (w.setCells g o vs).heap[k]? = w.heap[k]?
  | [], _, _ => rfl
  | v :: vs, o, w => (heap_setCells_other hk vs (o + 1) (w.setCell ⟨g, o, none⟩ v)).trans (heap_setCell_other w ⟨g, o, none⟩ k v hk)
theorem _root_.Go.Proofs.YtmlfekbmbnfkjabGreatDoor.Sit.put {w : World} {k B g : Nat} {F : Sf} (h : Sit w k B F) (hk : k ≠ g ∧ B ≠ g ∧ F.m ≠ some g) (o : Nat) (vs : List Value) : Sit (w.setCells g o vs) k B F :=
  ⟨(World.cell?_setCells_out g _ _ _ _ (fun e => absurd e hk.1)).trans h.cell, h.bg.kept fun i _ hi => heap_setCells_other (fun e => by subst e; rcases hi with rfl | hi; exact hk.2.1 rfl; exact hk.2.2 hi) vs o w⟩

/-! A row that is stored into. -/
theorem heap_setCells_same {g : Nat} {t : TypeId} : ∀ (vs : List Value) (o : Nat) (w : World) (cur : Array Value), w.heap[g]? = some (.cells cur t (0, 0)) → (w.setCells g o vs).heap[g]? = some (.cells (setMany cur o vs) t (0, 0))
  | [], _, _, _, h => h
  | v :: vs, o, w, cur, h => heap_setCells_same vs (o + 1) (w.setCell ⟨g, o, none⟩ v) (cur.setIfInBounds o v) (heap_setCell_same w g o cur t v h)
theorem get_take {cur : Array Value} {N : Nat} {L : List Value} (h : cur.toList.take N = L) {t : Nat} (ht : t < N) : cur[t]? = L[t]? := by
  rw [← h, List.getElem?_take_of_lt ht, Array.getElem?_toList]
/-- On the way: what is kept lies ahead, the rest as it was. -/
structure Cmpd (F : Sf) (L R : List Ev) (i j : Nat) : Prop where
  len : R.length = L.length
  front : R.take i = (L.take j).filter (fun u => !badS F u)
  back : ∀ q, j ≤ q → R[q]? = L[q]?
  le : i < j
theorem Cmpd.start {F : Sf} {L : List Ev} {i : Nat} {u : Ev} (h1 : ∀ u ∈ L.take i, badS F u = false) (h2 : L[i]? = some u) (h3 : badS F u = true) : Cmpd F L L i (i + 1) := by
  refine ⟨rfl, ?_, fun _ _ => rfl, by omega⟩
  rw [take_snoc h2, List.filter_append, List.filter_cons, h3, List.filter_nil]
  simp only [Bool.not_true, Bool.false_eq_true, if_false, List.append_nil]
  exact (List.filter_eq_self.2 (fun v hv => by rw [h1 v hv]; rfl)).symm
theorem Cmpd.drop {F : Sf} {L R : List Ev} {i j : Nat} {u : Ev} (h : Cmpd F L R i j) (hu : L[j]? = some u) (hb : badS F u = true) : Cmpd F L R i (j + 1) := by
  have hle := h.le
  refine ⟨h.len, ?_, fun q hq => h.back q (by omega), by omega⟩
  rw [take_snoc hu, List.filter_append, List.filter_cons, hb, List.filter_nil]
  simp only [Bool.not_true, Bool.false_eq_true, if_false, List.append_nil]
  exact h.front
theorem Cmpd.keep {F : Sf} {L R : List Ev} {i j : Nat} {u : Ev} (h : Cmpd F L R i j) (hj : j < L.length) (hu : L[j]? = some u) (hb : badS F u = false) : Cmpd F L (R.set i u) (i + 1) (j + 1) := by
  have hl := h.len
  have hle := h.le
  refine ⟨by rw [List.length_set]; exact h.len, ?_, fun q hq => ?_, by omega⟩
  · have hi : (R.set i u)[i]? = some u := List.getElem?_set_self (by omega)
    rw [take_snoc hi, take_snoc hu, List.filter_append, List.filter_cons, hb, List.filter_nil, ← h.front]
    simp only [Bool.not_false, if_true]
    congr 1
    rw [List.take_set_of_le (Nat.le_refl _)]
  · rw [List.getElem?_set_ne (by omega)]
    exact h.back q (by omega)
theorem Cmpd.all {F : Sf} {L R : List Ev} {i j : Nat} (h : Cmpd F L R i j) (hj : L.length ≤ j) : R.take i = L.filter (fun u => !badS F u) := by
  rw [h.front, List.take_of_length_le hj]
theorem Cmpd.wide {F : Sf} {L R : List Ev} {i j : Nat} {u : Ev} (_h : Cmpd F L R i j) (hR : ∀ e ∈ R, Wide e) (hu : Wide u) : ∀ e ∈ R.set i u, Wide e := fun e he => (List.mem_or_eq_of_mem_set he).elim (hR e) (fun e1 => e1 ▸ hu)
theorem below_put {B b : Nat} {a : World} (hb : B ≤ b) : ∀ (vs : List Value) (o : Nat) (w : World), Below B a w → Below B a (w.setCells b o vs)
  | [], _, _, h => h
  | v :: r, o, _, h => below_put hb r (o + 1) _ (h.setCell (p := ⟨b, o, none⟩) hb v)
end S16
end Go.Proofs.YtmlfekbmbnfkjabGreatDoor

/-
  What a space is behind events each of which was ready: what it keeps is what is live of them, and the nodes that were ended.
-/
namespace Go.Proofs.YtmlfekbmbnfkjabGreatDoor
set_option maxRecDepth 100000
open Go.RowKit

def seenS (l : List Ev) : St := l.foldl seeE st0
theorem seenS_snoc (l : List Ev) (e : Ev) : seenS (l ++ [e]) = seeE (seenS l) e := by simp [seenS]
/-- Each was ready. -/
inductive Came : List Ev → Prop
  | nil : Came []
  | snoc {l : List Ev} {e : Ev} : Came l → Wide e → readyE (seenS l) e = true → Came (l ++ [e])
theorem Came.wide {l : List Ev} (h : Came l) : ∀ a ∈ l, Wide a := by
  induction h with
  | nil => simp
  | snoc _ hw _ ih =>
    intro a ha
    rcases List.mem_append.1 ha with h1 | h1
    · exact ih a h1
    · rw [List.mem_singleton.1 h1]; exact hw
theorem Came.inv {l : List Ev} (h : Came l) : Inv (seenS l) := by
  induction h with
  | nil => exact inv0
  | snoc _ hw hr ih => rw [seenS_snoc]; exact inv_see ih hw hr
theorem ready_facts {s : St} {e : Ev} (hI : Inv s) (hw : Wide e) (h : readyE s e = true) :
    okev e = true ∧ okdot e.r e.n = true ∧ e.n = s.seen.getD e.r.toNat 0 + 1 ∧ ∀ k, k < 16 → e.deps.getD k 0 ≤ s.seen.getD k 0 := by
  unfold readyE at h
  simp only [Bool.and_eq_true, decide_eq_true_eq] at h
  obtain ⟨h1, h2, h3⟩ := h
  obtain ⟨h4, h5⟩ := with_zero h2
  refine ⟨h1, h4, h5, fun k hk => ?_⟩
  rcases max_get hI.len hw.1 h3 k with h6 | h6
  · exact h6
  · omega
theorem see_mono {s : St} {e : Ev} (hI : Inv s) (hw : Wide e) (h : readyE s e = true) {r n : Int} (hh : hasv s.seen r n = true) : hasv (seeE s e).seen r n = true := by
  obtain ⟨-, h2, h3, -⟩ := ready_facts hI hw h
  have hd := okdot_iff.1 h2
  have hl := hI.len
  show hasv (s.seen.set e.r.toNat e.n) r n = true
  rw [hasv_iff] at hh ⊢
  refine ⟨hh.1, ?_⟩
  rw [getD_set (by omega)]
  split
  · rename_i e1
    rw [← e1] at hh
    omega
  · exact hh.2
theorem see_self {s : St} {e : Ev} (hI : Inv s) (hw : Wide e) (h : readyE s e = true) : hasv (seeE s e).seen e.r e.n = true := by
  obtain ⟨-, h2, h3, -⟩ := ready_facts hI hw h
  have hd := okdot_iff.1 h2
  have hl := hI.len
  show hasv (s.seen.set e.r.toNat e.n) e.r e.n = true
  rw [hasv_iff]
  refine ⟨h2, ?_⟩
  rw [getD_set (by omega), if_pos rfl]
  exact Int.le_refl _
theorem ready_deps {s : St} {e : Ev} (hI : Inv s) (hw : Wide e) (h : readyE s e = true) {r n : Int} (hh : hasv e.deps r n = true) : hasv s.seen r n = true := by
  obtain ⟨-, -, -, h4⟩ := ready_facts hI hw h
  rw [hasv_iff] at hh ⊢
  have hd := okdot_iff.1 hh.1
  have := h4 r.toNat (by omega)
  exact ⟨hh.1, by omega⟩
theorem ready_new {s : St} {e : Ev} (hw : Wide e) (h : readyE s e = true) : hasv s.seen e.r e.n = false := (ready_rdy hw h).new
theorem Came.dots {l : List Ev} (h : Came l) : ∀ a ∈ l, hasv (seenS l).seen a.r a.n = true := by
  induction h with
  | nil => simp
  | snoc hc hw hr ih =>
    intro a ha
    rw [seenS_snoc]
    rcases List.mem_append.1 ha with h1 | h1
    · exact see_mono hc.inv hw hr (ih a h1)
    · rw [List.mem_singleton.1 h1]; exact see_self hc.inv hw hr
theorem Came.deps {l : List Ev} (h : Came l) : ∀ b ∈ l, ∀ r n, hasv b.deps r n = true → hasv (seenS l).seen r n = true := by
  induction h with
  | nil => simp
  | snoc hc hw hr ih =>
    intro b hb r n hh
    rw [seenS_snoc]
    rcases List.mem_append.1 hb with h1 | h1
    · exact see_mono hc.inv hw hr (ih b h1 r n hh)
    · rw [List.mem_singleton.1 h1] at hh
      exact see_mono hc.inv hw hr (ready_deps hc.inv hw hr hh)
theorem Came.ok {l : List Ev} (h : Came l) : ∀ a ∈ l, okev a = true := by
  induction h with
  | nil => simp
  | snoc hc hw hr ih =>
    intro a ha
    rcases List.mem_append.1 ha with h1 | h1
    · exact ih a h1
    · rw [List.mem_singleton.1 h1]; exact (ready_facts hc.inv hw hr).1
theorem Came.unlike {l : List Ev} (h : Came l) : Unlike l := by
  induction h with
  | nil => exact List.Pairwise.nil
  | snoc hc hw hr ih =>
    unfold Unlike at *
    rw [List.pairwise_append]
    refine ⟨ih, List.pairwise_singleton _ _, fun a ha b hb hs => ?_⟩
    rw [List.mem_singleton.1 hb] at hs
    have h1 := hc.dots a ha
    rw [hs.1, hs.2, ready_new hw hr] at h1
    cases h1
/-- Nothing that was seen ends what is new, nor does it end itself. -/
theorem Came.endsNone {l : List Ev} {e : Ev} (h : Came l) (hw : Wide e) (hr : readyE (seenS l) e = true) : ∀ b ∈ l ++ [e], endsE b e = false := by
  intro b hb
  refine ends_covers ?_
  cases hh : hasv b.deps e.r e.n
  · rfl
  · have h1 : hasv (seenS l).seen e.r e.n = true := by
      rcases List.mem_append.1 hb with h1 | h1
      · exact h.deps b h1 _ _ hh
      · rw [List.mem_singleton.1 h1] at hh
        exact ready_deps h.inv hw hr hh
    rw [ready_new hw hr] at h1
    cases h1
theorem isLive_snoc (l : List Ev) (x a : Ev) : isLive (l ++ [x]) a = (isLive l a && !endsE x a) := by
  unfold isLive
  rw [List.any_append]
  simp [Bool.and_assoc]
theorem live_step {l : List Ev} {e : Ev} (h : Came l) (hw : Wide e) (hr : readyE (seenS l) e = true) :
    liveE (l ++ [e]) = (liveE l).filter (fun a => !endsE e a) ++ (if addsE e.kind then [e] else []) := by
  have hn := h.endsNone hw hr
  have h0 : isLive (l ++ [e]) e = addsE e.kind := by
    unfold isLive
    rw [List.any_eq_false.2 (fun b hb => by rw [hn b hb]; simp)]
    simp
  unfold liveE
  rw [List.filter_append]
  congr 1
  · rw [List.filter_filter]
    refine List.filter_congr fun a _ => ?_
    rw [isLive_snoc, Bool.and_comm]
  · cases ha : addsE e.kind
    · rw [List.filter_cons_of_neg (by rw [h0, ha]; simp)]; rfl
    · rw [List.filter_cons_of_pos (by rw [h0, ha])]; rfl
theorem Came.live {l : List Ev} (h : Came l) : (seenS l).L.Perm (liveE l) := by
  induction h with
  | nil => exact List.Perm.refl _
  | @snoc l e hc hw hr ih =>
    rw [live_step hc hw hr, seenS_snoc]
    have h1 := ih.filter (fun a => !endsE e a)
    have hnd := hc.inv.noDot (ready_rdy hw hr)
    show (if addsE e.kind then putE ((seenS l).L.filter fun a => !endsE e a) e else (seenS l).L.filter fun a => !endsE e a).Perm _
    cases ha : addsE e.kind
    · simp only [Bool.false_eq_true, if_false, List.append_nil]
      exact h1
    · simp only [if_true]
      refine (putE_perm (fun a ha => hnd a (List.mem_filter.1 ha).1)).trans ?_
      refine (List.Perm.cons e h1).trans ?_
      exact (List.perm_append_comm (l₁ := [e]))
theorem Came.mem {l : List Ev} (h : Came l) {a : Ev} : a ∈ (seenS l).L ↔ a ∈ l ∧ isLive l a = true := by
  rw [h.live.mem_iff]
  unfold liveE
  exact List.mem_filter
theorem Came.unlikeL {l : List Ev} (h : Came l) : Unlike (seenS l).L := h.inv.srL.unlike
theorem Came.allL {l : List Ev} (h : Came l) : allE (seenS l).L = allE l := by
  have h1 : liveE (seenS l).L = (seenS l).L := List.filter_eq_self.2 fun a ha => live_part (fun b hb => (h.mem.1 hb).1) (h.mem.1 ha).2
  unfold allE
  rw [h1]
  exact srt_order h.live h.unlikeL
theorem Came.type {l : List Ev} (h : Came l) (key : Key) : typeE (ofKeyE key (seenS l).L) key = typeE l key := by
  rw [type_key]
  unfold typeE
  rw [h.allL]
theorem Came.of {l : List Ev} (h : Came l) (key : Key) : ofE (ofKeyE key (seenS l).L) key = ofE l key := by
  rw [of_key]
  unfold ofE
  rw [h.allL]
  unfold typeE
  rw [h.allL]
/-- The nodes that were ended. -/
def endedE (l : List Ev) : List Ev := l.filter fun a => decide (a.kind = 9) && l.any fun b => endsE b a
theorem dead_perm {e : Ev} : ∀ (L : List Ev) (DL : List Ed), (∀ a ∈ L, noDotD DL a) → L.Pairwise (fun a b => ¬ sameDot a b) →
    ((deadTo e L DL).map Ed.push).Perm (DL.map Ed.push ++ L.filter (fell e))
  | [], DL, _, _ => by simp [deadTo]
  | a :: L, DL, hn, hp => by
    obtain ⟨p1, p2⟩ := List.pairwise_cons.1 hp
    have hstep : deadTo e (a :: L) DL = deadTo e L (if fell e a then putD DL ⟨a, e.r, e.n⟩ else DL) := rfl
    have hn' : ∀ b ∈ L, noDotD (if fell e a then putD DL ⟨a, e.r, e.n⟩ else DL) b := fun b hb d hd => by
      split at hd
      · rcases mem_putD hd with rfl | hd
        · exact p1 b hb
        · exact hn b (by simp [hb]) d hd
      · exact hn b (by simp [hb]) d hd
    rw [hstep]
    refine (dead_perm L _ hn' p2).trans ?_
    cases hf : fell e a
    · rw [List.filter_cons_of_neg (by rw [hf]; simp)]
      exact List.Perm.refl _
    · rw [List.filter_cons_of_pos hf]
      simp only [if_true]
      refine (((putD_perm (d := ⟨a, e.r, e.n⟩) (hn a (by simp))).map Ed.push).append_right _).trans ?_
      rw [List.map_cons]
      exact (List.perm_middle (l₁ := DL.map Ed.push) (a := a)).symm
theorem ended_snoc {l : List Ev} {e : Ev} (h : Came l) (hw : Wide e) (hr : readyE (seenS l) e = true) :
    (endedE (l ++ [e])).Perm (endedE l ++ (liveE l).filter (fell e)) := by
  have hn := h.endsNone hw hr
  have h1 : endedE (l ++ [e]) = l.filter fun a => (decide (a.kind = 9) && l.any fun b => endsE b a) || (isLive l a && fell e a) := by
    unfold endedE
    rw [List.filter_append, List.filter_cons_of_neg (by rw [List.any_eq_false.2 (fun b hb => by rw [hn b hb]; simp)]; simp), List.filter_nil, List.append_nil]
    refine List.filter_congr fun a _ => ?_
    rw [List.any_append]
    unfold isLive fell
    by_cases hk : a.kind = 9
    · have ha : addsE a.kind = true := by unfold addsE; simp [hk]
      rw [ha]
      simp only [hk, decide_true, Bool.true_and, Bool.and_true, List.any_cons, List.any_nil, Bool.or_false]
      cases l.any (fun b => endsE b a) <;> simp
    · simp [hk]
  rw [h1]
  unfold endedE liveE
  rw [List.filter_filter]
  refine (filter_or_perm _ _ l fun a _ hh => ?_).symm.trans (List.Perm.append (List.Perm.refl _) (List.Perm.of_eq (List.filter_congr fun a _ => Bool.and_comm _ _)))
  obtain ⟨h2, h3⟩ := hh
  simp only [Bool.and_eq_true] at h2 h3
  have h4 := h3.1
  unfold isLive at h4
  rw [h2.2] at h4
  simp at h4
theorem Came.dead {l : List Ev} (h : Came l) : ((seenS l).DL.map Ed.push).Perm (endedE l) := by
  induction h with
  | nil => exact List.Perm.refl _
  | @snoc l e hc hw hr ih =>
    rw [seenS_snoc]
    show ((deadTo e (seenS l).L (seenS l).DL).map Ed.push).Perm _
    refine (dead_perm (seenS l).L (seenS l).DL hc.inv.apart hc.unlikeL).trans ?_
    refine (List.Perm.append ih (hc.live.filter (fell e))).trans ?_
    exact (ended_snoc hc hw hr).symm
end Go.Proofs.YtmlfekbmbnfkjabGreatDoor

