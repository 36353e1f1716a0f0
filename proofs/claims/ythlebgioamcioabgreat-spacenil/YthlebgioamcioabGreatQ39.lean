/-
  What Ready comes to.
-/
import Derived.Test.YthlebgioamcioabGreatQ32
import Derived.Test.YthlebgioamcioabGreatQ38
import Derived.Test.YthlebgioamcioabGreatQ03
import Derived.Test.YthlebgioamcioabGreatQ30
import Derived.Test.YthlebgioamcioabGreatQ13
import Derived.Test.YthlebgioamcioabGreatQ12
import Derived.Laws.OwnMore
import Derived.Laws.AppendOwnNone
import Derived.Test.YthlebgioamcioabGreatQ31
namespace Go.Proofs.YthlebgioamcioabGreat
set_option maxRecDepth 100000
open Go.RowKit

/-- May it be seen next? -/
def readyE (s : St) (e : Ev) : Bool := okev e && (decide (withE s.seen e.r e.n = 0) && decide (each max s.seen e.deps = s.seen))
theorem eqGuard_vv (w : World) {op : BinOp} {x y : Operand} (a b : List Int) : (eqGuard op 25 x y (.agg (vals a)) (.agg (vals b))).run Tryz.prog w = .ok () w := by
  have := plain_vec
  go_simp
theorem eqGuard_er (w : World) {op : BinOp} {x y : Operand} (a b : Int) : (eqGuard op 38 x y (.int .i64 a) (.int .i64 b)).run Tryz.prog w = .ok () w := by go_simp
theorem eql_er (w : World) {a b : Int} {t : Bool} (h : (a == b) = t) : (binOp .eql 38 (.int .i64 a) (.int .i64 b)).run Tryz.prog w = .ok (.bool t) w := by
  subst h
  simp [go_sem]
theorem y_alloc {o : Oper} {a : Act} {w w' : World} {K : Act → World → Prop} {Q : Exit → Act → World → Prop} {ty : TypeId} {v : Value} (ho : o.op = .alloc ty) (hr : (Instr.alloc ty true (.tuple #[])).run Tryz.prog w = .ok v w') (h : K (a.put o.dst v) w') : o.wp Tryz.prog a w K Q := by
  unfold Oper.wp execOp
  simp only [ho, Sem.run_bind, Sem.run_pure, Result.andThen_ok, hr]
  exact h
theorem alloc_vv (w : World) : (Instr.alloc 25 true (.tuple #[])).run Tryz.prog w = .ok (.pointer (some ⟨w.heap.size, 0, none⟩)) (w.alloc (.cells (vals zeros) 25)) := by
  rw [zeros_vals]
  simp [go_sem]
theorem store_vv {w : World} {g : Nat} {z v : List Int} (hg : Lies w g z) (hz : z.length = 16) (hv : v.length = 16) : (storeVar 25 ⟨g, 0, none⟩ (.agg (vals v))).run Tryz.prog w = .ok () (w.setRow g (vals v)) :=
  run_storeVar_row (P := Tryz.prog) w g 25 25 (vals z) (vals v) hg (by rw [vals_size, hv]; kernel_rfl) (by rw [vals_size, vals_size, hz, hv]) (vals_one v)
theorem enters_join (xs : Array Value) (w : World) : (callFunc 41 xs).run Tryz.prog w = .ok (.enter 41 xs) w := enters Tryz.func41 (by kernel_rfl) (by kernel_rfl) xs w
theorem each_len {a b : List Int} (la : a.length = 16) (lb : b.length = 16) : (each max a b).length = 16 := each_length max a b la lb
/-- What Ready reads. -/
structure Rr (Y : Lay) (g : Nat) (s : St) (B : Nat) (e : Ev) (W : World) : Prop where
  sp : SpK Y W g s none
  ev : LiesE W B e
theorem Rr.below {Y : Lay} {g : Nat} {s : St} {B : Nat} {e : Ev} {W W' : World} (h : Rr Y g s B e W) (hb : Below W.heap.size W W') : Rr Y g s B e W' := ⟨h.sp.below hb (Nat.le_refl _), h.ev.below hb h.ev.lt⟩
theorem eql_ps (w : World) (ad : Addr) : (binOp .eql 33 (.pointer (some ad)) (.pointer none)).run Tryz.prog w = .ok (.bool false) w := by kernel_rfl

set_option maxHeartbeats 2000000 in
theorem ready_any (Y : Lay) (w : World) (g : Nat) (s : St) (e : Ev) (hS : SpK Y w g s none) (hw : Wide e) :
    Calls Tryz.prog 10 #[.pointer (some ⟨g, 0, none⟩), .agg (evc e)] w fun ex w' => ex = .returned (.bool (readyE s e)) ∧ Below w.heap.size w w' := by
  have he16 := hw.1
  have hb0 : Below w.heap.size w (w.alloc (.cells (evc e) 29)) := (Below.refl _ w).alloc (Nat.le_refl _) _
  have hE0 := liesE_new w e
  have hR0 : Rr Y g s w.heap.size e (w.alloc (.cells (evc e) 29)) := ⟨hS.below hb0 (Nat.le_refl _), hE0⟩
  have hl16 := hS.len
  generalize hW0 : w.alloc (.cells (evc e) 29) = W0 at *
  obtain ⟨B, hB⟩ : ∃ B, w.heap.size = B := ⟨_, rfl⟩
  rw [hB] at hE0 hR0
  have hOk := eright_any e he16 hw.2 W0
  have he := eql_ps W0 ⟨g, 0, none⟩
  have HB0 : Hid (Below w.heap.size w W0) := hb0
  clear hS hb0
  unfold readyE
  cases hok : okev e
  · rw [hok] at hOk
    go_enter Tryz.func10, Tryz.ntmps10
    go_wp2_with (first | refine load_ev rfl rfl rfl hE0 he16 ?_)
    refine Calls.mono hOk ?_
    rintro ex w1 ⟨rfl, hb1⟩
    have FIN : Hid (Below w.heap.size w w1) := HB0.out.trans (hb1.mono HB0.out.size)
    clear hE0 hR0 hb1 hOk
    go_wp2
    go_ret
    exact ⟨rfl, FIN.out⟩
  · rw [hok] at hOk
    rw [Bool.true_and]
    go_enter Tryz.func10, Tryz.ntmps10
    go_wp2_with (first | refine load_ev rfl rfl rfl hE0 he16 ?_)
    refine Calls.mono hOk ?_
    rintro ex w1 ⟨rfl, hb1⟩
    have HB1 : Hid (Below w.heap.size w w1) := HB0.out.trans (hb1.mono HB0.out.size)
    have hR1 := hR0.below hb1
    clear hE0 hR0 hb1 hOk he HB0
    go_upto_region 3 with fail
    go_cut [0, 3, 6] from 5 (fun v0 v3 v6 wr => v0 = .pointer (some ⟨g, 0, none⟩) ∧ v3 = .pointer (some ⟨B, 0, none⟩) ∧ v6 = .int .i64 (withE s.seen e.r e.n) ∧ Aside (Rr Y g s B e wr ∧ Below w.heap.size w wr))
    case first =>
      have hbd : Below w1.heap.size w1 w1.drew := (Below.refl _ w1).drew
      have hRd := hR1.below hbd
      have hHs : Below w1.drew.heap.size w1.drew w1.drew := Below.refl _ _
      obtain ⟨W, hW⟩ : ∃ W, w1.drew = W := ⟨_, rfl⟩
      have HBd : Hid (Below w.heap.size w W) := hW ▸ HB1.out.trans (hbd.mono HB1.out.size)
      rw [hW] at hRd
      have hwl := withV_length s.seen e.r e.n hl16
      clear hbd hHs hR1
      refine wp_region_noPanic ?_
      refine wp_region_held_drew (S := fun W' : World => Below W.heap.size W W') (by kernel_rfl) (by rw [hW]; exact Below.refl _ _) (fun hHeld => ?_)
      rw [hW] at hHeld ⊢
      refine wpAnyH_take (i := 0) (oi := { dst := some 15, op := _, type := _, pos := _, after := _, guard := _ }) (v := .pointer (some ⟨g, 0, none⟩)) rfl (by kernel_rfl) (by kernel_rfl) (by kernel_rfl) (fun _ _ _ h => h) (Or.inl ⟨by rfl, ?_⟩) (by assumption) ?_
      · intro w9 hSw
        exact y_move rfl rfl
      simp only [Act.put, List.setIfInBounds_toArray, List.set_cons_zero, List.set_cons_succ]
      refine wpAnyH_take (i := 1) (oi := { dst := some 16, op := _, type := _, pos := _, after := _, guard := _ }) (v := .pointer (some ⟨g, 0, none⟩)) rfl (by kernel_rfl) (by kernel_rfl) (by kernel_rfl) (fun _ _ _ h => h) (Or.inl ⟨by rfl, ?_⟩) (by assumption) ?_
      · intro w9 hSw
        exact y_nil rfl rfl
      simp only [Act.put, List.setIfInBounds_toArray, List.set_cons_zero, List.set_cons_succ]
      refine wpAnyH_take (i := 2) (oi := { dst := some 17, op := _, type := _, pos := _, after := _, guard := _ }) (v := .pointer (some ⟨g, 0, none⟩)) rfl (by kernel_rfl) (by kernel_rfl) (by kernel_rfl) (fun _ _ _ h => h) (Or.inl ⟨by rfl, ?_⟩) (by assumption) ?_
      · intro w9 hSw
        exact y_field rfl rfl (field_s0 _ _)
      simp only [Act.put, List.setIfInBounds_toArray, List.set_cons_zero, List.set_cons_succ]
      refine wpAnyH_take (i := 3) (oi := { dst := some 18, op := _, type := _, pos := _, after := _, guard := _ }) (v := .agg (vals s.seen)) rfl (by kernel_rfl) (by kernel_rfl) (by kernel_rfl) (fun _ _ _ h => h) (Or.inl ⟨by rfl, ?_⟩) (by assumption) ?_
      · intro w9 hSw
        exact y_load rfl rfl (load_seen (hRd.below hSw).sp)
      simp only [Act.put, List.setIfInBounds_toArray, List.set_cons_zero, List.set_cons_succ]
      refine wpAnyH_take (i := 4) (oi := { dst := some 19, op := _, type := _, pos := _, after := _, guard := _ }) (v := .pointer (some ⟨B, 0, none⟩)) rfl (by kernel_rfl) (by kernel_rfl) (by kernel_rfl) (fun _ _ _ h => h) (Or.inl ⟨by rfl, ?_⟩) (by assumption) ?_
      · intro w9 hSw
        exact y_field rfl rfl (field_ev0 _ _)
      simp only [Act.put, List.setIfInBounds_toArray, List.set_cons_zero, List.set_cons_succ]
      refine wpAnyH_take (i := 5) (oi := { dst := some 20, op := _, type := _, pos := _, after := _, guard := _ }) (v := .agg (dotc e.r e.n)) rfl (by kernel_rfl) (by kernel_rfl) (by kernel_rfl) (fun _ _ _ h => h) (Or.inl ⟨by rfl, ?_⟩) (by assumption) ?_
      · intro w9 hSw
        exact y_load rfl rfl (hRd.below hSw).ev.dotAt
      simp only [Act.put, List.setIfInBounds_toArray, List.set_cons_zero, List.set_cons_succ]
      clear hHeld
      refine wpAnyH_ready (rs := [6, 10]) (by kernel_rfl) (by simp) ?_
      refine AllReadyH.cons (o := { dst := some 21, op := _, type := _, pos := _, after := _, guard := _ }) rfl (fun K hK => ?_) ?_
      · rw [if_pos (by rfl)]
        refine y_call (f := 35) (xs := [.tmp 18, .tmp 20]) (vs := [.agg (vals s.seen), .agg (dotc e.r e.n)]) rfl rfl (enters_with _ _) (with_any s.seen e.r e.n hl16 W) ?_
        rintro ex wc1 ⟨rfl, hbc⟩
        refine ⟨_, rfl, ?_⟩
        have hb1 : Below W.heap.size W wc1 := (Below.refl W.heap.size W).trans (hbc.mono (Below.refl W.heap.size W).size)
        refine hK.out _ _ hb1 (fun hHeld => ?_)
        clear hK K
        simp only [Act.put, List.setIfInBounds_toArray, List.set_cons_zero, List.set_cons_succ]
        clear hHeld
        have hHeld : Below W.heap.size W wc1 := hb1
        refine wpAnyH_take (i := 7) (oi := { dst := some 14, op := _, type := _, pos := _, after := _, guard := _ }) (v := .tuple #[.agg (vals (withV s.seen e.r e.n)), .int .i64 (withE s.seen e.r e.n)]) rfl (by kernel_rfl) (by kernel_rfl) (by kernel_rfl) (fun _ _ _ h => h) (Or.inl ⟨by rfl, ?_⟩) (by assumption) ?_
        · intro w9 hSw
          exact y_move rfl rfl
        simp only [Act.put, List.setIfInBounds_toArray, List.set_cons_zero, List.set_cons_succ]
        refine wpAnyH_take (i := 8) (oi := { dst := some 22, op := _, type := _, pos := _, after := _, guard := _ }) (v := .agg (vals (withV s.seen e.r e.n))) rfl (by kernel_rfl) (by kernel_rfl) (by kernel_rfl) (fun _ _ _ h => h) (Or.inl ⟨by rfl, ?_⟩) (by assumption) ?_
        · intro w9 hSw
          exact y_extract rfl rfl rfl
        simp only [Act.put, List.setIfInBounds_toArray, List.set_cons_zero, List.set_cons_succ]
        refine wpAnyH_take (i := 9) (oi := { dst := some 23, op := _, type := _, pos := _, after := _, guard := _ }) (v := .int .i64 (withE s.seen e.r e.n)) rfl (by kernel_rfl) (by kernel_rfl) (by kernel_rfl) (fun _ _ _ h => h) (Or.inl ⟨by rfl, ?_⟩) (by assumption) ?_
        · intro w9 hSw
          exact y_extract rfl rfl rfl
        simp only [Act.put, List.setIfInBounds_toArray, List.set_cons_zero, List.set_cons_succ]
        clear hHeld
        refine wpAnyH_ready (rs := [10]) (by kernel_rfl) (by simp) ?_
        refine AllReadyH.cons (o := { dst := some 5, op := _, type := _, pos := _, after := _, guard := _ }) rfl (fun K hK => ?_) AllReadyH.nil
        rw [if_pos (by rfl)]
        refine y_alloc (ty := 25) rfl (alloc_vv wc1) ?_
        have hb2 : Below W.heap.size W (wc1.alloc (.cells (vals zeros) 25)) := hb1.alloc hb1.size _
        refine hK.out _ _ hb2 (fun hHeld => ?_)
        clear hK K
        simp only [Act.put, List.setIfInBounds_toArray, List.set_cons_zero, List.set_cons_succ]
        clear hHeld
        refine wpAnyH_ready (rs := [11]) (by kernel_rfl) (by simp) ?_
        refine AllReadyH.cons (o := { dst := none, op := _, type := _, pos := _, after := _, guard := _ }) rfl (fun K hK => ?_) AllReadyH.nil
        rw [if_pos (by rfl)]
        refine y_store (ty := 25) (x := .tmp 5) (y := .tmp 22) (ad := ⟨wc1.heap.size, 0, none⟩) (v := .agg (vals (withV s.seen e.r e.n))) (w' := (wc1.alloc (.cells (vals zeros) 25)).setRow (wc1.heap.size) (vals (withV s.seen e.r e.n))) rfl rfl rfl (store_vv (lies_new wc1 zeros) rfl hwl) ?_
        have hbF : Below W.heap.size W ((wc1.alloc (.cells (vals zeros) 25)).setRow (wc1.heap.size) (vals (withV s.seen e.r e.n))) := below_setRow hb2 hb1.size _
        refine hK.out _ _ hbF (fun hHeld => ?_)
        clear hK K
        simp only [Act.put]
        refine wpAnyH_take (i := 12) (oi := { dst := some 6, op := _, type := _, pos := _, after := _, guard := _ }) (v := .int .i64 (withE s.seen e.r e.n)) rfl (by kernel_rfl) (by kernel_rfl) (by kernel_rfl) (fun _ _ _ h => h) (Or.inl ⟨by rfl, ?_⟩) (by assumption) ?_
        · intro w9 hSw
          exact y_assign rfl rfl
        simp only [Act.put, List.setIfInBounds_toArray, List.set_cons_zero, List.set_cons_succ]
        refine wpAnyH_done (by kernel_rfl) ?_ _
        refine NoPanic.normal ?_
        clear hHeld
        go_wp2
        go_meet
        case rel => exact ⟨rfl, rfl, rfl, hRd.below hbF, HBd.out.trans (hbF.mono HBd.out.size)⟩
      refine AllReadyH.cons (o := { dst := some 5, op := _, type := _, pos := _, after := _, guard := _ }) rfl (fun K hK => ?_) AllReadyH.nil
      rw [if_pos (by rfl)]
      refine y_alloc (ty := 25) rfl (alloc_vv W) ?_
      have hb1 : Below W.heap.size W (W.alloc (.cells (vals zeros) 25)) := (Below.refl W.heap.size W).alloc (Below.refl W.heap.size W).size _
      refine hK.out _ _ hb1 (fun hHeld => ?_)
      clear hK K
      simp only [Act.put, List.setIfInBounds_toArray, List.set_cons_zero, List.set_cons_succ]
      clear hHeld
      refine wpAnyH_ready (rs := [6]) (by kernel_rfl) (by simp) ?_
      refine AllReadyH.cons (o := { dst := some 21, op := _, type := _, pos := _, after := _, guard := _ }) rfl (fun K hK => ?_) AllReadyH.nil
      rw [if_pos (by rfl)]
      refine y_call (f := 35) (xs := [.tmp 18, .tmp 20]) (vs := [.agg (vals s.seen), .agg (dotc e.r e.n)]) rfl rfl (enters_with _ _) (with_any s.seen e.r e.n hl16 (W.alloc (.cells (vals zeros) 25))) ?_
      rintro ex wc1 ⟨rfl, hbc⟩
      refine ⟨_, rfl, ?_⟩
      have hb2 : Below W.heap.size W wc1 := hb1.trans (hbc.mono hb1.size)
      refine hK.out _ _ hb2 (fun hHeld => ?_)
      clear hK K
      simp only [Act.put, List.setIfInBounds_toArray, List.set_cons_zero, List.set_cons_succ]
      clear hHeld
      have hHeld : Below W.heap.size W wc1 := hb2
      refine wpAnyH_take (i := 7) (oi := { dst := some 14, op := _, type := _, pos := _, after := _, guard := _ }) (v := .tuple #[.agg (vals (withV s.seen e.r e.n)), .int .i64 (withE s.seen e.r e.n)]) rfl (by kernel_rfl) (by kernel_rfl) (by kernel_rfl) (fun _ _ _ h => h) (Or.inl ⟨by rfl, ?_⟩) (by assumption) ?_
      · intro w9 hSw
        exact y_move rfl rfl
      simp only [Act.put, List.setIfInBounds_toArray, List.set_cons_zero, List.set_cons_succ]
      refine wpAnyH_take (i := 8) (oi := { dst := some 22, op := _, type := _, pos := _, after := _, guard := _ }) (v := .agg (vals (withV s.seen e.r e.n))) rfl (by kernel_rfl) (by kernel_rfl) (by kernel_rfl) (fun _ _ _ h => h) (Or.inl ⟨by rfl, ?_⟩) (by assumption) ?_
      · intro w9 hSw
        exact y_extract rfl rfl rfl
      simp only [Act.put, List.setIfInBounds_toArray, List.set_cons_zero, List.set_cons_succ]
      refine wpAnyH_take (i := 9) (oi := { dst := some 23, op := _, type := _, pos := _, after := _, guard := _ }) (v := .int .i64 (withE s.seen e.r e.n)) rfl (by kernel_rfl) (by kernel_rfl) (by kernel_rfl) (fun _ _ _ h => h) (Or.inl ⟨by rfl, ?_⟩) (by assumption) ?_
      · intro w9 hSw
        exact y_extract rfl rfl rfl
      simp only [Act.put, List.setIfInBounds_toArray, List.set_cons_zero, List.set_cons_succ]
      clear hHeld
      refine wpAnyH_ready (rs := [11]) (by kernel_rfl) (by simp) ?_
      refine AllReadyH.cons (o := { dst := none, op := _, type := _, pos := _, after := _, guard := _ }) rfl (fun K hK => ?_) AllReadyH.nil
      rw [if_pos (by rfl)]
      refine y_store (ty := 25) (x := .tmp 5) (y := .tmp 22) (ad := ⟨W.heap.size, 0, none⟩) (v := .agg (vals (withV s.seen e.r e.n))) (w' := (wc1).setRow (W.heap.size) (vals (withV s.seen e.r e.n))) rfl rfl rfl (store_vv ((lies_new W zeros).below hbc (by simp)) rfl hwl) ?_
      have hbF : Below W.heap.size W ((wc1).setRow (W.heap.size) (vals (withV s.seen e.r e.n))) := below_setRow hb2 (Nat.le_refl _) _
      refine hK.out _ _ hbF (fun hHeld => ?_)
      clear hK K
      simp only [Act.put]
      refine wpAnyH_take (i := 12) (oi := { dst := some 6, op := _, type := _, pos := _, after := _, guard := _ }) (v := .int .i64 (withE s.seen e.r e.n)) rfl (by kernel_rfl) (by kernel_rfl) (by kernel_rfl) (fun _ _ _ h => h) (Or.inl ⟨by rfl, ?_⟩) (by assumption) ?_
      · intro w9 hSw
        exact y_assign rfl rfl
      simp only [Act.put, List.setIfInBounds_toArray, List.set_cons_zero, List.set_cons_succ]
      refine wpAnyH_done (by kernel_rfl) ?_ _
      refine NoPanic.normal ?_
      clear hHeld
      go_wp2
      go_meet
      case rel => exact ⟨rfl, rfl, rfl, hRd.below hbF, HBd.out.trans (hbF.mono HBd.out.size)⟩
    case rest =>
      obtain ⟨rfl, rfl, rfl, HA⟩ := hcut
      have hR2 := HA.out.1
      have HB2 : Hid (Below w.heap.size w wc) := HA.out.2
      clear HA HB1 hR1
      have hbd : Below wc.heap.size wc wc.drew := (Below.refl _ wc).drew
      have hRd := hR2.below hbd
      have HB3 : Hid (Below w.heap.size w wc.drew) := HB2.out.trans (hbd.mono HB2.out.size)
      obtain ⟨x, hx⟩ : ∃ x, withE s.seen e.r e.n = x := ⟨_, rfl⟩
      have HX : Hid (withE s.seen e.r e.n = x) := hx
      rw [hx]
      clear hbd hR2 HB2
      by_cases h0 : x = 0
      · have hx0 : (x == 0) = true := by simpa using h0
        have hd0 : decide (x = 0) = true := by simpa using h0
        have HD0 : Hid (decide (x = 0) = true) := hd0
        have hjl := each_len hl16 he16
        clear h0 hd0 hx
        go_wp2_with fail
        refine wp_region_noPanic ?_
        refine wp_region_held_drew (S := fun W' : World => Rr Y g s B e W') (by kernel_rfl) hRd (fun hHeld => ?_)
        refine wpAnyH_take (i := 0) (oi := { dst := some 24, op := _, type := _, pos := _, after := _, guard := _ }) (v := .int .i64 x) rfl (by kernel_rfl) (by kernel_rfl) (by kernel_rfl) (fun _ _ _ h => h) (Or.inl ⟨by rfl, ?_⟩) (by assumption) ?_
        · intro w9 hSw
          exact y_move rfl rfl
        simp only [Act.put, List.setIfInBounds_toArray, List.set_cons_zero, List.set_cons_succ]
        refine wpAnyH_take (i := 1) (oi := { dst := some 25, op := _, type := _, pos := _, after := _, guard := _ }) (v := .bool true) rfl (by kernel_rfl) (by kernel_rfl) (by kernel_rfl) (fun _ _ _ h => h) (Or.inl ⟨by rfl, ?_⟩) (by assumption) ?_
        · intro w9 hSw
          exact exec_bin rfl rfl rfl (eqGuard_er _ _ _) (eql_er _ hx0)
        simp only [Act.put, List.setIfInBounds_toArray, List.set_cons_zero, List.set_cons_succ]
        refine wpAnyH_take (i := 2) (oi := { dst := some 26, op := _, type := _, pos := _, after := _, guard := _ }) (v := .bool true) rfl (by kernel_rfl) (by kernel_rfl) (by kernel_rfl) (fun _ _ _ h => h) (Or.inl ⟨by rfl, ?_⟩) (by assumption) ?_
        · intro w9 hSw
          exact y_move rfl rfl
        simp only [Act.put, List.setIfInBounds_toArray, List.set_cons_zero, List.set_cons_succ]
        refine wpAnyH_take (i := 3) (oi := { dst := some 27, op := _, type := _, pos := _, after := _, guard := _ }) (v := .pointer (some ⟨g, 0, none⟩)) rfl (by kernel_rfl) (by kernel_rfl) (by kernel_rfl) (fun _ _ _ h => h) (Or.inl ⟨by rfl, ?_⟩) (by assumption) ?_
        · intro w9 hSw
          exact y_move rfl rfl
        simp only [Act.put, List.setIfInBounds_toArray, List.set_cons_zero, List.set_cons_succ]
        refine wpAnyH_take (i := 4) (oi := { dst := some 28, op := _, type := _, pos := _, after := _, guard := _ }) (v := .pointer (some ⟨g, 0, none⟩)) rfl (by kernel_rfl) (by kernel_rfl) (by kernel_rfl) (fun _ _ _ h => h) (Or.inl ⟨by rfl, ?_⟩) (by assumption) ?_
        · intro w9 hSw
          exact y_nil rfl rfl
        simp only [Act.put, List.setIfInBounds_toArray, List.set_cons_zero, List.set_cons_succ]
        refine wpAnyH_take (i := 5) (oi := { dst := some 29, op := _, type := _, pos := _, after := _, guard := _ }) (v := .pointer (some ⟨g, 0, none⟩)) rfl (by kernel_rfl) (by kernel_rfl) (by kernel_rfl) (fun _ _ _ h => h) (Or.inl ⟨by rfl, ?_⟩) (by assumption) ?_
        · intro w9 hSw
          exact y_field rfl rfl (field_s0 _ _)
        simp only [Act.put, List.setIfInBounds_toArray, List.set_cons_zero, List.set_cons_succ]
        refine wpAnyH_take (i := 6) (oi := { dst := some 30, op := _, type := _, pos := _, after := _, guard := _ }) (v := .agg (vals s.seen)) rfl (by kernel_rfl) (by kernel_rfl) (by kernel_rfl) (fun _ _ _ h => h) (Or.inl ⟨by rfl, ?_⟩) (by assumption) ?_
        · intro w9 hSw
          exact y_load rfl rfl (load_seen hSw.sp)
        simp only [Act.put, List.setIfInBounds_toArray, List.set_cons_zero, List.set_cons_succ]
        refine wpAnyH_take (i := 7) (oi := { dst := some 31, op := _, type := _, pos := _, after := _, guard := _ }) (v := .pointer (some ⟨B, 3, none⟩)) rfl (by kernel_rfl) (by kernel_rfl) (by kernel_rfl) (fun _ _ _ h => h) (Or.inl ⟨by rfl, ?_⟩) (by assumption) ?_
        · intro w9 hSw
          exact y_field rfl rfl (field_ev2 _ _)
        simp only [Act.put, List.setIfInBounds_toArray, List.set_cons_zero, List.set_cons_succ]
        refine wpAnyH_take (i := 8) (oi := { dst := some 32, op := _, type := _, pos := _, after := _, guard := _ }) (v := .agg (vals e.deps)) rfl (by kernel_rfl) (by kernel_rfl) (by kernel_rfl) (fun _ _ _ h => h) (Or.inl ⟨by rfl, ?_⟩) (by assumption) ?_
        · intro w9 hSw
          exact y_load rfl rfl (load_dp hSw.ev he16)
        simp only [Act.put, List.setIfInBounds_toArray, List.set_cons_zero, List.set_cons_succ]
        refine wpAnyH_take (i := 10) (oi := { dst := some 34, op := _, type := _, pos := _, after := _, guard := _ }) (v := .pointer (some ⟨g, 0, none⟩)) rfl (by kernel_rfl) (by kernel_rfl) (by kernel_rfl) (fun _ _ _ h => h) (Or.inl ⟨by rfl, ?_⟩) (by assumption) ?_
        · intro w9 hSw
          exact y_move rfl rfl
        simp only [Act.put, List.setIfInBounds_toArray, List.set_cons_zero, List.set_cons_succ]
        refine wpAnyH_take (i := 11) (oi := { dst := some 35, op := _, type := _, pos := _, after := _, guard := _ }) (v := .pointer (some ⟨g, 0, none⟩)) rfl (by kernel_rfl) (by kernel_rfl) (by kernel_rfl) (fun _ _ _ h => h) (Or.inl ⟨by rfl, ?_⟩) (by assumption) ?_
        · intro w9 hSw
          exact y_nil rfl rfl
        simp only [Act.put, List.setIfInBounds_toArray, List.set_cons_zero, List.set_cons_succ]
        refine wpAnyH_take (i := 12) (oi := { dst := some 36, op := _, type := _, pos := _, after := _, guard := _ }) (v := .pointer (some ⟨g, 0, none⟩)) rfl (by kernel_rfl) (by kernel_rfl) (by kernel_rfl) (fun _ _ _ h => h) (Or.inl ⟨by rfl, ?_⟩) (by assumption) ?_
        · intro w9 hSw
          exact y_field rfl rfl (field_s0 _ _)
        simp only [Act.put, List.setIfInBounds_toArray, List.set_cons_zero, List.set_cons_succ]
        refine wpAnyH_take (i := 13) (oi := { dst := some 37, op := _, type := _, pos := _, after := _, guard := _ }) (v := .agg (vals s.seen)) rfl (by kernel_rfl) (by kernel_rfl) (by kernel_rfl) (fun _ _ _ h => h) (Or.inl ⟨by rfl, ?_⟩) (by assumption) ?_
        · intro w9 hSw
          exact y_load rfl rfl (load_seen hSw.sp)
        simp only [Act.put, List.setIfInBounds_toArray, List.set_cons_zero, List.set_cons_succ]
        clear hHeld
        refine wpAnyH_ready (rs := [9]) (by kernel_rfl) (by simp) ?_
        refine AllReadyH.cons (o := { dst := some 33, op := _, type := _, pos := _, after := _, guard := _ }) rfl (fun K hK => ?_) AllReadyH.nil
        rw [if_pos (by rfl)]
        refine y_call (f := 41) (xs := [.tmp 30, .tmp 32]) (vs := [.agg (vals s.seen), .agg (vals e.deps)]) rfl rfl (enters_join _ _) (join_any s.seen e.deps hl16 he16 wc.drew) ?_
        rintro ex w5 ⟨rfl, hb5⟩
        refine ⟨_, rfl, ?_⟩
        have HB5 : Hid (Below w.heap.size w w5) := HB3.out.trans (hb5.mono HB3.out.size)
        refine hK.out _ _ (hRd.below hb5) (fun hHeld => ?_)
        clear hK K
        simp only [Act.put, List.setIfInBounds_toArray, List.set_cons_zero, List.set_cons_succ]
        refine wpAnyH_take (i := 14) (oi := { dst := some 38, op := _, type := _, pos := _, after := _, guard := _ }) (v := .bool (decide (each max s.seen e.deps = s.seen))) rfl (by kernel_rfl) (by kernel_rfl) (by kernel_rfl) (fun _ _ _ h => h) (Or.inl ⟨by rfl, ?_⟩) (by assumption) ?_
        · intro w9 hSw
          exact exec_bin rfl rfl rfl (eqGuard_vv _ _ _) (run_eql_vec _ _ _ hjl hl16)
        simp only [Act.put, List.setIfInBounds_toArray, List.set_cons_zero, List.set_cons_succ]
        refine wpAnyH_take (i := 15) (oi := { dst := some 39, op := _, type := _, pos := _, after := _, guard := _ }) (v := .bool (decide (each max s.seen e.deps = s.seen))) rfl (by kernel_rfl) (by kernel_rfl) (by kernel_rfl) (fun _ _ _ h => h) (Or.inl ⟨by rfl, ?_⟩) (by assumption) ?_
        · intro w9 hSw
          exact exec_pick (b := true) rfl rfl rfl rfl
        simp only [Act.put, List.setIfInBounds_toArray, List.set_cons_zero, List.set_cons_succ]
        refine wpAnyH_take (i := 16) (oi := { dst := some 4, op := _, type := _, pos := _, after := _, guard := _ }) (v := .bool (decide (each max s.seen e.deps = s.seen))) rfl (by kernel_rfl) (by kernel_rfl) (by kernel_rfl) (fun _ _ _ h => h) (Or.inl ⟨by rfl, ?_⟩) (by assumption) ?_
        · intro w9 hSw
          exact y_assign rfl rfl
        simp only [Act.put, List.setIfInBounds_toArray, List.set_cons_zero, List.set_cons_succ]
        refine wpAnyH_done (by kernel_rfl) ?_ _
        refine NoPanic.normal ?_
        clear hHeld
        go_wp2
        go_ret
        exact ⟨by rw [HX.out, HD0.out, Bool.true_and]; rfl, HB5.out⟩
      · have hx0 : (x == 0) = false := by simpa using h0
        have hd0 : decide (x = 0) = false := by simpa using h0
        have HD0 : Hid (decide (x = 0) = false) := hd0
        clear h0 hd0 hx
        go_wp2_with fail
        refine wp_region_noPanic ?_
        refine wp_region_held_drew (S := fun W' : World => Rr Y g s B e W') (by kernel_rfl) hRd (fun hHeld => ?_)
        refine wpAnyH_take (i := 0) (oi := { dst := some 24, op := _, type := _, pos := _, after := _, guard := _ }) (v := .int .i64 x) rfl (by kernel_rfl) (by kernel_rfl) (by kernel_rfl) (fun _ _ _ h => h) (Or.inl ⟨by rfl, ?_⟩) (by assumption) ?_
        · intro w9 hSw
          exact y_move rfl rfl
        simp only [Act.put, List.setIfInBounds_toArray, List.set_cons_zero, List.set_cons_succ]
        refine wpAnyH_take (i := 1) (oi := { dst := some 25, op := _, type := _, pos := _, after := _, guard := _ }) (v := .bool false) rfl (by kernel_rfl) (by kernel_rfl) (by kernel_rfl) (fun _ _ _ h => h) (Or.inl ⟨by rfl, ?_⟩) (by assumption) ?_
        · intro w9 hSw
          exact exec_bin rfl rfl rfl (eqGuard_er _ _ _) (eql_er _ hx0)
        simp only [Act.put, List.setIfInBounds_toArray, List.set_cons_zero, List.set_cons_succ]
        refine wpAnyH_take (i := 2) (oi := { dst := some 26, op := _, type := _, pos := _, after := _, guard := _ }) (v := .bool false) rfl (by kernel_rfl) (by kernel_rfl) (by kernel_rfl) (fun _ _ _ h => h) (Or.inl ⟨by rfl, ?_⟩) (by assumption) ?_
        · intro w9 hSw
          exact y_move rfl rfl
        simp only [Act.put, List.setIfInBounds_toArray, List.set_cons_zero, List.set_cons_succ]
        refine wpAnyH_take (i := 3) (oi := { dst := some 27, op := _, type := _, pos := _, after := _, guard := _ }) (v := undef) rfl (by kernel_rfl) (by kernel_rfl) (by kernel_rfl) (fun _ _ _ h => h) (Or.inr ⟨by rfl, rfl⟩) (by assumption) ?_
        simp only [Act.put, List.setIfInBounds_toArray, List.set_cons_zero, List.set_cons_succ]
        refine wpAnyH_take (i := 4) (oi := { dst := some 28, op := _, type := _, pos := _, after := _, guard := _ }) (v := undef) rfl (by kernel_rfl) (by kernel_rfl) (by kernel_rfl) (fun _ _ _ h => h) (Or.inr ⟨by rfl, rfl⟩) (by assumption) ?_
        simp only [Act.put, List.setIfInBounds_toArray, List.set_cons_zero, List.set_cons_succ]
        refine wpAnyH_take (i := 5) (oi := { dst := some 29, op := _, type := _, pos := _, after := _, guard := _ }) (v := undef) rfl (by kernel_rfl) (by kernel_rfl) (by kernel_rfl) (fun _ _ _ h => h) (Or.inr ⟨by rfl, rfl⟩) (by assumption) ?_
        simp only [Act.put, List.setIfInBounds_toArray, List.set_cons_zero, List.set_cons_succ]
        refine wpAnyH_take (i := 6) (oi := { dst := some 30, op := _, type := _, pos := _, after := _, guard := _ }) (v := undef) rfl (by kernel_rfl) (by kernel_rfl) (by kernel_rfl) (fun _ _ _ h => h) (Or.inr ⟨by rfl, rfl⟩) (by assumption) ?_
        simp only [Act.put, List.setIfInBounds_toArray, List.set_cons_zero, List.set_cons_succ]
        refine wpAnyH_take (i := 7) (oi := { dst := some 31, op := _, type := _, pos := _, after := _, guard := _ }) (v := undef) rfl (by kernel_rfl) (by kernel_rfl) (by kernel_rfl) (fun _ _ _ h => h) (Or.inr ⟨by rfl, rfl⟩) (by assumption) ?_
        simp only [Act.put, List.setIfInBounds_toArray, List.set_cons_zero, List.set_cons_succ]
        refine wpAnyH_take (i := 8) (oi := { dst := some 32, op := _, type := _, pos := _, after := _, guard := _ }) (v := undef) rfl (by kernel_rfl) (by kernel_rfl) (by kernel_rfl) (fun _ _ _ h => h) (Or.inr ⟨by rfl, rfl⟩) (by assumption) ?_
        simp only [Act.put, List.setIfInBounds_toArray, List.set_cons_zero, List.set_cons_succ]
        refine wpAnyH_take (i := 9) (oi := { dst := some 33, op := _, type := _, pos := _, after := _, guard := _ }) (v := undef) rfl (by kernel_rfl) (by kernel_rfl) (by kernel_rfl) (fun _ _ _ h => h) (Or.inr ⟨by rfl, rfl⟩) (by assumption) ?_
        simp only [Act.put, List.setIfInBounds_toArray, List.set_cons_zero, List.set_cons_succ]
        refine wpAnyH_take (i := 10) (oi := { dst := some 34, op := _, type := _, pos := _, after := _, guard := _ }) (v := undef) rfl (by kernel_rfl) (by kernel_rfl) (by kernel_rfl) (fun _ _ _ h => h) (Or.inr ⟨by rfl, rfl⟩) (by assumption) ?_
        simp only [Act.put, List.setIfInBounds_toArray, List.set_cons_zero, List.set_cons_succ]
        refine wpAnyH_take (i := 11) (oi := { dst := some 35, op := _, type := _, pos := _, after := _, guard := _ }) (v := undef) rfl (by kernel_rfl) (by kernel_rfl) (by kernel_rfl) (fun _ _ _ h => h) (Or.inr ⟨by rfl, rfl⟩) (by assumption) ?_
        simp only [Act.put, List.setIfInBounds_toArray, List.set_cons_zero, List.set_cons_succ]
        refine wpAnyH_take (i := 12) (oi := { dst := some 36, op := _, type := _, pos := _, after := _, guard := _ }) (v := undef) rfl (by kernel_rfl) (by kernel_rfl) (by kernel_rfl) (fun _ _ _ h => h) (Or.inr ⟨by rfl, rfl⟩) (by assumption) ?_
        simp only [Act.put, List.setIfInBounds_toArray, List.set_cons_zero, List.set_cons_succ]
        refine wpAnyH_take (i := 13) (oi := { dst := some 37, op := _, type := _, pos := _, after := _, guard := _ }) (v := undef) rfl (by kernel_rfl) (by kernel_rfl) (by kernel_rfl) (fun _ _ _ h => h) (Or.inr ⟨by rfl, rfl⟩) (by assumption) ?_
        simp only [Act.put, List.setIfInBounds_toArray, List.set_cons_zero, List.set_cons_succ]
        refine wpAnyH_take (i := 14) (oi := { dst := some 38, op := _, type := _, pos := _, after := _, guard := _ }) (v := undef) rfl (by kernel_rfl) (by kernel_rfl) (by kernel_rfl) (fun _ _ _ h => h) (Or.inr ⟨by rfl, rfl⟩) (by assumption) ?_
        simp only [Act.put, List.setIfInBounds_toArray, List.set_cons_zero, List.set_cons_succ]
        refine wpAnyH_take (i := 15) (oi := { dst := some 39, op := _, type := _, pos := _, after := _, guard := _ }) (v := .bool false) rfl (by kernel_rfl) (by kernel_rfl) (by kernel_rfl) (fun _ _ _ h => h) (Or.inl ⟨by rfl, ?_⟩) (by assumption) ?_
        · intro w9 hSw
          exact exec_pick (b := false) rfl rfl rfl rfl
        simp only [Act.put, List.setIfInBounds_toArray, List.set_cons_zero, List.set_cons_succ]
        refine wpAnyH_take (i := 16) (oi := { dst := some 4, op := _, type := _, pos := _, after := _, guard := _ }) (v := .bool false) rfl (by kernel_rfl) (by kernel_rfl) (by kernel_rfl) (fun _ _ _ h => h) (Or.inl ⟨by rfl, ?_⟩) (by assumption) ?_
        · intro w9 hSw
          exact y_assign rfl rfl
        simp only [Act.put, List.setIfInBounds_toArray, List.set_cons_zero, List.set_cons_succ]
        refine wpAnyH_done (by kernel_rfl) ?_ _
        refine NoPanic.normal ?_
        clear hHeld
        go_wp2
        go_ret
        exact ⟨by rw [HX.out, HD0.out, Bool.false_and]; rfl, HB3.out⟩
end Go.Proofs.YthlebgioamcioabGreat

/-
  What Apply, VV and New come to.
-/
namespace Go.Proofs.YthlebgioamcioabGreat
set_option maxRecDepth 100000
open Go.RowKit

/-- The error. -/
def applyE (s : St) (e : Ev) : Int := if okev e then (if readyE s e then 0 else 11) else 1
def applyS (s : St) (e : Ev) : St := if readyE s e then seeE s e else s
theorem max_get {a b : List Int} (la : a.length = 16) (lb : b.length = 16) (h : each max a b = a) (k : Nat) : b.getD k 0 ≤ a.getD k 0 ∨ 16 ≤ k := by
  by_cases hk : k < 16
  · left
    have h1 : (each max a b)[k]? = a[k]? := by rw [h]
    have hka : k < a.length := by omega
    have hkb : k < b.length := by omega
    rw [each, List.getElem?_zipWith, List.getElem?_eq_getElem hka, List.getElem?_eq_getElem hkb] at h1
    simp only [Option.some.injEq] at h1
    rw [List.getD_eq_getElem?_getD, List.getD_eq_getElem?_getD, List.getElem?_eq_getElem hka, List.getElem?_eq_getElem hkb]
    simp only [Option.getD_some]
    omega
  · right; omega
theorem with_zero {v : List Int} {r n : Int} (h : withE v r n = 0) : okdot r n = true ∧ n = v.getD r.toNat 0 + 1 := by
  unfold withE at h
  split at h
  · rename_i h1
    rw [Bool.and_eq_true] at h1
    split at h
    · rename_i h2
      exact ⟨h1.2, h2⟩
    · cases h
  · cases h
theorem ready_rdy {s : St} {e : Ev} (hw : Wide e) (h : readyE s e = true) : Rdy s e := by
  unfold readyE at h
  simp only [Bool.and_eq_true, decide_eq_true_eq] at h
  obtain ⟨-, h2, -⟩ := h
  obtain ⟨h3, h4⟩ := with_zero h2
  have h5 := of_decide_eq_true (show decide _ = true from h3)
  refine ⟨hw, by omega, by omega, ?_⟩
  unfold hasv
  rw [h3, Bool.true_and]
  simp only [decide_eq_false_iff_not]
  omega
theorem hasv_iff {v : List Int} {r n : Int} : hasv v r n = true ↔ okdot r n = true ∧ n ≤ v.getD r.toNat 0 := by
  unfold hasv
  simp
theorem okdot_iff {r n : Int} : okdot r n = true ↔ 0 ≤ r ∧ r < 16 ∧ 1 ≤ n ∧ n ≤ 1048576 := by
  unfold okdot
  simp
theorem getD_set {v : List Int} {k j : Nat} {x : Int} (_hk : k < v.length) : (v.set k x).getD j 0 = if k = j then x else v.getD j 0 := by
  rw [List.getD_eq_getElem?_getD, List.getD_eq_getElem?_getD, List.getElem?_set]
  split
  · rename_i e
    subst e
    simp
  · rfl
theorem inv_see {s : St} {e : Ev} (hI : Inv s) (hw : Wide e) (h : readyE s e = true) : Inv (seeE s e) := by
  have hR := ready_rdy hw h
  have h' := h
  unfold readyE at h'
  simp only [Bool.and_eq_true, decide_eq_true_eq] at h'
  obtain ⟨hd, hn⟩ := with_zero h'.2.1
  have hd' := okdot_iff.1 hd
  have hlen := hI.len
  have hmono : ∀ r n, hasv s.seen r n = true → hasv (s.seen.set e.r.toNat e.n) r n = true := fun r n hh => by
    rw [hasv_iff] at hh ⊢
    refine ⟨hh.1, ?_⟩
    rw [getD_set (by omega)]
    split
    · rename_i e1
      rw [← e1] at hh
      omega
    · exact hh.2
  have hself : hasv (s.seen.set e.r.toNat e.n) e.r e.n = true := by
    rw [hasv_iff]
    refine ⟨hd, ?_⟩
    rw [getD_set (by omega), if_pos rfl]
    exact Int.le_refl _
  have hnd := hI.noDot hR
  obtain ⟨-, -, k3, k4, -, -⟩ := keys1 (e := e) hI
  have hDL : ∀ d ∈ deadTo e s.L s.DL, (∃ a ∈ s.L, d = ⟨a, e.r, e.n⟩ ∧ fell e a = true) ∨ d ∈ s.DL := by
    suffices hh : ∀ (L : List Ev) (DL : List Ed), ∀ d ∈ deadTo e L DL, (∃ a ∈ L, d = ⟨a, e.r, e.n⟩ ∧ fell e a = true) ∨ d ∈ DL from hh s.L s.DL
    intro L
    induction L with
    | nil => exact fun DL d hd => .inr hd
    | cons a L ih =>
      intro DL d hd
      have hd2 : d ∈ deadTo e L (if fell e a then putD DL ⟨a, e.r, e.n⟩ else DL) := hd
      rcases ih _ d hd2 with ⟨b, hb, q⟩ | h1
      · exact .inl ⟨b, by simp [hb], q⟩
      · split at h1
        · rename_i hf
          rcases mem_putD h1 with rfl | h1
          · exact .inl ⟨a, by simp, rfl, hf⟩
          · exact .inr h1
        · exact .inr h1
  have hmem : ∀ a ∈ (seeE s e).L, a = e ∨ (a ∈ s.L ∧ endsE e a = false) := fun a ha => by
    unfold seeE at ha
    simp only at ha
    split at ha
    · rcases mem_putE ha with rfl | h1
      · exact .inl rfl
      · obtain ⟨q1, q2⟩ := List.mem_filter.1 h1
        exact .inr ⟨q1, by simpa using q2⟩
    · obtain ⟨q1, q2⟩ := List.mem_filter.1 ha
      exact .inr ⟨q1, by simpa using q2⟩
  refine ⟨by show (s.seen.set _ _).length = 16; rw [List.length_set]; exact hlen, fun a ha => ?_, fun d hd1 => ?_, fun a ha d hd1 => ?_, ?_, k4⟩
  · rcases hmem a ha with rfl | ⟨h1, -⟩
    · exact hself
    · exact hmono _ _ (hI.seenL a h1)
  · rcases hDL d hd1 with ⟨a, ha, rfl, -⟩ | h1
    · exact hmono _ _ (hI.seenL a ha)
    · exact hmono _ _ (hI.seenD d h1)
  · rcases hDL d hd1 with ⟨b, hb, rfl, hf⟩ | h1
    · rcases hmem a ha with rfl | ⟨h2, h3⟩
      · exact hnd b hb
      · intro hs
        have := hI.srL.same hb h2 hs.1 hs.2
        subst this
        unfold fell at hf
        rw [h3] at hf
        cases hf
    · rcases hmem a ha with rfl | ⟨h2, -⟩
      · intro hs
        have := hI.seenD d h1
        rw [hs.1, hs.2, hR.new] at this
        cases this
      · exact hI.apart a h2 d h1
  · unfold seeE
    simp only
    split
    · exact k3.put e
    · exact k3
set_option maxHeartbeats 1000000 in
theorem apply_any (Y : Lay) (w : World) (g : Nat) (s : St) (e : Ev) (hS : SpK Y w g s none) (hI : Inv s) (hw : Wide e) (hl : s.L.length ≤ 1048576) :
    Calls Tryz.prog 11 #[.pointer (some ⟨g, 0, none⟩), .agg (evc e)] w fun ex w' => ex = .returned (.int .i64 (applyE s e)) ∧ ∃ Y', SpK Y' w' g (applyS s e) none ∧ Tm g Y Y' w w' := by
  have he16 := hw.1
  have hb0 : Below w.heap.size w (w.alloc (.cells (evc e) 29)) := (Below.refl _ w).alloc (Nat.le_refl _) _
  have hE0 := liesE_new w e
  have hS0 := hS.below hb0 (Nat.le_refl _)
  have T0 : Hid (Tm g Y Y w (w.alloc (.cells (evc e) 29))) := Tm.of_below Y hb0
  generalize hW0 : w.alloc (.cells (evc e) 29) = W0 at *
  have hOk := eright_any e he16 hw.2 W0
  have he := eql_ps W0 ⟨g, 0, none⟩
  have HS0 : Hid _ := hS0
  clear hS hb0 hS0
  unfold applyE applyS
  cases hok : okev e
  · have hre : readyE s e = false := by unfold readyE; rw [hok]; rfl
    rw [hok] at hOk
    rw [hre]
    simp only [Bool.false_eq_true, if_false]
    go_enter Tryz.func11, Tryz.ntmps11
    go_wp2_with (first | refine load_ev rfl rfl rfl hE0 he16 ?_)
    refine Calls.mono hOk ?_
    rintro ex w1 ⟨rfl, hb1⟩
    have FIN : Hid (SpK Y w1 g s none ∧ Tm g Y Y w w1) := ⟨HS0.out.below hb1 (Nat.le_refl _), T0.out.trans (Tm.of_below Y hb1)⟩
    clear hE0 hb1 hOk
    go_wp2
    go_ret
    exact ⟨rfl, Y, FIN.out⟩
  · rw [hok] at hOk
    simp only [if_true]
    cases hre : readyE s e
    · simp only [Bool.false_eq_true, if_false]
      go_enter Tryz.func11, Tryz.ntmps11
      go_wp2_with (first | refine load_ev rfl rfl rfl hE0 he16 ?_)
      refine Calls.mono hOk ?_
      rintro ex w1 ⟨rfl, hb1⟩
      have hE1 := hE0.below hb1 hE0.lt
      have hS1 := HS0.out.below hb1 (Nat.le_refl _)
      have HT1 : Hid (Tm g Y Y w w1) := T0.out.trans (Tm.of_below Y hb1)
      have hRe := ready_any Y w1 g s e hS1 hw
      have HS1 : Hid _ := hS1
      clear hE0 hb1 hOk T0 HS0 hS1 he
      rw [hre] at hRe
      go_wp2_with (first | refine load_ev rfl rfl rfl hE1 he16 ?_)
      refine Calls.mono hRe ?_
      rintro ex w2 ⟨rfl, hb2⟩
      have FIN : Hid (SpK Y w2 g s none ∧ Tm g Y Y w w2) := ⟨HS1.out.below hb2 (Nat.le_refl _), HT1.out.trans (Tm.of_below Y hb2)⟩
      clear hE1 hb2 hRe hre
      go_wp2
      go_ret
      exact ⟨rfl, Y, FIN.out⟩
    · simp only [if_true]
      go_enter Tryz.func11, Tryz.ntmps11
      go_wp2_with (first | refine load_ev rfl rfl rfl hE0 he16 ?_)
      refine Calls.mono hOk ?_
      rintro ex w1 ⟨rfl, hb1⟩
      have hE1 := hE0.below hb1 hE0.lt
      have hS1 := HS0.out.below hb1 (Nat.le_refl _)
      have HT1 : Hid (Tm g Y Y w w1) := T0.out.trans (Tm.of_below Y hb1)
      have hRe := ready_any Y w1 g s e hS1 hw
      have HS1 : Hid _ := hS1
      clear hE0 hb1 hOk T0 HS0 hS1 he
      rw [hre] at hRe
      go_wp2_with (first | refine load_ev rfl rfl rfl hE1 he16 ?_)
      refine Calls.mono hRe ?_
      rintro ex w2 ⟨rfl, hb2⟩
      have hE2 := hE1.below hb2 hE1.lt
      have hSe := see_any Y w2 g s e (HS1.out.below hb2 (Nat.le_refl _)) hI (ready_rdy hw hre) hl
      have HT2 : Hid (Tm g Y Y w w2) := HT1.out.trans (Tm.of_below Y hb2)
      clear hE1 hb2 hRe HS1 HT1 hre
      go_wp2_with (first | refine load_ev rfl rfl rfl hE2 he16 ?_)
      refine Calls.mono hSe ?_
      rintro ex w3 ⟨rfl, Y3, hS3, ht3⟩
      have FIN : Hid (SpK Y3 w3 g (seeE s e) none ∧ Tm g Y Y3 w w3) := ⟨hS3, HT2.out.trans ht3⟩
      clear hE2 hSe hS3 ht3
      go_wp2
      go_ret
      exact ⟨rfl, Y3, FIN.out⟩
def st0 : St := ⟨zeros, 0, [], []⟩
def lay0 : Lay := ⟨none, [], fun _ => none, fun _ => none, fun _ => none⟩
theorem inv0 : Inv st0 := ⟨rfl, by simp [st0], by simp [st0], by simp [st0], List.Pairwise.nil, List.Pairwise.nil⟩
theorem sp_new (w : World) : SpK lay0 (w.alloc (.cells (spc st0 none) 36)) w.heap.size st0 none :=
  ⟨heap_alloc_new w _, rfl, .inl ⟨rfl, rfl⟩, by simp [lay0], fun k _ => by simp [lay0, st0, ofKeyE, ofKeyD], rfl, by simp [lay0], by simp [lay0], by simp [lay0], List.Pairwise.nil, List.Pairwise.nil, by simp [st0], by simp [st0]⟩
theorem above_new (w : World) : Above w.heap.size w.heap.size lay0 := ⟨Nat.le_refl _, by simp [lay0], by simp [lay0]⟩
theorem new_any (w : World) : Calls Tryz.prog 18 #[] w fun e w' => e = .returned (.pointer (some ⟨w.heap.size, 0, none⟩)) ∧ w' = w.alloc (.cells (spc st0 none) 36) := by
  go_enter Tryz.func18, Tryz.ntmps18
  go_wp2
  go_ret
  exact ⟨rfl, rfl⟩
theorem sorz_some (g : Nat) (w : World) : Calls Tryz.prog 43 #[.pointer (some ⟨g, 0, none⟩)] w fun e w' => e = .returned (.pointer (some ⟨g, 0, none⟩)) ∧ w' = w := by
  go_enter Tryz.func43, Tryz.ntmps43
  go_wp2
  go_ret
  exact ⟨rfl, rfl⟩
end Go.Proofs.YthlebgioamcioabGreat

/-
  What putNumber and putEvent of a space's text come to.
-/
namespace Go.Proofs.YthlebgioamcioabGreat
set_option maxRecDepth 100000
open Go.RowKit

/-- A list of bytes of the program's own. -/
abbrev BR (w : World) (base : Nat) (v : Value) (l : List UInt8) : Prop := w.ownsRow base 5 1 v l.length (bs l)
theorem BR.val {w : World} {base : Nat} {v : Value} {l : List UInt8} (h : BR w base v l) : ∃ ao cap, v = .slice ao l.length cap ∧ cap ≤ maxLen := by
  rcases h.2 with ⟨rfl, h0⟩ | ⟨g, cap, cur, rfl, hbg, hg, hn, hc, rest⟩
  · exact ⟨none, 0, by rw [h0], Nat.zero_le _⟩
  · exact ⟨_, cap, rfl, hc⟩
theorem BR.below {w w' : World} {base : Nat} {v : Value} {l : List UInt8} (h : BR w base v l) (hb : Below w.heap.size w w') : BR w' base v l := own_below h hb
theorem br_nil (w : World) (base : Nat) : BR w base (.slice none 0 0) [] := World.ownsRow_nil w base _ _
theorem BR.cellsAt {w : World} {base : Nat} {v : Value} {l : List UInt8} (h : BR w base v l) : ∀ k, v.ownBlock = some k → base ≤ k ∧ k < w.heap.size ∧ ∃ cur, w.heap[k]? = some (.cells cur 5 (0, 0)) := by
  intro k hk
  rcases h.2 with ⟨rfl, -⟩ | ⟨g, cap, cur, rfl, hbg, hg, -⟩
  · cases hk
  · obtain rfl : g = k := by simpa [Value.ownBlock] using hk
    exact ⟨hbg, (Array.getElem?_eq_some_iff.1 hg).1, cur, hg⟩
/-- 'append' of bytes. -/
theorem br_app {w : World} (ty : TypeId) (base : Nat) (v : Value) (l : List UInt8) (hown : BR w base v l) (ad : Addr) (n c : Nat) (x : List UInt8) (hx : Bytes w (some ad) n c x) (hnm : l.length + n ≤ 1099511627776) (hbase : base ≤ w.heap.size) :
    ∃ v' w', (Builtin.append_ #[106, 106] ty #[v, .slice (some ad) n c]).run Tryz.prog w = .ok v' w' ∧ BR w' base v' (l ++ x) ∧ w.grownBy w' v.ownBlock := by
  obtain ⟨i0, hi, hz0, hz1, hz2⟩ := info_parts info5
  have hxl := hx.len
  obtain ⟨v', w', hr, h2, h3, -⟩ := run_append_own (P := Tryz.prog) w base 106 ty 5 i0 (.int .u8 0) 1 i0.bytes Tryz.underlying106 hi hz0 hz1 rfl rfl (by omega) v l.length (bs l) hown ad n c (bs x) (by rw [bs_length]; omega) (hx.cells ad rfl) (bs_oneCell x) (by unfold maxLen; omega) (by rw [hz2]; omega) hbase
  exact ⟨v', w', hr, by rw [BR, bs_append, List.length_append, hxl]; exact h2, h3⟩
theorem wpList_appR {ops : Array Oper} {rest : List Oper} {o : Oper} {a : Act} {w : World} {Q : Exit → Act → World → Prop} (hg : o.guard = none) (s x : Operand) (T : TypeId) (hop : o.op = Op.call { callee := Callee.builtin Builtin.append, args := #[s, x], argTypes := #[T, T] })
    (v y v' : Value) (w' : World) (hs : a.eval s = v) (hx : a.eval x = y) (hr : (Builtin.append_ #[T, T] o.type #[v, y]).run Tryz.prog w = .ok v' w') (hK : wpList Tryz.prog ops Q rest (a.put o.dst v') w') : wpList Tryz.prog ops Q (o :: rest) a w :=
  wpList_plain hg fun K hK' => by
    unfold Oper.wp execOp
    simp only [hop, resolve, invoke, builtin, Sem.run_bind, Sem.run_pure, Result.andThen_ok, List.map_toArray, List.map_cons, List.map_nil, hs, hx, hr]
    exact hK' _ _ hK
theorem grown_bel {a b c : World} {row : Option Nat} (hb : Below a.heap.size a b) (h : b.grownBy c row) : a.grownBy c row :=
  ⟨h.os.trans hb.os, h.tape.trans hb.tape, h.output.trans hb.output, Nat.le_trans hb.size h.size, fun k hk hne => (h.block k (Nat.lt_of_lt_of_le hk hb.size) hne).trans (hb.block k hk)⟩
set_option maxHeartbeats 1000000 in
theorem sputnum_any (base : Nat) (v : Value) (l : List UInt8) (x : Int) (w : World) (hR : BR w base v l) (hb : base ≤ w.heap.size) (hm : l.length ≤ 1000000000) (hx : Nn x) :
    Calls Tryz.prog 53 #[v, .int .i64 x] w fun e w' => ∃ v', e = .returned v' ∧ BR w' base v' (l ++ nm x) ∧ w.grownBy w' v.ownBlock := by
  obtain ⟨h0, h1⟩ := hx
  obtain ⟨k, rfl⟩ : ∃ k : Nat, x = (k : Int) := ⟨x.toNat, by omega⟩
  have hl := nm_le (k : Int)
  have hk : k < 18446744073709551616 := by omega
  have HC : Hid _ := put_any none 0 0 [] k w (Bytes.nil w) (by omega) hk
  have HW := Vq.wd_le k
  have HE : Hid ([] ++ Vq.num k = nm (k : Int)) := rfl
  obtain ⟨ao, cap, hv, -⟩ := hR.val
  have HR : Hid (BR w base v l) := hR
  have HV : Hid (v = .slice ao l.length cap) := hv
  clear hR
  rw [hv]
  clear hv
  obtain ⟨n0, hn0⟩ : ∃ n0, l.length = n0 := ⟨_, rfl⟩
  have HN0 : Hid (l.length = n0) := hn0
  rw [hn0] at hm ⊢
  clear hn0
  go_enter Tryz.func53, Tryz.ntmps53
  go_wp2_with fail
  refine Calls.mono HC.out ?_
  rintro e w1 ⟨g, rfl, ho, hb1⟩
  rw [Nat.zero_add] at ho ⊢
  have hBy := Bytes.own ho
  rw [HE.out] at hBy
  have hR1 : BR w1 base (.slice ao n0 cap) l := by
    have := HR.out
    rw [HV.out, HN0.out] at this
    exact BR.below this hb1
  obtain ⟨v', w', hr, h2, h3⟩ := br_app 106 base _ l hR1 _ _ _ _ hBy (by rw [HN0.out]; omega) (Nat.le_trans hb hb1.size)
  have FIN : Hid (BR w' base v' (l ++ nm (k : Int)) ∧ w.grownBy w' (Value.slice ao n0 cap).ownBlock) := ⟨h2, grown_bel hb1 h3⟩
  clear h2 h3 hR1 ho hBy HC
  generalize Vq.wd k = d at *
  go_wp2_with (first | (refine wpList_appR rfl (.tmp 5) (.tmp 8) 106 rfl (.slice ao n0 cap) (.slice (some ⟨g, 0, none⟩) d d) v' w' rfl rfl hr ?_))
  go_ret
  exact ⟨_, rfl, FIN.out⟩
theorem optLe (c : Bool) (s : List UInt8) : (opt c s).length ≤ s.length := by
  unfold opt
  split <;> simp
theorem tmLe (s : List UInt8) : (tm s).length ≤ 10 + s.length := by
  unfold tm
  rw [List.length_append, Vq.num_length]
  have := Vq.wd_le s.length
  omega
theorem imLe (x : Int) : (im x).length ≤ 10 := by
  unfold im
  rw [Vq.num_length]
  exact Vq.wd_le _
theorem evb_small {e : Ev} (hl : e.deps.length = 16) (h : okev e = true) : (evb e).length ≤ 1000 := by
  have hf := okev_fits hl h
  have h1 := ns_len e.deps
  have h2 := tmLe e.key
  have h3 := Nat.le_trans (optLe (usesF e.kind) (tm e.field)) (tmLe e.field)
  have h4 := Nat.le_trans (optLe (usesV e.kind) (tm e.value)) (tmLe e.value)
  have h5 := Nat.le_trans (optLe (usesN e.kind) (im e.num)) (imLe e.num)
  have h6 := optLe (usesR e.kind) (nm e.rr ++ nm e.rn)
  rw [List.length_append] at h6
  have a1 := nm_le e.r
  have a2 := nm_le e.n
  have a3 := nm_le e.t
  have a4 := nm_le e.kind
  have a5 := nm_le e.rr
  have a6 := nm_le e.rn
  have b1 := hf.key
  have b2 := hf.field.1
  have b3 := hf.value.1
  unfold evb
  simp only [List.length_append] at *
  omega
theorem conv_by {w : World} {ad : Addr} {cap : Nat} {l : List UInt8} (h : Bytes w (some ad) l.length cap l) : (convert 106 9 (.slice (some ad) l.length cap)).run Tryz.prog w = .ok (.string (sb l)) w := by
  refine run_convert_bytes_back w 106 9 5 ad cap l Tryz.underlying106 Tryz.underlying5 Tryz.underlying9 ?_
  intro j hj
  refine h.cells _ rfl j _ ?_
  simp [bs, hj]
set_option maxHeartbeats 1000000 in
theorem sputev_any (base : Nat) (v : Value) (l : List UInt8) (e : Ev) (w : World) (hR : BR w base v l) (hb : base ≤ w.heap.size) (hm : l.length ≤ 1000000000) (hw : Wide e) (hok : okev e = true) :
    Calls Tryz.prog 56 #[v, .agg (evc e)] w fun ex w' => ∃ v', ex = .returned v' ∧ BR w' base v' (l ++ tm (evb e)) ∧ w.grownBy w' v.ownBlock := by
  have he16 := hw.1
  have hsm := evb_small he16 hok
  have hb0 : Below w.heap.size w (w.alloc (.cells (evc e) 29)) := (Below.refl _ w).alloc (Nat.le_refl _) _
  have hE0 := liesE_new w e
  generalize hW0 : w.alloc (.cells (evc e) 29) = W0 at *
  have hEn := encode_ok e he16 hw.2 hok W0
  obtain ⟨ao, cap, hv, -⟩ := hR.val
  have HR : Hid (BR w base v l) := hR
  have HV : Hid (v = .slice ao l.length cap) := hv
  have HB0 : Hid (Below w.heap.size w W0) := hb0
  clear hR hb0
  rw [hv]
  clear hv
  obtain ⟨n0, hn0⟩ : ∃ n0, l.length = n0 := ⟨_, rfl⟩
  have HN0 : Hid (l.length = n0) := hn0
  rw [hn0] at hm ⊢
  clear hn0
  have HT : Hid ([] ++ Vq.num (sb (evb e)).size ++ (sb (evb e)).data.toList = tm (evb e)) := by
    show _ = _
    rw [sb_size, data_sb, List.nil_append]
    rfl
  generalize evb e = x at *
  obtain ⟨n1, hn1⟩ : ∃ n1, x.length = n1 := ⟨_, rfl⟩
  have HN1 : Hid (x.length = n1) := hn1
  rw [hn1] at hsm hEn
  go_enter Tryz.func56, Tryz.ntmps56
  go_wp2_with (first | refine load_ev rfl rfl rfl hE0 he16 ?_)
  refine Calls.mono hEn ?_
  rintro ex w1 ⟨g, c, rfl, hBy, -, hb1⟩
  have HB1 : Hid (Below w.heap.size w w1) := HB0.out.trans (hb1.mono HB0.out.size)
  have hcv := conv_by (l := x) (by rw [hn1]; exact hBy)
  rw [hn1] at hcv
  have hPt := puttext_any none 0 0 [] (sb x) w1 (Bytes.nil w1) (by omega) (by rw [sb_size]; omega)
  have hsz : (sb x).size = n1 := by rw [sb_size]; exact hn1
  rw [HT.out, hsz] at hPt
  clear hE0 hEn hBy hb1 hn1 hsz HB0
  go_wp2_with fail
  refine Calls.mono hPt ?_
  rintro ex w2 ⟨g2, c2, rfl, ho2, hb2, -⟩
  rw [Nat.zero_add] at ho2 ⊢
  have HB2 : Below w.heap.size w w2 := HB1.out.trans (hb2.mono HB1.out.size)
  have hBy2 := Bytes.own ho2
  have hR2 : BR w2 base (.slice ao n0 cap) l := by
    have := HR.out
    rw [HV.out, HN0.out] at this
    exact BR.below this HB2
  have hW := Vq.wd_le n1
  obtain ⟨v', w', hr, h2, h3⟩ := br_app 106 base _ l hR2 _ _ _ _ hBy2 (by rw [HN0.out]; omega) (Nat.le_trans hb HB2.size)
  have FIN : Hid (BR w' base v' (l ++ tm x) ∧ w.grownBy w' (Value.slice ao n0 cap).ownBlock) := ⟨h2, grown_bel HB2 h3⟩
  clear h2 h3 hR2 ho2 hBy2 hPt hcv hb2
  generalize Vq.wd n1 + n1 = d at *
  go_wp2_with (first | (refine wpList_appR rfl (.tmp 12) (.tmp 15) 106 rfl (.slice ao n0 cap) (.slice (some ⟨g2, 0, none⟩) d c2) v' w' rfl rfl hr ?_))
  go_ret
  exact ⟨_, rfl, FIN.out⟩
end Go.Proofs.YthlebgioamcioabGreat

/-
  What Encode comes to.
-/
namespace Go.Proofs.YthlebgioamcioabGreat
set_option maxRecDepth 100000
open Go.RowKit

/-- A space's text. -/
def deadB (d : Ed) : List UInt8 := nm d.br ++ (nm d.bn ++ tm (evb d.push))
def liveB (a : Ev) : List UInt8 := tm (evb a)
def encS (s : St) : List UInt8 := (((ns s.seen ++ nm s.time) ++ nm (s.L.length : Int)) ++ s.L.flatMap liveB) ++ nm (s.DL.length : Int) ++ s.DL.flatMap deadB
/-- What the text needs. -/
structure Inv2 (s : St) : Prop where
  seen : ∀ x ∈ s.seen, Nn x
  time : Nn s.time
  okL : ∀ a ∈ s.L, okev a = true
  okD : ∀ d ∈ s.DL, okev d.push = true ∧ Nn d.br ∧ Nn d.bn
theorem inv20 : Inv2 st0 := by
  refine ⟨fun x hx => ?_, ⟨by decide, by decide⟩, by simp [st0], by simp [st0]⟩
  have : x = 0 := by
    unfold st0 zeros at hx
    exact List.eq_of_mem_replicate hx
  rw [this]
  exact ⟨by decide, by decide⟩
theorem inv2_see {s : St} {e : Ev} (h2 : Inv2 s) (hw : Wide e) (h : readyE s e = true) : Inv2 (seeE s e) := by
  have hok : okev e = true := by
    unfold readyE at h
    rw [Bool.and_eq_true] at h
    exact h.1
  have hf := okev_fits hw.1 hok
  refine ⟨fun x hx => ?_, ?_, fun a ha => ?_, fun d hd => ?_⟩
  · rcases List.mem_or_eq_of_mem_set hx with h1 | h1
    · exact h2.seen x h1
    · rw [h1]; exact hf.n
  · have a := h2.time
    have b := hf.t
    show Nn (max s.time e.t)
    unfold Nn at *
    omega
  · unfold seeE at ha
    simp only at ha
    split at ha
    · rcases mem_putE ha with rfl | h1
      · exact hok
      · exact h2.okL a (List.mem_filter.1 h1).1
    · exact h2.okL a (List.mem_filter.1 ha).1
  · rcases mem_dead _ _ hd with ⟨a, ha, rfl⟩ | h1
    · exact ⟨h2.okL a ha, hf.r, hf.n⟩
    · exact h2.okD d h1
theorem SpK.srcE {Y : Lay} {w : World} {g : Nat} {s : St} (h : SpK Y w g s none) (hl : s.L.length ≤ 1000000) : E.Src w Y.km Y.S s.L := by
  refine ⟨h.map, fun p hp => ⟨_, _, (h.ho p hp (by simp)).live⟩, fun a ha => ?_, h.nodup, h.srL, hl⟩
  have hne : ofKeyE a.key s.L ≠ [] := fun e => by
    have : a ∈ ofKeyE a.key s.L := List.mem_filter.2 ⟨ha, by simp⟩
    rw [e] at this
    cases this
  obtain ⟨x, hx⟩ := (h.has a.key (by simp)).2 (.inl hne)
  exact List.mem_map.2 ⟨_, hx, rfl⟩
theorem SpK.srcD {Y : Lay} {w : World} {g : Nat} {s : St} (h : SpK Y w g s none) (hl : s.DL.length ≤ 1000000) : D.Src w Y.km Y.S s.DL := by
  refine ⟨h.map, fun p hp => ⟨_, _, (h.ho p hp (by simp)).dead⟩, fun a ha => ?_, h.nodup, h.srD, hl⟩
  have hne : ofKeyD a.push.key s.DL ≠ [] := fun e => by
    have : a ∈ ofKeyD a.push.key s.DL := List.mem_filter.2 ⟨ha, by simp⟩
    rw [e] at this
    cases this
  obtain ⟨x, hx⟩ := (h.has a.push.key (by simp)).2 (.inr hne)
  exact List.mem_map.2 ⟨_, hx, rfl⟩
/-- The text so far. -/
structure Tx (w : World) (v : Value) (l : List UInt8) (wr : World) : Prop where
  br : BR wr w.heap.size v l
  be : Below w.heap.size w wr
theorem Tx.step {w : World} {v v' : Value} {l l' : List UInt8} {wr wx : World} (h : Tx w v l wr) (hb : BR wx w.heap.size v' l') (hg : wr.grownBy wx v.ownBlock) : Tx w v' l' wx :=
  ⟨hb, h.be.grown hg h.be.size (fun k e => (h.br.cellsAt k e).1)⟩
theorem Tx.below {w : World} {v : Value} {l : List UInt8} {wr wx : World} (h : Tx w v l wr) (hb : Below wr.heap.size wr wx) : Tx w v l wx := ⟨BR.below h.br hb, h.be.trans (hb.mono h.be.size)⟩
theorem u8_ne : (5 : Nat) ≠ 113 ∧ (5 : Nat) ≠ 120 := by decide
theorem Tx.rowE {w : World} {v v' : Value} {l : List UInt8} {wr wx : World} {base : Nat} {S : List (It (Cx 26))} (h : Tx w v l wr) (hr : E.Rw 113 wr base v' S) (hg : wr.grownBy wx v.ownBlock) : E.Rw 113 wx base v' S :=
  hr.keep fun k hk => hg.block k (hr.lt k hk).2 (fun e => by
    obtain ⟨cur, hc⟩ := hr.cellsAt k hk
    obtain ⟨-, -, cur2, hc2⟩ := h.br.cellsAt k e.symm
    rw [hc] at hc2
    simp only [Option.some.injEq, Obj.cells.injEq] at hc2
    exact u8_ne.1 hc2.2.1.symm)
theorem Tx.rowD {w : World} {v v' : Value} {l : List UInt8} {wr wx : World} {base : Nat} {S : List (It (Cx 28))} (h : Tx w v l wr) (hr : D.Rw 120 wr base v' S) (hg : wr.grownBy wx v.ownBlock) : D.Rw 120 wx base v' S :=
  hr.keep fun k hk => hg.block k (hr.lt k hk).2 (fun e => by
    obtain ⟨cur, hc⟩ := hr.cellsAt k hk
    obtain ⟨-, -, cur2, hc2⟩ := h.br.cellsAt k e.symm
    rw [hc] at hc2
    simp only [Option.some.injEq, Obj.cells.injEq] at hc2
    exact u8_ne.2 hc2.2.1.symm)
theorem live_len {s : St} (h : Inv2 s) (hw : ∀ a ∈ s.L, Wide a) : ∀ L : List Ev, (∀ a ∈ L, a ∈ s.L) → (L.flatMap liveB).length ≤ 1020 * L.length
  | [], _ => by simp
  | a :: L, hm => by
    have h1 := live_len h hw L (fun x hx => hm x (by simp [hx]))
    have h2 := tmLe (evb a)
    have ha := hm a (by simp)
    have h3 := evb_small (hw a ha).1 (h.okL a ha)
    rw [List.flatMap_cons, List.length_append, List.length_cons]
    unfold liveB at *
    omega
theorem dead_len {s : St} (h : Inv2 s) (hw : ∀ a ∈ s.DL, Wide a.push) : ∀ L : List Ed, (∀ a ∈ L, a ∈ s.DL) → (L.flatMap deadB).length ≤ 1040 * L.length
  | [], _ => by simp
  | a :: L, hm => by
    have h1 := dead_len h hw L (fun x hx => hm x (by simp [hx]))
    have h2 := tmLe (evb a.push)
    have ha := hm a (by simp)
    have h3 := evb_small (hw a ha).1 (h.okD a ha).1
    have h4 := nm_le a.br
    have h5 := nm_le a.bn
    rw [List.flatMap_cons, List.length_append, List.length_cons]
    unfold deadB at *
    rw [List.length_append, List.length_append]
    omega
theorem take_flat {α : Type} (f : α → List UInt8) {L : List α} {k : Nat} {a : α} (h : L[k]? = some a) : (L.take (k + 1)).flatMap f = (L.take k).flatMap f ++ f a := by
  rw [List.take_add_one, h, Option.toList_some, List.flatMap_append]
  simp
theorem ldx_d {w : World} {g : Nat} {d : Ed} (hd : d.push.deps.length = 16) (h : w.heap[g]? = some (.cells (xc (dit d)) 120 (0, 0))) : (loadVar 29 ⟨g, 2, none⟩).run Tryz.prog w = .ok (.agg (evc d.push)) w ∧ w.cell? ⟨g, 28, none⟩ = some (.int .i64 d.br) ∧ w.cell? ⟨g, 29, none⟩ = some (.int .i64 d.bn) := by
  have hx : xl (dit d) = .int .i64 d.push.r :: .int .i64 d.push.n :: (evl d.push ++ [.int .i64 d.br, .int .i64 d.bn]) := by
    unfold xl dit
    simp only
    rw [edX_l hd]
    rfl
  have hl := evl_length d.push hd
  have hc : ∀ j, w.cell? ⟨g, j, none⟩ = (xl (dit d))[j]? := fun j => by
    rw [cell_of_row w g j _ _ _ h]
    simp [xc]
  refine ⟨?_, ?_, ?_⟩
  · have hr : w.rangeAt g 2 (evl d.push) := fun j u hu => by
      rw [hc, hx, show 2 + j = j + 1 + 1 by omega, List.getElem?_cons_succ, List.getElem?_cons_succ, List.getElem?_append_left (List.getElem?_eq_some_iff.1 hu).1]
      exact hu
    exact run_loadVar_mid (P := Tryz.prog) w g 2 29 _ _ hr Tryz.underlying29 rfl (by rw [hl]; kernel_rfl)
  · rw [hc, hx, List.getElem?_cons_succ, List.getElem?_cons_succ, List.getElem?_append_right (by omega), hl]
    rfl
  · rw [hc, hx, List.getElem?_cons_succ, List.getElem?_cons_succ, List.getElem?_append_right (by omega), hl]
    rfl
theorem len_nn {n : Nat} (h : n ≤ 1000) : Nn (n : Int) := by unfold Nn; omega
end Go.Proofs.YthlebgioamcioabGreat

/-
  What Encode comes to: its walk.
-/
namespace Go.Proofs.YthlebgioamcioabGreat
set_option maxRecDepth 100000
open Go.RowKit

set_option maxHeartbeats 8000000 in
theorem sencode_any (Y : Lay) (w : World) (g : Nat) (s : St) (hS : SpK Y w g s none) (h2 : Inv2 s) (hlL : s.L.length ≤ 1000) (hlD : s.DL.length ≤ 1000) :
    Calls Tryz.prog 19 #[.pointer (some ⟨g, 0, none⟩)] w fun e w' => e = .returned (.string (sb (encS s))) ∧ Below w.heap.size w w' := by
  have hl16 := hS.len
  have hz := sorz_some g w
  have hls := load_seen hS
  have HS : Hid (SpK Y w g s none) := hS
  have H2 : Hid (Inv2 s) := h2
  have hT0 : Tx w (.slice none 0 0) (ns (s.seen.take 0)) w := ⟨br_nil w _, Below.refl _ _⟩
  have LS : (ns s.seen).length ≤ 160 := by have := ns_len s.seen; omega
  clear hS h2
  go_enter Tryz.func19, Tryz.ntmps19
  go_wp2_with fail
  refine Calls.mono hz ?_
  rintro e w1 ⟨rfl, hw1⟩
  obtain rfl := hw1.symm
  go_wp2_with (first | (refine wpList_loadR (ty := 25) (x := .tmp 16) (ad := ⟨g, 0, none⟩) (v := .agg (vals s.seen)) rfl rfl rfl hls ?_))
  clear hls hz
  go_loopw [3, 5, 18] (fun vb _ c wr => ∃ k : Nat, k ≤ 16 ∧ c = .int .i64 (k : Int) ∧ Aside (Tx w vb (ns (s.seen.take k)) wr)) (fun _ _ c _ => 16 - (intOf c).toNat)
  case atStart => exact ⟨0, by omega, rfl, hT0⟩
  case round =>
    clear hT0
    obtain ⟨k, hk, rfl, HT⟩ := hrel
    by_cases hk16 : k < 16
    · have hk' : (k : Int) < 16 := by omega
      have hix := run_index_vec wr s.seen k hl16 hk16
      have hnn : Nn (s.seen.getD k 0) := H2.out.seen _ (by
        rw [List.getD_eq_getElem?_getD, List.getElem?_eq_getElem (by omega : k < s.seen.length)]
        exact List.getElem_mem _)
      have hst := ns_succ s.seen k (by omega)
      have hlk : (ns (s.seen.take k)).length ≤ 1000000000 := by
        have := ns_len (s.seen.take k)
        have : (s.seen.take k).length ≤ 16 := by rw [List.length_take]; omega
        omega
      have hC := sputnum_any w.heap.size u3 (ns (s.seen.take k)) (s.seen.getD k 0) wr HT.out.br HT.out.be.size hlk hnn
      rw [← hst] at hC
      clear hst hlk hnn
      generalize s.seen.getD k 0 = x at *
      go_wp2_with fail
      refine Calls.mono hC ?_
      rintro e w2 ⟨v', rfl, hb2, hg2⟩
      have HT2 : Aside (Tx w v' (ns (s.seen.take (k + 1))) w2) := HT.out.step hb2 hg2
      clear hC hb2 hg2 hix HT
      go_wp2
      go_roundw
      case rel => exact ⟨k + 1, by omega, by go_num, HT2⟩
      case measure => simp [intOf]; omega
    · have hk' : ¬ (k : Int) < 16 := by omega
      have e1 : s.seen.take k = s.seen := List.take_of_length_le (by omega)
      rw [e1] at HT
      have hc16 : wr.cell? ⟨g, 16, none⟩ = some (.int .i64 s.time) := (HS.out.below HT.out.be (Nat.le_refl _)).c16
      have hC := sputnum_any w.heap.size u3 (ns s.seen) s.time wr HT.out.br HT.out.be.size (by omega) H2.out.time
      clear e1
      go_wp2_with fail
      refine Calls.mono hC ?_
      rintro e w2 ⟨v2, rfl, hb2, hg2⟩
      have HT2 : Aside (Tx w v2 (ns s.seen ++ nm s.time) w2) := HT.out.step hb2 hg2
      have hS2 := HS.out.below HT2.out.be (Nat.le_refl _)
      have hc17 := hS2.c17
      have hTo := E.together_any w2 Y.km Y.S s.L (hS2.srcE (by omega))
      have LT := nm_le s.time
      clear hC hb2 hg2 HT hc16 hS2
      generalize HP1 : ns s.seen ++ nm s.time = p1 at *
      have LP1 : p1.length ≤ 200 := by rw [← HP1, List.length_append]; omega
      have HQ1 : Hid (ns s.seen ++ nm s.time = p1) := HP1
      clear HP1 LT LS
      go_wp2_with fail
      refine Calls.mono hTo ?_
      rintro e w3 ⟨va, rfl, hra, hba⟩
      obtain ⟨aoa, capa, hva, -, -⟩ := hra.val
      rw [List.length_map] at hva
      obtain ⟨nL, hnL⟩ : ∃ nL, s.L.length = nL := ⟨_, rfl⟩
      rw [hnL] at hva hlL
      subst hva
      have HT3 : Aside (Tx w v2 p1 w3) := HT2.out.below hba
      have HRA : Aside (E.Rw 113 w3 w2.heap.size (.slice aoa nL capa) (s.L.map eit)) := hra
      have hC := sputnum_any w.heap.size v2 p1 (nL : Int) w3 HT3.out.br HT3.out.be.size (by omega) (len_nn hlL)
      have LN := nm_le (nL : Int)
      clear hTo hc17 hra hba HT2
      go_wp2_with fail
      refine Calls.mono hC ?_
      rintro e w4 ⟨v4, rfl, hb4, hg4⟩
      have HT4 : Aside (Tx w v4 (p1 ++ nm (nL : Int)) w4) := HT3.out.step hb4 hg4
      have HRA4 : Aside (E.Rw 113 w4 w2.heap.size (.slice aoa nL capa) (s.L.map eit)) := HT3.out.rowE HRA.out hg4
      clear hC hb4 hg4 HT3 HRA
      generalize HP2 : p1 ++ nm (nL : Int) = p2 at *
      have LP2 : p2.length ≤ 300 := by rw [← HP2, List.length_append]; omega
      have HQ2 : Hid (p1 ++ nm (nL : Int) = p2) := HP2
      clear HP2 LN
      go_wp2_with fail
      go_loopw [3, 8, 42] (fun vb _ c wx => ∃ k : Nat, k ≤ nL ∧ c = .int .i64 (k : Int) ∧ Aside (Tx w vb (p2 ++ (s.L.take k).flatMap liveB) wx ∧ E.Rw 113 wx w2.heap.size (.slice aoa nL capa) (s.L.map eit))) (fun _ _ c _ => nL - (intOf c).toNat)
      case atStart => exact ⟨0, Nat.zero_le _, rfl, by simpa using HT4.out, HRA4.out⟩
      case round =>
        clear HT4 HRA4
        obtain ⟨k2, hk2, rfl, HX⟩ := hrel
        by_cases hkn : k2 < nL
        · have hkn' : (k2 : Int) < (nL : Int) := by omega
          obtain ⟨gr, capr, i, hv', -, hi, hgb, hgrl, hrg, -⟩ := HX.out.2.atx (k := k2) (by rw [List.length_map]; omega)
          rw [List.length_map, hnL] at hv'
          simp only [Value.slice.injEq] at hv'
          obtain ⟨rfl, -, rfl⟩ := hv'
          obtain ⟨a, ha, rfl⟩ := map_at hi
          have ham := List.mem_of_getElem? ha
          have haw := HS.out.wl a ham
          have hld := E.ld_mid hrg
          have hst := E.st_new wr (eit a)
          have hb1 : Below wr.heap.size wr (wr.alloc (.cells (xc (eit a)) 113)) := (Below.refl _ wr).alloc (Nat.le_refl _) _
          have hx := heap_alloc_new wr (.cells (xc (eit a)) 113)
          have hT1 := HX.out.1.below hb1
          have hr1 : E.Rw 113 (wr.alloc (.cells (xc (eit a)) 113)) w2.heap.size (.slice (some ⟨gr, 0, none⟩) nL capa) (s.L.map eit) := HX.out.2.alloc _
          generalize wr.alloc (.cells (xc (eit a)) 113) = W5 at *
          have hxx := E.ldx_at hx
          rw [show (eit a).x.l.toArray = evc a from evX_c haw.1] at hxx
          have hlen : (p2 ++ (s.L.take k2).flatMap liveB).length ≤ 1000000000 := by
            have h1 := live_len H2.out HS.out.wl (s.L.take k2) (fun x hx => List.mem_of_mem_take hx)
            have h3 : (s.L.take k2).length ≤ 1000 := by rw [List.length_take]; omega
            rw [List.length_append]
            omega
          have hC := sputev_any w.heap.size u3 _ a W5 hT1.br hT1.be.size hlen haw (H2.out.okL a ham)
          have hfl : (p2 ++ (s.L.take k2).flatMap liveB) ++ tm (evb a) = p2 ++ (s.L.take (k2 + 1)).flatMap liveB := by
            rw [take_flat liveB ha, List.append_assoc]; rfl
          rw [hfl] at hC
          have H1 : Aside (Tx w u3 (p2 ++ (s.L.take k2).flatMap liveB) W5 ∧ E.Rw 113 W5 w2.heap.size (.slice (some ⟨gr, 0, none⟩) nL capa) (s.L.map eit)) := ⟨hT1, hr1⟩
          clear hfl hlen hT1 hr1 hrg hb1 hx HX hi ha ham
          go_wp2_with (first
            | (refine wpList_loadR (ty := 113) (x := .tmp 44) (ad := ⟨gr, k2 * 28, none⟩) (v := .agg (xc (eit a))) rfl rfl rfl hld ?_)
            | (refine wpList_storeR (ty := 113) (x := .tmp 8) (y := .tmp 45) (ad := ⟨wr.heap.size, 0, none⟩) (v := .agg (xc (eit a))) (w' := W5) rfl rfl rfl rfl hst ?_)
            | (refine wpList_loadR (ty := 29) (x := .tmp 47) (ad := ⟨wr.heap.size, 2, none⟩) (v := .agg (evc a)) rfl rfl rfl hxx ?_))
          refine Calls.mono hC ?_
          rintro e w6 ⟨v6, rfl, hb6, hg6⟩
          have H6 : Aside (Tx w v6 (p2 ++ (s.L.take (k2 + 1)).flatMap liveB) w6 ∧ E.Rw 113 w6 w2.heap.size (.slice (some ⟨gr, 0, none⟩) nL capa) (s.L.map eit)) := ⟨H1.out.1.step hb6 hg6, H1.out.1.rowE H1.out.2 hg6⟩
          clear hC hb6 hg6 hld hst hxx H1 haw
          go_wp2
          go_roundw
          case rel => exact ⟨k2 + 1, by omega, by go_num, H6⟩
          case measure => simp [intOf]; omega
        · have hkn' : ¬ (k2 : Int) < (nL : Int) := by omega
          have e2 : s.L.take k2 = s.L := List.take_of_length_le (by omega)
          rw [e2] at HX
          have HT7 : Aside (Tx w u3 (p2 ++ s.L.flatMap liveB) wr) := HX.out.1
          have LL := live_len H2.out HS.out.wl s.L (fun x hx => hx)
          rw [hnL] at LL
          have hS7 := HS.out.below HT7.out.be (Nat.le_refl _)
          have hc17 := hS7.c17
          have hTo := D.together_any wr Y.km Y.S s.DL (hS7.srcD (by omega))
          clear e2 HX hS7
          generalize HP3 : p2 ++ s.L.flatMap liveB = p3 at *
          have LP3 : p3.length ≤ 1100000 := by rw [← HP3, List.length_append]; omega
          have HQ3 : Hid (p2 ++ s.L.flatMap liveB = p3) := HP3
          clear HP3 LL
          go_wp2_with fail
          refine Calls.mono hTo ?_
          rintro e w8 ⟨vd, rfl, hrd, hbd⟩
          obtain ⟨aod, capd, hvd, -, -⟩ := hrd.val
          rw [List.length_map] at hvd
          obtain ⟨nD, hnD⟩ : ∃ nD, s.DL.length = nD := ⟨_, rfl⟩
          rw [hnD] at hvd hlD
          subst hvd
          have HT8 : Aside (Tx w u3 p3 w8) := HT7.out.below hbd
          have HRD : Aside (D.Rw 120 w8 wr.heap.size (.slice aod nD capd) (s.DL.map dit)) := hrd
          have hC := sputnum_any w.heap.size u3 p3 (nD : Int) w8 HT8.out.br HT8.out.be.size (by omega) (len_nn hlD)
          have LN := nm_le (nD : Int)
          clear hTo hc17 hrd hbd HT7
          go_wp2_with fail
          refine Calls.mono hC ?_
          rintro e w9 ⟨v9, rfl, hb9, hg9⟩
          have HT9 : Aside (Tx w v9 (p3 ++ nm (nD : Int)) w9) := HT8.out.step hb9 hg9
          have HRD9 : Aside (D.Rw 120 w9 wr.heap.size (.slice aod nD capd) (s.DL.map dit)) := HT8.out.rowD HRD.out hg9
          clear hC hb9 hg9 HT8 HRD
          generalize HP4 : p3 ++ nm (nD : Int) = p4 at *
          have LP4 : p4.length ≤ 1200000 := by rw [← HP4, List.length_append]; omega
          have HQ4 : Hid (p3 ++ nm (nD : Int) = p4) := HP4
          clear HP4 LN
          obtain ⟨Bd, hBd⟩ : ∃ Bd, wr.heap.size = Bd := ⟨_, rfl⟩
          rw [hBd] at HRD9
          go_wp2_with fail
          go_loopw [3, 11, 62] (fun vb _ c wx => ∃ k : Nat, k ≤ nD ∧ c = .int .i64 (k : Int) ∧ Aside (Tx w vb (p4 ++ (s.DL.take k).flatMap deadB) wx ∧ D.Rw 120 wx Bd (.slice aod nD capd) (s.DL.map dit))) (fun _ _ c _ => nD - (intOf c).toNat)
          case atStart => exact ⟨0, Nat.zero_le _, rfl, by simpa using HT9.out, HRD9.out⟩
          case round =>
            clear HT9 HRD9
            obtain ⟨k3, hk3, rfl, HX⟩ := hrel
            by_cases hkn2 : k3 < nD
            · have hkn3 : (k3 : Int) < (nD : Int) := by omega
              obtain ⟨gr, capr, i, hv', -, hi, hgb, hgrl, hrg, -⟩ := HX.out.2.atx (k := k3) (by rw [List.length_map]; omega)
              rw [List.length_map, hnD] at hv'
              simp only [Value.slice.injEq] at hv'
              obtain ⟨rfl, -, rfl⟩ := hv'
              obtain ⟨d, hd, rfl⟩ : ∃ d, s.DL[k3]? = some d ∧ i = dit d := by
                rw [List.getElem?_map] at hi
                cases hd : s.DL[k3]? with
                | none => rw [hd] at hi; cases hi
                | some d => rw [hd] at hi; exact ⟨d, rfl, (Option.some.inj hi).symm⟩
              have hdm := List.mem_of_getElem? hd
              have hdw := HS.out.wd d hdm
              obtain ⟨o1, o2, o3⟩ := H2.out.okD d hdm
              have hld := D.ld_mid hrg
              have hst := D.st_new wr (dit d)
              have hb1 : Below wr.heap.size wr (wr.alloc (.cells (xc (dit d)) 120)) := (Below.refl _ wr).alloc (Nat.le_refl _) _
              have hx := heap_alloc_new wr (.cells (xc (dit d)) 120)
              have hT1 := HX.out.1.below hb1
              have hr1 : D.Rw 120 (wr.alloc (.cells (xc (dit d)) 120)) Bd (.slice (some ⟨gr, 0, none⟩) nD capd) (s.DL.map dit) := HX.out.2.alloc _
              generalize wr.alloc (.cells (xc (dit d)) 120) = W5 at *
              obtain ⟨-, c28, -⟩ := ldx_d hdw.1 hx
              have hlen : (p4 ++ (s.DL.take k3).flatMap deadB).length ≤ 100000000 := by
                have h1 := dead_len H2.out HS.out.wd (s.DL.take k3) (fun x hx => List.mem_of_mem_take hx)
                have h3 : (s.DL.take k3).length ≤ 1000 := by rw [List.length_take]; omega
                rw [List.length_append]
                omega
              obtain ⟨q0, hq0⟩ : ∃ q0, p4 ++ (s.DL.take k3).flatMap deadB = q0 := ⟨_, rfl⟩
              have HQ0 : Hid (p4 ++ (s.DL.take k3).flatMap deadB = q0) := hq0
              rw [hq0] at hT1 hlen
              have hC := sputnum_any w.heap.size u3 q0 d.br W5 hT1.br hT1.be.size (by omega) o2
              have H1 : Aside (Tx w u3 q0 W5 ∧ D.Rw 120 W5 Bd (.slice (some ⟨gr, 0, none⟩) nD capd) (s.DL.map dit)) := ⟨hT1, hr1⟩
              have HXB : Hid (W5.heap[wr.heap.size]? = some (.cells (xc (dit d)) 120 (0, 0))) := hx
              have hne : ∀ (v : Value) (l : List UInt8) (Wa Wb : World), Tx w v l Wa → Wa.grownBy Wb v.ownBlock → Wa.heap[wr.heap.size]? = some (.cells (xc (dit d)) 120 (0, 0)) → Wb.heap[wr.heap.size]? = some (.cells (xc (dit d)) 120 (0, 0)) := fun v l Wa Wb ht hg hh => by
                refine (hg.block _ (Array.getElem?_eq_some_iff.1 hh).1 (fun e => ?_)).trans hh
                obtain ⟨-, -, cur2, hc2⟩ := ht.br.cellsAt _ e.symm
                rw [hh] at hc2
                simp only [Option.some.injEq, Obj.cells.injEq] at hc2
                exact u8_ne.2 hc2.2.1.symm
              have HNE : Hid _ := hne
              have L1 := nm_le d.br
              have L2 := nm_le d.bn
              clear hq0 hT1 hr1 hrg hb1 hx HX hi hne
              go_wp2_with (first
                | (refine wpList_loadR (ty := 120) (x := .tmp 64) (ad := ⟨gr, k3 * 30, none⟩) (v := .agg (xc (dit d))) rfl rfl rfl hld ?_)
                | (refine wpList_storeR (ty := 120) (x := .tmp 11) (y := .tmp 65) (ad := ⟨wr.heap.size, 0, none⟩) (v := .agg (xc (dit d))) (w' := W5) rfl rfl rfl rfl hst ?_))
              refine Calls.mono hC ?_
              rintro e w6 ⟨v6, rfl, hb6, hg6⟩
              have H6 : Aside (Tx w v6 (q0 ++ nm d.br) w6 ∧ D.Rw 120 w6 Bd (.slice (some ⟨gr, 0, none⟩) nD capd) (s.DL.map dit)) := ⟨H1.out.1.step hb6 hg6, H1.out.1.rowD H1.out.2 hg6⟩
              have HX6 : Hid (w6.heap[wr.heap.size]? = some (.cells (xc (dit d)) 120 (0, 0))) := HNE.out _ _ _ _ H1.out.1 hg6 HXB.out
              obtain ⟨-, -, c29⟩ := ldx_d hdw.1 HX6.out
              have hC7 := sputnum_any w.heap.size v6 (q0 ++ nm d.br) d.bn w6 H6.out.1.br H6.out.1.be.size (by rw [List.length_append]; omega) o3
              clear hC hb6 hg6 hld hst c28 H1 HXB
              go_wp2_with fail
              refine Calls.mono hC7 ?_
              rintro e w7 ⟨v7, rfl, hb7, hg7⟩
              have H7 : Aside (Tx w v7 ((q0 ++ nm d.br) ++ nm d.bn) w7 ∧ D.Rw 120 w7 Bd (.slice (some ⟨gr, 0, none⟩) nD capd) (s.DL.map dit)) := ⟨H6.out.1.step hb7 hg7, H6.out.1.rowD H6.out.2 hg7⟩
              have HX7 : Hid (w7.heap[wr.heap.size]? = some (.cells (xc (dit d)) 120 (0, 0))) := HNE.out _ _ _ _ H6.out.1 hg7 HX6.out
              obtain ⟨lev, -, -⟩ := ldx_d hdw.1 HX7.out
              have hC8 := sputev_any w.heap.size v7 ((q0 ++ nm d.br) ++ nm d.bn) d.push w7 H7.out.1.br H7.out.1.be.size (by rw [List.length_append, List.length_append]; omega) hdw o1
              have hfl : ((q0 ++ nm d.br) ++ nm d.bn) ++ tm (evb d.push) = p4 ++ (s.DL.take (k3 + 1)).flatMap deadB := by
                rw [take_flat deadB hd, ← List.append_assoc, HQ0.out]
                unfold deadB
                simp only [List.append_assoc]
              rw [hfl] at hC8
              clear hC7 hb7 hg7 c29 H6 HX6 hfl hd hdm
              go_wp2_with (first | (refine wpList_loadR (ty := 29) (x := .tmp 80) (ad := ⟨wr.heap.size, 2, none⟩) (v := .agg (evc d.push)) rfl rfl rfl lev ?_))
              refine Calls.mono hC8 ?_
              rintro e wa ⟨va, rfl, hba, hga⟩
              have HA : Aside (Tx w va (p4 ++ (s.DL.take (k3 + 1)).flatMap deadB) wa ∧ D.Rw 120 wa Bd (.slice (some ⟨gr, 0, none⟩) nD capd) (s.DL.map dit)) := ⟨H7.out.1.step hba hga, H7.out.1.rowD H7.out.2 hga⟩
              clear hC8 hba hga lev H7 HX7 HNE
              go_wp2
              go_roundw
              case rel => exact ⟨k3 + 1, by omega, by go_num, HA⟩
              case measure => simp [intOf]; omega
            · have hkn3 : ¬ (k3 : Int) < (nD : Int) := by omega
              have e3 : s.DL.take k3 = s.DL := List.take_of_length_le (by omega)
              rw [e3] at HX
              have HE : Hid (p4 ++ s.DL.flatMap deadB = encS s) := by
                show _ = _
                unfold encS
                rw [hnL, hnD, HQ1.out, HQ2.out, HQ3.out, HQ4.out]
              rw [HE.out] at HX
              obtain ⟨aoz, capz, hvz, -⟩ := HX.out.1.br.val
              have hcv : (convert 106 9 u3).run Tryz.prog wr = .ok (.string (sb (encS s))) wr := by
                have hne : encS s ≠ [] := fun e => by
                  have h1 := congrArg List.length HE.out
                  rw [e, ← HQ4.out, List.length_append, List.length_append, nm_length] at h1
                  have := Vq.wd_pos (nD : Int).toNat
                  rw [List.length_nil] at h1
                  omega
                rcases HX.out.1.br.2 with ⟨-, h0⟩ | ⟨gz, cz, cur, hv, -⟩
                · exact absurd (List.eq_nil_of_length_eq_zero h0) hne
                · have hb := HX.out.1.br
                  rw [hv] at hb ⊢
                  exact conv_own hb
              have FIN : Hid (Below w.heap.size w wr) := HX.out.1.be
              clear e3 HX
              obtain ⟨tx, htx⟩ : ∃ tx, encS s = tx := ⟨_, rfl⟩
              have HTX : Hid (encS s = tx) := htx
              rw [htx] at hcv hvz
              clear htx HE
              subst hvz
              go_wp2
              go_ret
              exact ⟨by rw [HTX.out]; rfl, FIN.out⟩
end Go.Proofs.YthlebgioamcioabGreat

/-
  What living, there, Type, Text and VV come to; few.
-/
namespace Go.Proofs.YthlebgioamcioabGreat
set_option maxRecDepth 100000
open Go.RowKit

theorem ev_ne : (29 : Nat) ≠ 113 := by decide
/-- The list so far. -/
structure Lx (w : World) (v : Value) (E : List Ev) (wr : World) : Prop where
  row : Row wr w.heap.size v E
  be : Below w.heap.size w wr
theorem Row.cellsAt {w : World} {base : Nat} {v : Value} {E : List Ev} (h : Row w base v E) : ∀ k, v.ownBlock = some k → base ≤ k ∧ k < w.heap.size ∧ ∃ cur, w.heap[k]? = some (.cells cur 29 (0, 0)) := by
  intro k hk
  rcases h.2 with ⟨rfl, -⟩ | ⟨g, cap, cur, rfl, hbg, hg, -⟩
  · cases hk
  · obtain rfl : g = k := by simpa [Value.ownBlock] using hk
    exact ⟨hbg, (Array.getElem?_eq_some_iff.1 hg).1, cur, hg⟩
set_option maxHeartbeats 4000000 in
theorem living_any (Y : Lay) (w : World) (g : Nat) (s : St) (key : Key) (hS : SpK Y w g s none) (hl : s.L.length ≤ 1000) :
    Calls Tryz.prog 63 #[.pointer (some ⟨g, 0, none⟩), .string (sb key)] w fun e w' => ∃ v, e = .returned v ∧ Row w' w.heap.size v (ofKeyE key s.L) ∧ Below w.heap.size w w' := by
  have hz := sorz_some g w
  have hO := of_core Y w g s none key hS
  have hO2 : Calls Tryz.prog 46 #[.pointer (some ⟨g, 0, none⟩), .string (sb key)] w fun e w' => ∃ hb cs m, e = .returned (.pointer (some ⟨hb, 0, none⟩)) ∧ E.Bg w' hb 0 cs 96 m ((ofKeyE key s.L).map eit) ∧ Below w.heap.size w w' := by
    refine hO.mono ?_
    rintro e w' ⟨hb, rfl, ⟨ha, rfl⟩ | ⟨ha, rfl, rfl⟩⟩
    · obtain ⟨-, hh⟩ := hS.take ha
      exact ⟨hb, _, _, rfl, hh.ho.live, Below.refl _ _⟩
    · obtain ⟨-, hh, -⟩ := hS.take_new ha
      exact ⟨_, _, _, rfl, hh.ho.live, (Below.refl _ w).alloc (Nat.le_refl _) _⟩
  have hwl : ∀ a ∈ ofKeyE key s.L, Wide a := fun a ha => hS.wl a (List.mem_filter.1 ha).1
  have hxl : (ofKeyE key s.L).length ≤ 1000 := Nat.le_trans (List.length_filter_le _ _) hl
  have HWL : Hid _ := hwl
  clear hO hS hwl
  generalize ofKeyE key s.L = X at *
  go_enter Tryz.func63, Tryz.ntmps63
  go_wp2_with fail
  refine Calls.mono hz ?_
  rintro e w1 ⟨rfl, hw1⟩
  obtain rfl := hw1.symm
  go_wp2_with fail
  refine Calls.mono hO2 ?_
  rintro e w2 ⟨hb, cs, m, rfl, hB, hb2⟩
  have hIt := E.items_any hb 0 cs 96 m _ w2 hB (by rw [List.length_map]; omega)
  clear hz hO2 hB
  go_wp2_with fail
  refine Calls.mono hIt ?_
  rintro e w3 ⟨vr, rfl, hr3, hb3⟩
  obtain ⟨ao, cap, hvr, -, -⟩ := hr3.val
  rw [List.length_map] at hvr
  obtain ⟨n, hn⟩ : ∃ n, X.length = n := ⟨_, rfl⟩
  rw [hn] at hvr hxl
  subst hvr
  have H3 : Aside (Lx w (.slice none 0 0) (X.take 0) w3 ∧ E.Rw 113 w3 w2.heap.size (.slice ao n cap) (X.map eit)) := ⟨⟨row_nil w3 _, hb2.trans (hb3.mono hb2.size)⟩, hr3⟩
  clear hIt hr3 hb3 hb2
  go_wp2_with fail
  go_loopw [5, 7, 16] (fun vb _ c wr => ∃ k : Nat, k ≤ n ∧ c = .int .i64 (k : Int) ∧ Aside (Lx w vb (X.take k) wr ∧ E.Rw 113 wr w2.heap.size (.slice ao n cap) (X.map eit))) (fun _ _ c _ => n - (intOf c).toNat)
  case atStart => exact ⟨0, Nat.zero_le _, rfl, H3⟩
  case round =>
    clear H3
    obtain ⟨k, hk, rfl, HX⟩ := hrel
    by_cases hkn : k < n
    · have hkn' : (k : Int) < (n : Int) := by omega
      obtain ⟨gr, capr, i, hv', -, hi, hgb, hgrl, hrg, -⟩ := HX.out.2.atx (k := k) (by rw [List.length_map]; omega)
      rw [List.length_map, hn] at hv'
      simp only [Value.slice.injEq] at hv'
      obtain ⟨rfl, -, rfl⟩ := hv'
      obtain ⟨a, ha, rfl⟩ := map_at hi
      have ham := List.mem_of_getElem? ha
      have haw := HWL.out a ham
      have ha16 := haw.1
      have hld := E.ld_mid hrg
      have hst := E.st_new wr (eit a)
      have hb1 : Below wr.heap.size wr (wr.alloc (.cells (xc (eit a)) 113)) := (Below.refl _ wr).alloc (Nat.le_refl _) _
      have hx := heap_alloc_new wr (.cells (xc (eit a)) 113)
      have hr1 : E.Rw 113 (wr.alloc (.cells (xc (eit a)) 113)) w2.heap.size (.slice (some ⟨gr, 0, none⟩) n cap) (X.map eit) := HX.out.2.alloc _
      have hL1 : Lx w u5 (X.take k) (wr.alloc (.cells (xc (eit a)) 113)) := ⟨HX.out.1.row.below hb1 (Nat.le_refl _), HX.out.1.be.trans (hb1.mono HX.out.1.be.size)⟩
      generalize wr.alloc (.cells (xc (eit a)) 113) = W5 at *
      have hxx := E.ldx_at hx
      rw [show (eit a).x.l.toArray = evc a from evX_c haw.1] at hxx
      have hb6 : Below W5.heap.size W5 (W5.alloc (.cells (evc a) 29)) := (Below.refl _ W5).alloc (Nat.le_refl _) _
      have hF : Evs (W5.alloc (.cells (evc a) 29)) (some ⟨W5.heap.size, 0, none⟩) 1 1 [a] := evs_single _ _ a haw (liesE_new W5 a)
      have hRow : Row (W5.alloc (.cells (evc a) 29)) w.heap.size u5 (X.take k) := hL1.row.below hb6 (Nat.le_refl _)
      have hle : w.heap.size ≤ (W5.alloc (.cells (evc a) 29)).heap.size := Nat.le_trans hL1.be.size hb6.size
      have hlk : (X.take k).length ≤ 1000 := by rw [List.length_take]; omega
      have htk : X.take k ++ [a] = X.take (k + 1) := by rw [List.take_add_one, ha]; rfl
      have HFIN : Hid (∀ v' w', Row w' w.heap.size v' (X.take k ++ [a]) → (W5.alloc (.cells (evc a) 29)).grownBy w' u5.ownBlock → Lx w v' (X.take (k + 1)) w' ∧ E.Rw 113 w' w2.heap.size (.slice (some ⟨gr, 0, none⟩) n cap) (X.map eit)) := fun v' w' h1 h2 => by
        rw [htk] at h1
        refine ⟨⟨h1, (hL1.be.trans (hb6.mono hL1.be.size)).grown h2 hle (fun k e => (hRow.cellsAt k e).1)⟩, ?_⟩
        have hr6 := hr1.below hb6 (Nat.le_refl _)
        refine E.Rw.keep hr6 fun j hj => h2.block j (hr6.lt j hj).2 (fun e => ?_)
        obtain ⟨cur, hc⟩ := E.Rw.cellsAt hr6 j hj
        obtain ⟨-, -, cur2, hc2⟩ := hRow.cellsAt j e.symm
        rw [hc] at hc2
        simp only [Option.some.injEq, Obj.cells.injEq] at hc2
        exact ev_ne hc2.2.1.symm
      generalize X.take k = XT at *
      clear htk hL1 hr1 hrg hb1 hx HX hi ha ham hb6
      go_wp2_with (first
        | (refine wpList_loadR (ty := 113) (x := .tmp 18) (ad := ⟨gr, k * 28, none⟩) (v := .agg (xc (eit a))) rfl rfl rfl hld ?_)
        | (refine wpList_storeR (ty := 113) (x := .tmp 7) (y := .tmp 19) (ad := ⟨wr.heap.size, 0, none⟩) (v := .agg (xc (eit a))) (w' := W5) rfl rfl rfl rfl hst ?_)
        | (refine wpList_loadR (ty := 29) (x := .tmp 21) (ad := ⟨wr.heap.size, 2, none⟩) (v := .agg (evc a)) rfl rfl rfl hxx ?_)
        | refine build_ev1 rfl rfl rfl ha16 ?_
        | refine wpList_appE rfl _ _ rfl w.heap.size _ XT rfl hRow _ 1 1 [a] rfl hF (by omega) hle ?_)
      intro v' w' h1 h2 _
      have H6 : Aside (Lx w v' (X.take (k + 1)) w' ∧ E.Rw 113 w' w2.heap.size (.slice (some ⟨gr, 0, none⟩) n cap) (X.map eit)) := HFIN.out v' w' h1 h2
      clear h1 h2 hld hst hxx hF hRow hle hlk HFIN haw
      go_wp2
      go_roundw
      case rel => exact ⟨k + 1, by omega, by go_num, H6⟩
      case measure => simp [intOf]; omega
    · have hkn' : ¬ (k : Int) < (n : Int) := by omega
      have e1 : X.take k = X := List.take_of_length_le (by omega)
      rw [e1] at HX
      have FIN : Aside (Row wr w.heap.size u5 X ∧ Below w.heap.size w wr) := ⟨HX.out.1.row, HX.out.1.be⟩
      clear HX e1
      go_wp2
      go_ret
      exact ⟨_, rfl, FIN.out⟩
end Go.Proofs.YthlebgioamcioabGreat

/-
  What Type, there, Text and VV come to; few.
-/
namespace Go.Proofs.YthlebgioamcioabGreat
set_option maxRecDepth 100000
open Go.RowKit

theorem stype_any (Y : Lay) (w : World) (g : Nat) (s : St) (key : Key) (hS : SpK Y w g s none) (hl : s.L.length ≤ 1000) :
    Calls Tryz.prog 36 #[.pointer (some ⟨g, 0, none⟩), .string (sb key)] w fun e w' => e = .returned (.int .i64 (typeE (ofKeyE key s.L) key)) ∧ Below w.heap.size w w' := by
  have hL := living_any Y w g s key hS hl
  have hwl : ∀ a ∈ ofKeyE key s.L, Wide a := fun a ha => hS.wl a (List.mem_filter.1 ha).1
  have hxl : (ofKeyE key s.L).length ≤ 1000 := Nat.le_trans (List.length_filter_le _ _) hl
  clear hS
  generalize ofKeyE key s.L = X at *
  have hT0 := fun ao c w1 hE => type_any ao X.length c X key w1 hE hxl
  generalize typeE X key = t at *
  go_enter Tryz.func36, Tryz.ntmps36
  go_wp2_with fail
  refine Calls.mono hL ?_
  rintro e w1 ⟨v, rfl, hR, hb1⟩
  obtain ⟨ao, c, rfl, hE⟩ := hR.evs hwl
  have hT := hT0 ao c w1 hE
  obtain ⟨n, hn⟩ : ∃ n, X.length = n := ⟨_, rfl⟩
  rw [hn] at hT ⊢
  clear hR hE hL hn hT0
  go_wp2_with fail
  refine Calls.mono hT ?_
  rintro e w2 ⟨rfl, hb2⟩
  have FIN : Hid (Below w.heap.size w w2) := hb1.trans (hb2.mono hb1.size)
  clear hb1 hb2
  go_wp2
  go_ret
  exact ⟨rfl, FIN.out⟩
theorem there_any (Y : Lay) (w : World) (g : Nat) (s : St) (key : Key) (hS : SpK Y w g s none) (hl : s.L.length ≤ 1000) :
    Calls Tryz.prog 60 #[.pointer (some ⟨g, 0, none⟩), .string (sb key)] w fun e w' => ∃ v, e = .returned v ∧ Row w' w.heap.size v (ofE (ofKeyE key s.L) key) ∧ Below w.heap.size w w' := by
  have hL := living_any Y w g s key hS hl
  have hwl : ∀ a ∈ ofKeyE key s.L, Wide a := fun a ha => hS.wl a (List.mem_filter.1 ha).1
  have hxl : (ofKeyE key s.L).length ≤ 1000 := Nat.le_trans (List.length_filter_le _ _) hl
  clear hS
  generalize ofKeyE key s.L = X at *
  have hT0 := fun ao c w1 hE => of_any ao X.length c X key w1 hE hxl
  generalize ofE X key = Z at *
  go_enter Tryz.func60, Tryz.ntmps60
  go_wp2_with fail
  refine Calls.mono hL ?_
  rintro e w1 ⟨v, rfl, hR, hb1⟩
  obtain ⟨ao, c, rfl, hE⟩ := hR.evs hwl
  have hT := hT0 ao c w1 hE
  obtain ⟨n, hn⟩ : ∃ n, X.length = n := ⟨_, rfl⟩
  rw [hn] at hT ⊢
  clear hR hE hL hn hT0
  go_wp2_with fail
  refine Calls.mono hT ?_
  rintro e w2 ⟨v2, rfl, hR2, hb2⟩
  have FIN : Aside (Row w2 w.heap.size v2 Z ∧ Below w.heap.size w w2) := ⟨hR2.lower hb1.size, hb1.trans (hb2.mono hb1.size)⟩
  clear hb1 hb2 hR2
  go_wp2
  go_ret
  exact ⟨_, rfl, FIN.out⟩
theorem mem_of' {l : List Ev} {key : List UInt8} {e : Ev} (h : e ∈ ofE l key) : e ∈ l := mem_of h
theorem stext_any (Y : Lay) (w : World) (g : Nat) (s : St) (key : Key) (hS : SpK Y w g s none) (hl : s.L.length ≤ 1000) :
    Calls Tryz.prog 39 #[.pointer (some ⟨g, 0, none⟩), .string (sb key)] w fun e w' => e = .returned (.tuple #[.string (sb (orz (latL setE (ofE (ofKeyE key s.L) key))).value), .bool (latL setE (ofE (ofKeyE key s.L) key)).isSome]) ∧ Below w.heap.size w w' := by
  have hL := there_any Y w g s key hS hl
  have hwl : ∀ a ∈ ofE (ofKeyE key s.L) key, Wide a := fun a ha => hS.wl a (List.mem_filter.1 (mem_of ha)).1
  have hxl : (ofE (ofKeyE key s.L) key).length ≤ 1000 := Nat.le_trans (of_len _ _) (Nat.le_trans (List.length_filter_le _ _) hl)
  clear hS
  generalize ofE (ofKeyE key s.L) key = X at *
  have hT0 := fun ao c w1 hE => gvalue_any ao X.length c X w1 hE hxl
  generalize (orz (latL setE X)).value = tx at *
  generalize (latL setE X).isSome = ok at *
  go_enter Tryz.func39, Tryz.ntmps39
  go_wp2_with fail
  refine Calls.mono hL ?_
  rintro e w1 ⟨v, rfl, hR, hb1⟩
  obtain ⟨ao, c, rfl, hE⟩ := hR.evs hwl
  have hT := hT0 ao c w1 hE
  obtain ⟨n, hn⟩ : ∃ n, X.length = n := ⟨_, rfl⟩
  rw [hn] at hT ⊢
  clear hR hE hL hn hT0
  go_wp2_with fail
  refine Calls.mono hT ?_
  rintro e w2 ⟨rfl, hb2⟩
  have FIN : Hid (Below w.heap.size w w2) := hb1.trans (hb2.mono hb1.size)
  clear hb1 hb2
  go_wp2
  go_ret2
  exact ⟨rfl, FIN.out⟩
theorem svv_any (Y : Lay) (w : World) (g : Nat) (s : St) (x : Option Key) (hS : SpK Y w g s x) :
    Calls Tryz.prog 12 #[.pointer (some ⟨g, 0, none⟩)] w fun e w' => e = .returned (.agg (vals s.seen)) ∧ Below w.heap.size w w' := by
  have hb0 : Below w.heap.size w (w.alloc (.cells (vals zeros) 25)) := (Below.refl _ w).alloc (Nat.le_refl _) _
  have hz0 := lies_new w zeros
  have hS0 := hS.below hb0 (Nat.le_refl _)
  have hls := load_seen hS0
  have hl16 := hS.len
  have hst := store_vv hz0 rfl hl16
  have hor := sorz_some g (w.alloc (.cells (vals zeros) 25))
  have hL := setRow_heap (w.alloc (.cells (vals zeros) 25)) w.heap.size _ (vals s.seen) _ _ hz0
  have FIN : Hid (Below w.heap.size w ((w.alloc (.cells (vals zeros) 25)).setRow w.heap.size (vals s.seen))) := below_setRow hb0 (Nat.le_refl _) _
  clear hS hS0 hb0
  generalize hW0 : w.alloc (.cells (vals zeros) 25) = W0 at *
  rw [zeros_vals] at hW0
  obtain ⟨W1, hW1⟩ : ∃ W1, W0.setRow w.heap.size (vals s.seen) = W1 := ⟨_, rfl⟩
  rw [hW1] at hst hL FIN
  generalize s.seen = v at *
  have hLL : Lies W1 w.heap.size v := hL
  clear hL hW1 hz0
  go_enter Tryz.func12, Tryz.ntmps12
  go_wp2_with fail
  refine Calls.mono hor ?_
  rintro e w1 ⟨rfl, hw1⟩
  obtain rfl := hw1.symm
  go_wp2_with (first
    | (refine wpList_loadR (ty := 25) (x := .tmp 6) (ad := ⟨g, 0, none⟩) (v := .agg (vals v)) rfl rfl rfl hls ?_)
    | (refine wpList_storeR (ty := 25) (x := .tmp 2) (y := .tmp 7) (ad := ⟨w.heap.size, 0, none⟩) (v := .agg (vals v)) (w' := W1) rfl rfl rfl rfl hst ?_))
  refine ret_vec rfl rfl rfl hLL hl16 ?_
  exact ⟨rfl, FIN.out⟩
set_option maxHeartbeats 1000000 in
theorem sfew_any (ao : Option Addr) (m c : Nat) (E : List Ev) (w : World) (hE : Evs w ao m c E) :
    Calls Tryz.prog 9 #[.slice ao m c] w fun e w' => ∃ t : Bool, e = .returned (.bool t) ∧ (t = true → m ≤ 60) ∧ Below w.heap.size w w' := by
  have HE : Aside (Evs w ao m c E) := hE
  clear hE
  by_cases hbig : 60 < m
  · have hz : (60 : Int) < (m : Int) := by omega
    go_enter Tryz.func9, Tryz.ntmps9
    go_wp2
    go_ret
    exact ⟨_, rfl, by simp, Below.refl _ _⟩
  · have hz : ¬ (60 : Int) < (m : Int) := by omega
    go_enter Tryz.func9, Tryz.ntmps9
    go_wp2
    go_loopg [9] m (fun kx s9 wr => ∃ i : Nat, s9 = .int .i64 i ∧ i ≤ m ∧ m - i ≤ kx ∧ Below w.heap.size w wr)
    case atStart => exact ⟨0, rfl, Nat.zero_le _, by omega, Below.refl _ _⟩
    case round =>
      obtain ⟨i, rfl, him, hkx, hb⟩ := hrel
      by_cases hlt : i < m
      · have hltz : (i : Int) < (m : Int) := by omega
        obtain ⟨b, off, u, rfl, hui, hu, hr, hbl⟩ := (HE.out.below hb (Nat.le_refl _)).at hlt
        have hix := fun W : World => index_ev W (b := b) (off := off) (k := i) (m := m) (c := c) hlt
        have ck := range_key hr hu.1
        have cf := range_field hr hu.1
        have cv := range_value hr hu.1
        have HB : Hid (Below w.heap.size w wr) := hb
        clear hr hb
        obtain ⟨y, hyy⟩ : ∃ y, IntKind.i64.wrap (((sb u.key).size : Int) + ((sb u.field).size : Int)) = y := ⟨_, rfl⟩
        obtain ⟨z, hzz⟩ : ∃ z, IntKind.i64.wrap (y + ((sb u.value).size : Int)) = z := ⟨_, rfl⟩
        by_cases hg : 1000 < z
        · have hgb : decide (1000 < z) = true := decide_eq_true hg
          go_wp2_with fail
          go_quiet (fail)
          go_wp2
          go_ret
          exact ⟨_, rfl, fun _ => by omega, Below.drewN HB.out nq⟩
        · have hgb : decide (1000 < z) = false := decide_eq_false hg
          go_wp2_with fail
          go_quiet (fail)
          go_wp2
          go_roundg (m - (i + 1))
          case measure => omega
          case rel => exact ⟨i + 1, by go_num, by omega, Nat.le_refl _, Below.drewN HB.out nq⟩
      · have hltz : ¬ (i : Int) < (m : Int) := by omega
        have HB : Hid (Below w.heap.size w wr) := hb
        clear hb
        go_wp2
        go_ret
        exact .inr ⟨rfl, by omega, HB.out⟩
end Go.Proofs.YthlebgioamcioabGreat

/-
  What awake comes to.
-/
namespace Go.Proofs.YthlebgioamcioabGreat
set_option maxRecDepth 100000
open Go.RowKit

def awE : Ev := ⟨0, 1, 0, zeros, 1, [107], [], [118], 0, 0, 0⟩
def awS : St := applyS st0 awE
def awV : List Int := [1, 0, 0, 0, 0, 0, 0, 0, 0, 0, 0, 0, 0, 0, 0, 0]
theorem aw_ready : readyE st0 awE = true := by kernel_rfl
theorem aw_err : applyE st0 awE = 0 := by kernel_rfl
theorem aw_L : awS.L = [awE] := by kernel_rfl
theorem aw_seen : awS.seen = awV := by kernel_rfl
theorem aw_text : (orz (latL setE (ofE (ofKeyE [107] awS.L) [107]))).value = [118] ∧ (latL setE (ofE (ofKeyE [107] awS.L) [107])).isSome = true := by
  rw [aw_L]
  exact ⟨by kernel_rfl, by kernel_rfl⟩
theorem aw_type : typeE (ofKeyE [107] awS.L) [107] = 1 := by
  rw [aw_L]
  kernel_rfl
theorem aw_wide : Wide awE := ⟨rfl, by simp [awE], by simp [awE], by simp [awE]⟩
theorem aw_b1 (w : World) : (Instr.build 23 #[(1, .int .i64 1)]).run Tryz.prog w = .ok (.agg (dotc 0 1)) w := by kernel_rfl
theorem aw_b2 (w : World) : (Instr.build 27 #[(0, .int .i64 1), (1, .string ⟨#[107]⟩), (3, .string ⟨#[118]⟩)]).run Tryz.prog w = .ok (.agg (opc awE)) w := by kernel_rfl
theorem aw_b3 (w : World) : (Instr.build 29 #[(0, .agg (dotc 0 1)), (3, .agg (opc awE))]).run Tryz.prog w = .ok (.agg (evc awE)) w := by kernel_rfl
theorem aw_b4 (w : World) : (Instr.build 25 #[(0, .int .i64 1)]).run Tryz.prog w = .ok (.agg (vals awV)) w := by kernel_rfl
section
variable {P : Program} {w : World} {ops : Array Oper} {rest : List Oper} {o : Oper} {a : Act} {Q : Exit → Act → World → Prop} {x y z : Operand} {ty : TypeId} {v p q r : Value} {i j k : Nat}
theorem wpList_b1 (hw : Region.wanted o (yielded ops a.tmps) = true) (ho : o.op = .build ty #[(i, x)]) (hx : a.eval x = p) (hr : (Instr.build ty #[(i, p)]).run P w = .ok v w) (hK : wpList P ops Q rest (a.put o.dst v) w) : wpList P ops Q (o :: rest) a w := by
  refine wpList_step fun K hK' => ?_
  rw [if_pos hw]
  unfold Oper.wp execOp
  simp only [ho, List.map_toArray, List.map_cons, List.map_nil, hx, Sem.run_bind, Sem.run_pure, Result.andThen_ok, hr]
  exact hK' _ _ hK
theorem wpList_b2 (hw : Region.wanted o (yielded ops a.tmps) = true) (ho : o.op = .build ty #[(i, x), (j, y)]) (hx : a.eval x = p) (hy : a.eval y = q) (hr : (Instr.build ty #[(i, p), (j, q)]).run P w = .ok v w) (hK : wpList P ops Q rest (a.put o.dst v) w) : wpList P ops Q (o :: rest) a w := by
  refine wpList_step fun K hK' => ?_
  rw [if_pos hw]
  unfold Oper.wp execOp
  simp only [ho, List.map_toArray, List.map_cons, List.map_nil, hx, hy, Sem.run_bind, Sem.run_pure, Result.andThen_ok, hr]
  exact hK' _ _ hK
theorem wpList_b3 (hw : Region.wanted o (yielded ops a.tmps) = true) (ho : o.op = .build ty #[(i, x), (j, y), (k, z)]) (hx : a.eval x = p) (hy : a.eval y = q) (hz : a.eval z = r) (hr : (Instr.build ty #[(i, p), (j, q), (k, r)]).run P w = .ok v w) (hK : wpList P ops Q rest (a.put o.dst v) w) : wpList P ops Q (o :: rest) a w := by
  refine wpList_step fun K hK' => ?_
  rw [if_pos hw]
  unfold Oper.wp execOp
  simp only [ho, List.map_toArray, List.map_cons, List.map_nil, hx, hy, hz, Sem.run_bind, Sem.run_pure, Result.andThen_ok, hr]
  exact hK' _ _ hK
end
set_option maxHeartbeats 2000000 in
theorem sawake_any (w : World) : Calls Tryz.prog 8 #[] w fun e w' => e = .returned (.bool true) ∧ Below w.heap.size w w' := by
  have hN := new_any w
  have hS0 := sp_new w
  have hA0 := above_new w
  have hb0 : Below w.heap.size w (w.alloc (.cells (spc st0 none) 36)) := (Below.refl _ w).alloc (Nat.le_refl _) _
  generalize hW0 : w.alloc (.cells (spc st0 none) 36) = W0 at *
  obtain ⟨g, hg⟩ : ∃ g, w.heap.size = g := ⟨_, rfl⟩
  rw [hg] at hN hS0 hA0
  have hAp := apply_any lay0 W0 g st0 awE hS0 inv0 aw_wide (by simp [st0])
  rw [aw_err] at hAp
  have hne := eql_ps W0 ⟨g, 0, none⟩
  have hb1 := aw_b1 W0
  have hb2 := aw_b2 W0
  have hb3 := aw_b3 W0
  have HB0 : Hid (Below g w W0) := hg ▸ hb0
  have HA0 : Hid (Above g g lay0) := hA0
  have hsz : g ≤ W0.heap.size := hg ▸ hb0.size
  clear hS0 hA0 hb0
  go_enter Tryz.func8, Tryz.ntmps8
  go_wp2_with fail
  refine Calls.mono hN ?_
  rintro e w1 ⟨rfl, hw1⟩
  obtain rfl := hw1.symm
  go_wp2_with (first
    | (refine wpList_b1 (ty := 23) (i := 1) (x := .const (.int .i64 1)) (p := .int .i64 1) (v := .agg (dotc 0 1)) rfl rfl rfl hb1 ?_)
    | (refine wpList_b3 (ty := 27) (i := 0) (j := 1) (k := 3) (x := .const (.int .i64 1)) (y := .const (.string ⟨#[107]⟩)) (z := .const (.string ⟨#[118]⟩)) (p := .int .i64 1) (q := .string ⟨#[107]⟩) (r := .string ⟨#[118]⟩) (v := .agg (opc awE)) rfl rfl rfl rfl rfl hb2 ?_)
    | (refine wpList_b2 (ty := 29) (i := 0) (j := 3) (x := .tmp 9) (y := .tmp 10) (p := .agg (dotc 0 1)) (q := .agg (opc awE)) (v := .agg (evc awE)) rfl rfl rfl rfl hb3 ?_))
  refine Calls.mono hAp ?_
  rintro e w2 ⟨rfl, Y2, hS2, ht2⟩
  obtain ⟨hbt, -⟩ := ht2.below HA0.out hsz
  have HB2 : Hid (Below g w w2) := HB0.out.trans hbt
  have hsz2 : g ≤ w2.heap.size := Nat.le_trans hsz ht2.size
  have hS2' : SpK Y2 w2 g awS none := hS2
  have hlL : awS.L.length ≤ 1000 := by rw [aw_L]; simp
  have hTx := stext_any Y2 w2 g awS [107] hS2' hlL
  rw [aw_text.1, aw_text.2] at hTx
  have HS2 : Hid (SpK Y2 w2 g awS none) := hS2'
  clear hAp hS2 ht2 hbt hS2' hb1 hb2 hb3 hne hN
  have esb : (sb [107]) = ⟨#[107]⟩ := rfl
  have esv : (sb [118]) = ⟨#[118]⟩ := rfl
  rw [esb, esv] at hTx
  go_wp2_with fail
  refine Calls.mono hTx ?_
  rintro e w3 ⟨rfl, hb3⟩
  have HB3 : Hid (Below g w w3) := HB2.out.trans (hb3.mono hsz2)
  have hsz3 : g ≤ w3.heap.size := Nat.le_trans hsz2 hb3.size
  have HS3 : Hid (SpK Y2 w3 g awS none) := HS2.out.below hb3 (Nat.le_refl _)
  have hTy := stype_any Y2 w3 g awS [107] HS3.out hlL
  rw [aw_type, esb] at hTy
  clear hTx hb3
  go_wp2_with fail
  refine Calls.mono hTy ?_
  rintro e w4 ⟨rfl, hb4⟩
  have HB4 : Hid (Below g w w4) := HB3.out.trans (hb4.mono hsz3)
  have hsz4 : g ≤ w4.heap.size := Nat.le_trans hsz3 hb4.size
  have HS4 : Hid (SpK Y2 w4 g awS none) := HS3.out.below hb4 (Nat.le_refl _)
  have hVV := svv_any Y2 w4 g awS none HS4.out
  rw [aw_seen] at hVV
  clear hTy hb4
  go_wp2_with fail
  refine Calls.mono hVV ?_
  rintro e w5 ⟨rfl, hb5⟩
  have FIN : Hid (Below g w w5) := HB4.out.trans (hb5.mono hsz4)
  have hb6 := aw_b4 w5
  have heq : (Op.equalIn 10000 25 (.agg (vals awV)) (.agg (vals awV))).run Tryz.prog w5 = .ok true w5 := by
    rw [run_equalIn_vec w5 9998 awV awV rfl rfl]
    simp
  have hgd := plain_vec
  generalize vals awV = vv at *
  clear hVV hb5
  go_wp2_with (first | (refine wpList_b1 (ty := 25) (i := 0) (x := .const (.int .i64 1)) (p := .int .i64 1) (v := .agg vv) rfl rfl rfl hb6 ?_))
  go_ret
  exact ⟨rfl, by rw [hg]; exact FIN.out⟩
end Go.Proofs.YthlebgioamcioabGreat

/-
  SpaceReady: what is ready is seen, and nothing else; what isn't seen changes nothing.
-/
namespace Go.Proofs.YthlebgioamcioabGreat
set_option maxRecDepth 100000
open Go.RowKit

theorem putE_len (L : List Ev) (e : Ev) : (putE L e).length ≤ L.length + 1 := by
  unfold putE
  have h := (filter_or_perm (fun a => befE a e) (fun a => befE e a) L (fun i _ h => by have := befE_asymm h.1; rw [h.2] at this; cases this)).length_eq
  have h2 := List.length_filter_le (fun i => befE i e || befE e i) L
  rw [List.length_append] at h
  rw [List.length_append, List.length_cons]
  omega
theorem putD_len (L : List Ed) (d : Ed) : (putD L d).length ≤ L.length + 1 := by
  unfold putD
  have h := (filter_or_perm (fun a : Ed => befE a.push d.push) (fun a => befE d.push a.push) L (fun i _ h => by have := befE_asymm h.1; rw [h.2] at this; cases this)).length_eq
  have h2 := List.length_filter_le (fun i : Ed => befE i.push d.push || befE d.push i.push) L
  rw [List.length_append] at h
  rw [List.length_append, List.length_cons]
  omega
theorem dead_grows {e : Ev} : ∀ (L : List Ev) (DL : List Ed), (deadTo e L DL).length + (L.filter fun a => !endsE e a).length ≤ DL.length + L.length
  | [], DL => by simp [deadTo]
  | a :: L, DL => by
    have ih := dead_grows (e := e) L (if fell e a then putD DL ⟨a, e.r, e.n⟩ else DL)
    have hst : deadTo e (a :: L) DL = deadTo e L (if fell e a then putD DL ⟨a, e.r, e.n⟩ else DL) := rfl
    rw [hst, List.length_cons]
    cases hf : fell e a
    · rw [hf] at ih
      simp only [Bool.false_eq_true, if_false] at ih ⊢
      have : ((a :: L).filter fun a => !endsE e a).length ≤ (L.filter fun a => !endsE e a).length + 1 := by
        rw [List.filter_cons]
        split
        · simp
        · omega
      omega
    · have he : endsE e a = true := by
        unfold fell at hf
        rw [Bool.and_eq_true] at hf
        exact hf.1
      rw [hf] at ih
      simp only [if_true] at ih ⊢
      have := putD_len DL ⟨a, e.r, e.n⟩
      rw [List.filter_cons_of_neg (by simp [he])]
      omega
theorem see_len (s : St) (e : Ev) : (seeE s e).L.length + (seeE s e).DL.length ≤ s.L.length + s.DL.length + 1 := by
  have h := dead_grows (e := e) s.L s.DL
  unfold seeE
  simp only
  split
  · have := putE_len (s.L.filter fun a => !endsE e a) e
    omega
  · omega
/-- What holds of a space all along. -/
structure All (s : St) (n : Nat) : Prop where
  i1 : Inv s
  i2 : Inv2 s
  len : s.L.length + s.DL.length ≤ n
theorem all0 : All st0 0 := ⟨inv0, inv20, by simp [st0]⟩
theorem All.apply {s : St} {n : Nat} {e : Ev} (h : All s n) (hw : Wide e) : All (applyS s e) (n + 1) := by
  unfold applyS
  split
  · rename_i hr
    exact ⟨inv_see h.i1 hw hr, inv2_see h.i2 hw hr, by have := see_len s e; have := h.len; omega⟩
  · exact ⟨h.i1, h.i2, by have := h.len; omega⟩
theorem err_ready (s : St) (e : Ev) : (applyE s e == 0) = readyE s e := by
  unfold applyE
  cases ho : okev e
  · have : readyE s e = false := by unfold readyE; rw [ho]; rfl
    rw [this]; rfl
  · cases hr : readyE s e <;> rfl
theorem seen_new {s : St} {e : Ev} (hI : Inv s) (h : readyE s e = true) : (seeE s e).seen ≠ s.seen ∧ readyE (seeE s e) e = false := by
  have h' := h
  unfold readyE at h'
  simp only [Bool.and_eq_true, decide_eq_true_eq] at h'
  obtain ⟨hd, hn⟩ := with_zero h'.2.1
  have hd' := okdot_iff.1 hd
  have hl := hI.len
  have hg : (seeE s e).seen.getD e.r.toNat 0 = e.n := by
    show (s.seen.set e.r.toNat e.n).getD e.r.toNat 0 = e.n
    rw [getD_set (by omega), if_pos rfl]
  refine ⟨fun e1 => ?_, ?_⟩
  · rw [e1] at hg; omega
  · cases hr : readyE (seeE s e) e
    · rfl
    · unfold readyE at hr
      simp only [Bool.and_eq_true, decide_eq_true_eq] at hr
      obtain ⟨-, h2⟩ := with_zero hr.2.1
      rw [hg] at h2
      omega
theorem ready_twice {s : St} {e : Ev} (hI : Inv s) : readyE (applyS s e) e = false := by
  unfold applyS
  split
  · rename_i hr
    exact (seen_new hI hr).2
  · rename_i hr
    simpa using hr
theorem neq_same (w : World) (a : ByteArray) : (binOp .neq 9 (.string a) (.string a)).run Tryz.prog w = .ok (.bool false) w := by
  have h3 : Tryz.prog.underlying 9 = some .string := by kernel_rfl
  go_simp
theorem neqB (w : World) (a b : Bool) {t : Bool} (h : (a != b) = t) : (binOp .neq 4 (.bool a) (.bool b)).run Tryz.prog w = .ok (.bool t) w := by
  subst h
  cases a <;> cases b <;> kernel_rfl
theorem eqGB (w : World) {op : BinOp} {x y : Operand} (a b : Bool) : (eqGuard op 4 x y (.bool a) (.bool b)).run Tryz.prog w = .ok () w := by go_simp
theorem y_not {o : Oper} {a : Act} {w : World} {x : Operand} {b : Bool} (ho : o.op = .unOp .not 4 x) (hx : a.eval x = .bool b) : (execOp a.eval o).run Tryz.prog w = .ok (.value (.bool (!b))) w := by
  have h3 : Tryz.prog.underlying 4 = some .bool := by kernel_rfl
  unfold execOp
  simp only [ho, hx]
  go_simp
theorem load_vvx {w : World} {g : Nat} {l : List Int} (h : Lies w g l) (hl : l.length = 16) : (loadVar 25 ⟨g, 0, none⟩).run Tryz.prog w = .ok (.agg (vals l)) w :=
  run_loadVar_row w g 25 25 _ (0, 0) _ h Tryz.underlying25 rfl (size16 l hl)
theorem enters_senc (xs : Array Value) (w : World) : (callFunc 19 xs).run Tryz.prog w = .ok (.enter 19 xs) w := enters Tryz.func19 (by kernel_rfl) (by kernel_rfl) xs w
theorem enters_svv (xs : Array Value) (w : World) : (callFunc 12 xs).run Tryz.prog w = .ok (.enter 12 xs) w := enters Tryz.func12 (by kernel_rfl) (by kernel_rfl) xs w
/-- Between two rounds. -/
structure Rn (w : World) (ao : Option Addr) (m c : Nat) (E : List Ev) (g : Nat) (i : Nat) (Y : Lay) (s : St) (wr : World) : Prop where
  sp : SpK Y wr g s none
  al : All s i
  ab : Above w.heap.size g Y
  be : Below w.heap.size w wr
  ev : Evs w ao m c E
theorem Rn.below {w : World} {ao : Option Addr} {m c : Nat} {E : List Ev} {g i : Nat} {Y : Lay} {s : St} {wr wx : World} (h : Rn w ao m c E g i Y s wr) (hb : Below wr.heap.size wr wx) : Rn w ao m c E g i Y s wx :=
  ⟨h.sp.below hb (Nat.le_refl _), h.al, h.ab, h.be.trans (hb.mono h.be.size), h.ev⟩
set_option maxHeartbeats 8000000 in
theorem lready_walk (ao : Option Addr) (m c : Nat) (E : List Ev) (w : World) (hE : Evs w ao m c E) :
    Calls Tryz.prog 4 #[.slice ao m c] w fun e w' => e = .returned (.bool true) ∧ Below w.heap.size w w' := by
  have HE : Aside (Evs w ao m c E) := hE
  have hlen := hE.len
  clear hE
  go_enter Tryz.func4, Tryz.ntmps4
  go_wp2_with fail
  refine (sawake_any w).mono ?_
  rintro e w1 ⟨rfl, hb1⟩
  have hE1 := HE.out.below hb1 (Nat.le_refl _)
  have HB1 : Hid (Below w.heap.size w w1) := hb1
  clear hb1
  go_wp2_with fail
  refine (sfew_any ao m c E w1 hE1).mono ?_
  rintro e w2 ⟨t, rfl, hfew, hb2⟩
  have HB2 : Hid (Below w.heap.size w w2) := HB1.out.trans (hb2.mono HB1.out.size)
  clear hb2 hE1 HB1
  cases t with
  | false =>
    go_wp2_with fail
    refine (sawake_any w2).mono ?_
    rintro e w3 ⟨rfl, hb3⟩
    have HB3 : Hid (Below w.heap.size w w3) := HB2.out.trans (hb3.mono HB2.out.size)
    clear hb3
    go_wp2
    go_ret
    exact ⟨rfl, HB3.out⟩
  | true =>
    have hm : m ≤ 60 := hfew rfl
    clear hfew
    have hN := new_any w2
    have hR0 : Rn w ao m c E w2.heap.size 0 lay0 st0 (w2.alloc (.cells (spc st0 none) 36)) := ⟨sp_new w2, all0, ⟨HB2.out.size, fun k e => (by cases e), fun k e => absurd rfl e⟩, HB2.out.alloc HB2.out.size _, HE.out⟩
    generalize w2.alloc (.cells (spc st0 none) 36) = W0 at *
    obtain ⟨g, hg⟩ : ∃ g, w2.heap.size = g := ⟨_, rfl⟩
    rw [hg] at hN hR0
    have HR0 : Aside (Rn w ao m c E g 0 lay0 st0 W0) := hR0
    clear hR0 HE
    go_wp2_with fail
    refine Calls.mono hN ?_
    rintro e w3 ⟨rfl, hw3⟩
    obtain rfl := hw3.symm
    clear hN
    go_wp2_with fail
    go_loopw [4, 5, 6, 7, 8, 20] (fun _ _ _ _ _ c0 wr => ∃ (i : Nat) (Y : Lay) (s : St), i ≤ m ∧ c0 = .int .i64 (i : Int) ∧ Aside (Rn w ao m c E g i Y s wr)) (fun _ _ _ _ _ c0 _ => m - (intOf c0).toNat)
    case atStart => exact ⟨0, lay0, st0, Nat.zero_le _, rfl, HR0⟩
    case round =>
      clear HR0
      obtain ⟨i, Y, s, him, rfl, HR⟩ := hrel
      by_cases hlt : i < m
      · have hlt' : (i : Int) < (m : Int) := by omega
        have hll := HR.out.al.len
        have hEn := sencode_any Y wr g s HR.out.sp HR.out.al.i2 (by omega) (by omega)
        have l16 := HR.out.sp.len
        obtain ⟨tx, htx⟩ : ∃ tx, sb (encS s) = tx := ⟨_, rfl⟩
        have HTX : Hid (sb (encS s) = tx) := htx
        rw [htx] at hEn
        clear htx
        go_wp2_with fail
        refine Calls.mono hEn ?_
        rintro e w4 ⟨rfl, hb4⟩
        have HR4 : Aside (Rn w ao m c E g i Y s w4) := HR.out.below hb4
        have hVV := svv_any Y w4 g s none HR4.out.sp
        clear hEn hb4 HR
        go_wp2_with fail
        refine Calls.mono hVV ?_
        rintro e w5 ⟨rfl, hb5⟩
        have HR5 : Aside (Rn w ao m c E g i Y s w5) := HR4.out.below hb5
        have hz5 := lies_new w5 zeros
        have hst5 := store_vv hz5 rfl l16
        have hb6 : Below w5.heap.size w5 ((w5.alloc (.cells (vals zeros) 25)).setRow w5.heap.size (vals s.seen)) := below_setRow ((Below.refl _ w5).alloc (Nat.le_refl _) _) (Nat.le_refl _) _
        have hL6 : Lies ((w5.alloc (.cells (vals zeros) 25)).setRow w5.heap.size (vals s.seen)) w5.heap.size s.seen := setRow_heap (w5.alloc (.cells (vals zeros) 25)) w5.heap.size _ (vals s.seen) _ _ hz5
        obtain ⟨Wz, hWz⟩ : ∃ Wz, w5.alloc (.cells (vals zeros) 25) = Wz := ⟨_, rfl⟩
        obtain ⟨W6, hW6⟩ : ∃ W6, Wz.setRow w5.heap.size (vals s.seen) = W6 := ⟨_, rfl⟩
        rw [hWz, hW6] at hb6 hL6 hst5
        have HR6 : Aside (Rn w ao m c E g i Y s W6) := HR5.out.below hb6
        obtain ⟨Bv, hBv⟩ : ∃ Bv, w5.heap.size = Bv := ⟨_, rfl⟩
        rw [hBv] at hst5 hL6
        have HL6 : Hid (Lies W6 Bv s.seen) := hL6
        have HFR : Hid (Free Y g Bv) := hBv ▸ HR5.out.sp.free
        rw [zeros_vals] at hWz
        clear hVV hb5 hz5 hb6 hL6 hW6 HR4
        obtain ⟨b, off, u, hao, hui, hu, hr, hbl⟩ := (HR6.out.ev.below HR6.out.be (Nat.le_refl _)).at hlt
        subst hao
        have hix := fun W : World => index_ev W (b := b) (off := off) (k := i) (m := m) (c := c) hlt
        have hu16 := hu.1
        have hRe := ready_any Y W6 g s u HR6.out.sp hu
        obtain ⟨r, hrr⟩ : ∃ r, readyE s u = r := ⟨_, rfl⟩
        have HRR : Hid (readyE s u = r) := hrr
        rw [hrr] at hRe
        clear hrr
        have hix6 := hix W6
        go_wp2_with (first
          | (refine wpList_storeR (ty := 25) (x := .tmp 6) (y := .tmp 26) (ad := ⟨Bv, 0, none⟩) (v := .agg (vals s.seen)) (w' := W6) rfl rfl rfl rfl hst5 ?_)
          | refine load_ev_mid rfl rfl rfl hr hu16 ?_)
        clear hst5 hWz
        refine Calls.mono hRe ?_
        rintro e w7 ⟨rfl, hb7⟩
        have HR7 : Aside (Rn w (some ⟨b, off, none⟩) m c E g i Y s w7) := HR6.out.below hb7
        have hr7 := range_below hr hb7 hbl
        have HL7 : Hid (Lies w7 Bv s.seen) := HL6.out.below hb7 HL6.out.lt
        have hbl7 := Nat.lt_of_lt_of_le hbl hb7.size
        have hAp := apply_any Y w7 g s u HR7.out.sp HR7.out.al.i1 hu (by omega)
        have hx0 : (applyE s u == 0) = r := by rw [← HRR.out]; exact err_ready s u
        obtain ⟨x, hxx⟩ : ∃ x, applyE s u = x := ⟨_, rfl⟩
        rw [hxx] at hAp hx0
        clear hRe hr hb7 hbl HR6 HL6 hxx hix6
        have hix7 := hix w7
        go_wp2_with (first | refine load_ev_mid rfl rfl rfl hr7 hu16 ?_)
        refine Calls.mono hAp ?_
        rintro e w8 ⟨rfl, Y8, hS8, ht8⟩
        obtain ⟨hbe8, hab8⟩ := ht8.below HR7.out.ab HR7.out.be.size
        have HR8 : Aside (Rn w (some ⟨b, off, none⟩) m c E g (i + 1) Y8 (applyS s u) w8) := ⟨hS8, HR7.out.al.apply hu, hab8, HR7.out.be.trans hbe8, HR7.out.ev⟩
        have HL8 : Hid (Lies w8 Bv s.seen) := by
          show w8.heap[Bv]? = _
          rw [ht8.block Bv HL7.out.lt HFR.out.g HFR.out.km HFR.out.own]
          exact HL7.out
        have HI : Hid (Inv s) := HR7.out.al.i1
        clear hAp hr7 HR7 HL7 hS8 ht8 hbe8 hab8 HFR hbl7 hix7
        go_upto_region 10 with fail
        go_cut [61] from 39 to 68 (fun v61 wz => v61 = .bool false ∧ Aside (Rn w (some ⟨b, off, none⟩) m c E g (i + 1) Y8 (applyS s u) wz))
        case first =>
          have hbd : Below w8.heap.size w8 w8.drew := (Below.refl _ w8).drew
          have HRd : Aside (Rn w (some ⟨b, off, none⟩) m c E g (i + 1) Y8 (applyS s u) w8.drew) := HR8.out.below hbd
          have hHs : Lies w8.drew Bv s.seen := HL8.out
          cases r with
          | false =>
            have hs : applyS s u = s := by unfold applyS; rw [HRR.out]; rfl
            have hll2 := HRd.out.al.len
            have hEn := sencode_any Y8 w8.drew g (applyS s u) HRd.out.sp HRd.out.al.i2 (by omega) (by omega)
            have hEn2 : Calls Tryz.prog 19 #[.pointer (some ⟨g, 0, none⟩)] w8.drew fun e w' => e = .returned (.string tx) ∧ Below w8.drew.heap.size w8.drew w' := by
              rw [hs, HTX.out] at hEn
              exact hEn
            have HEN : Hid _ := hEn2
            clear hEn hEn2 hs hbd HR8 HL8
            refine wp_region_noPanic ?_
            refine wp_region_held_drew (S := fun W' : World => Lies W' Bv s.seen) (by kernel_rfl) hHs (fun hHeld => ?_)
            refine wpAnyH_take (i := 0) (oi := { dst := some 39, op := _, type := _, pos := _, after := _, guard := _ }) (v := .bool false) rfl (by kernel_rfl) (by kernel_rfl) (by kernel_rfl) (fun _ _ _ h => h) (Or.inl ⟨by rfl, ?_⟩) (by assumption) ?_
            · intro w9 hSw
              exact y_move rfl rfl
            simp only [Act.put, List.setIfInBounds_toArray, List.set_cons_zero, List.set_cons_succ]
            refine wpAnyH_take (i := 1) (oi := { dst := some 40, op := _, type := _, pos := _, after := _, guard := _ }) (v := .int .i64 x) rfl (by kernel_rfl) (by kernel_rfl) (by kernel_rfl) (fun _ _ _ h => h) (Or.inl ⟨by rfl, ?_⟩) (by assumption) ?_
            · intro w9 hSw
              exact y_move rfl rfl
            simp only [Act.put, List.setIfInBounds_toArray, List.set_cons_zero, List.set_cons_succ]
            refine wpAnyH_take (i := 2) (oi := { dst := some 41, op := _, type := _, pos := _, after := _, guard := _ }) (v := .bool false) rfl (by kernel_rfl) (by kernel_rfl) (by kernel_rfl) (fun _ _ _ h => h) (Or.inl ⟨by rfl, ?_⟩) (by assumption) ?_
            · intro w9 hSw
              exact exec_bin rfl rfl rfl (eqGuard_er _ _ _) (eql_er _ hx0)
            simp only [Act.put, List.setIfInBounds_toArray, List.set_cons_zero, List.set_cons_succ]
            refine wpAnyH_take (i := 3) (oi := { dst := some 42, op := _, type := _, pos := _, after := _, guard := _ }) (v := .bool false) rfl (by kernel_rfl) (by kernel_rfl) (by kernel_rfl) (fun _ _ _ h => h) (Or.inl ⟨by rfl, ?_⟩) (by assumption) ?_
            · intro w9 hSw
              exact exec_bin rfl rfl rfl (eqGB _ _ _) (neqB _ false false rfl)
            simp only [Act.put, List.setIfInBounds_toArray, List.set_cons_zero, List.set_cons_succ]
            refine wpAnyH_take (i := 4) (oi := { dst := some 43, op := _, type := _, pos := _, after := _, guard := _ }) (v := .bool false) rfl (by kernel_rfl) (by kernel_rfl) (by kernel_rfl) (fun _ _ _ h => h) (Or.inl ⟨by rfl, ?_⟩) (by assumption) ?_
            · intro w9 hSw
              exact y_move rfl rfl
            simp only [Act.put, List.setIfInBounds_toArray, List.set_cons_zero, List.set_cons_succ]
            refine wpAnyH_take (i := 5) (oi := { dst := some 44, op := _, type := _, pos := _, after := _, guard := _ }) (v := .bool false) rfl (by kernel_rfl) (by kernel_rfl) (by kernel_rfl) (fun _ _ _ h => h) (Or.inl ⟨by rfl, ?_⟩) (by assumption) ?_
            · intro w9 hSw
              exact y_move rfl rfl
            simp only [Act.put, List.setIfInBounds_toArray, List.set_cons_zero, List.set_cons_succ]
            refine wpAnyH_take (i := 6) (oi := { dst := some 45, op := _, type := _, pos := _, after := _, guard := _ }) (v := .bool true) rfl (by kernel_rfl) (by kernel_rfl) (by kernel_rfl) (fun _ _ _ h => h) (Or.inl ⟨by rfl, ?_⟩) (by assumption) ?_
            · intro w9 hSw
              exact y_not (x := .tmp 44) (b := false) rfl rfl
            simp only [Act.put, List.setIfInBounds_toArray, List.set_cons_zero, List.set_cons_succ]
            refine wpAnyH_take (i := 7) (oi := { dst := some 46, op := _, type := _, pos := _, after := _, guard := _ }) (v := .bool true) rfl (by kernel_rfl) (by kernel_rfl) (by kernel_rfl) (fun _ _ _ h => h) (Or.inl ⟨by rfl, ?_⟩) (by assumption) ?_
            · intro w9 hSw
              exact y_move rfl rfl
            simp only [Act.put, List.setIfInBounds_toArray, List.set_cons_zero, List.set_cons_succ]
            refine wpAnyH_take (i := 8) (oi := { dst := some 47, op := _, type := _, pos := _, after := _, guard := _ }) (v := .pointer (some ⟨g, 0, none⟩)) rfl (by kernel_rfl) (by kernel_rfl) (by kernel_rfl) (fun _ _ _ h => h) (Or.inl ⟨by rfl, ?_⟩) (by assumption) ?_
            · intro w9 hSw
              exact y_move rfl rfl
            simp only [Act.put, List.setIfInBounds_toArray, List.set_cons_zero, List.set_cons_succ]
            refine wpAnyH_take (i := 10) (oi := { dst := some 49, op := _, type := _, pos := _, after := _, guard := _ }) (v := .string tx) rfl (by kernel_rfl) (by kernel_rfl) (by kernel_rfl) (fun _ _ _ h => h) (Or.inl ⟨by rfl, ?_⟩) (by assumption) ?_
            · intro w9 hSw
              exact y_move rfl rfl
            simp only [Act.put, List.setIfInBounds_toArray, List.set_cons_zero, List.set_cons_succ]
            clear hHeld
            refine wpAnyH_ready (rs := [9]) (by kernel_rfl) (by simp) ?_
            refine AllReadyH.cons (o := { dst := some 48, op := _, type := _, pos := _, after := _, guard := _ }) rfl (fun K hK => ?_) AllReadyH.nil
            rw [if_pos (by rfl)]
            refine y_call (f := 19) (xs := [.tmp 47]) (vs := [.pointer (some ⟨g, 0, none⟩)]) rfl rfl (enters_senc _ _) HEN.out ?_
            rintro e w9 ⟨rfl, hb9⟩
            refine ⟨_, rfl, ?_⟩
            have HR9 : Aside (Rn w (some ⟨b, off, none⟩) m c E g (i + 1) Y8 (applyS s u) w9) := HRd.out.below hb9
            refine hK.out _ _ (hHs.below hb9 hHs.lt) (fun hHeld => ?_)
            clear hK K
            simp only [Act.put, List.setIfInBounds_toArray, List.set_cons_zero, List.set_cons_succ]
            refine wpAnyH_take (i := 11) (oi := { dst := some 50, op := _, type := _, pos := _, after := _, guard := _ }) (v := .bool false) rfl (by kernel_rfl) (by kernel_rfl) (by kernel_rfl) (fun _ _ _ h => h) (Or.inl ⟨by rfl, ?_⟩) (by assumption) ?_
            · intro w9 hSw
              exact exec_bin rfl rfl rfl (eqGuard_str _) (neq_same _ tx)
            simp only [Act.put, List.setIfInBounds_toArray, List.set_cons_zero, List.set_cons_succ]
            refine wpAnyH_take (i := 12) (oi := { dst := some 51, op := _, type := _, pos := _, after := _, guard := _ }) (v := .bool false) rfl (by kernel_rfl) (by kernel_rfl) (by kernel_rfl) (fun _ _ _ h => h) (Or.inl ⟨by rfl, ?_⟩) (by assumption) ?_
            · intro w9 hSw
              exact exec_pick (b := true) rfl rfl rfl rfl
            simp only [Act.put, List.setIfInBounds_toArray, List.set_cons_zero, List.set_cons_succ]
            refine wpAnyH_take (i := 13) (oi := { dst := some 52, op := _, type := _, pos := _, after := _, guard := _ }) (v := .bool false) rfl (by kernel_rfl) (by kernel_rfl) (by kernel_rfl) (fun _ _ _ h => h) (Or.inl ⟨by rfl, ?_⟩) (by assumption) ?_
            · intro w9 hSw
              exact exec_pick (b := false) rfl rfl rfl rfl
            simp only [Act.put, List.setIfInBounds_toArray, List.set_cons_zero, List.set_cons_succ]
            refine wpAnyH_take (i := 14) (oi := { dst := some 53, op := _, type := _, pos := _, after := _, guard := _ }) (v := .bool false) rfl (by kernel_rfl) (by kernel_rfl) (by kernel_rfl) (fun _ _ _ h => h) (Or.inl ⟨by rfl, ?_⟩) (by assumption) ?_
            · intro w9 hSw
              exact y_move rfl rfl
            simp only [Act.put, List.setIfInBounds_toArray, List.set_cons_zero, List.set_cons_succ]
            refine wpAnyH_take (i := 15) (oi := { dst := some 54, op := _, type := _, pos := _, after := _, guard := _ }) (v := .bool false) rfl (by kernel_rfl) (by kernel_rfl) (by kernel_rfl) (fun _ _ _ h => h) (Or.inl ⟨by rfl, ?_⟩) (by assumption) ?_
            · intro w9 hSw
              exact y_move rfl rfl
            simp only [Act.put, List.setIfInBounds_toArray, List.set_cons_zero, List.set_cons_succ]
            refine wpAnyH_take (i := 16) (oi := { dst := some 55, op := _, type := _, pos := _, after := _, guard := _ }) (v := .bool false) rfl (by kernel_rfl) (by kernel_rfl) (by kernel_rfl) (fun _ _ _ h => h) (Or.inl ⟨by rfl, ?_⟩) (by assumption) ?_
            · intro w9 hSw
              exact y_move rfl rfl
            simp only [Act.put, List.setIfInBounds_toArray, List.set_cons_zero, List.set_cons_succ]
            refine wpAnyH_take (i := 17) (oi := { dst := some 56, op := _, type := _, pos := _, after := _, guard := _ }) (v := undef) rfl (by kernel_rfl) (by kernel_rfl) (by kernel_rfl) (fun _ _ _ h => h) (Or.inr ⟨by rfl, rfl⟩) (by assumption) ?_
            simp only [Act.put, List.setIfInBounds_toArray, List.set_cons_zero, List.set_cons_succ]
            refine wpAnyH_take (i := 18) (oi := { dst := some 57, op := _, type := _, pos := _, after := _, guard := _ }) (v := undef) rfl (by kernel_rfl) (by kernel_rfl) (by kernel_rfl) (fun _ _ _ h => h) (Or.inr ⟨by rfl, rfl⟩) (by assumption) ?_
            simp only [Act.put, List.setIfInBounds_toArray, List.set_cons_zero, List.set_cons_succ]
            refine wpAnyH_take (i := 19) (oi := { dst := some 58, op := _, type := _, pos := _, after := _, guard := _ }) (v := undef) rfl (by kernel_rfl) (by kernel_rfl) (by kernel_rfl) (fun _ _ _ h => h) (Or.inr ⟨by rfl, rfl⟩) (by assumption) ?_
            simp only [Act.put, List.setIfInBounds_toArray, List.set_cons_zero, List.set_cons_succ]
            refine wpAnyH_take (i := 20) (oi := { dst := some 59, op := _, type := _, pos := _, after := _, guard := _ }) (v := undef) rfl (by kernel_rfl) (by kernel_rfl) (by kernel_rfl) (fun _ _ _ h => h) (Or.inr ⟨by rfl, rfl⟩) (by assumption) ?_
            simp only [Act.put, List.setIfInBounds_toArray, List.set_cons_zero, List.set_cons_succ]
            refine wpAnyH_take (i := 21) (oi := { dst := some 60, op := _, type := _, pos := _, after := _, guard := _ }) (v := .bool false) rfl (by kernel_rfl) (by kernel_rfl) (by kernel_rfl) (fun _ _ _ h => h) (Or.inl ⟨by rfl, ?_⟩) (by assumption) ?_
            · intro w9 hSw
              exact exec_pick (b := false) rfl rfl rfl rfl
            simp only [Act.put, List.setIfInBounds_toArray, List.set_cons_zero, List.set_cons_succ]
            refine wpAnyH_take (i := 22) (oi := { dst := some 61, op := _, type := _, pos := _, after := _, guard := _ }) (v := .bool false) rfl (by kernel_rfl) (by kernel_rfl) (by kernel_rfl) (fun _ _ _ h => h) (Or.inl ⟨by rfl, ?_⟩) (by assumption) ?_
            · intro w9 hSw
              exact exec_pick (b := false) rfl rfl rfl rfl
            simp only [Act.put, List.setIfInBounds_toArray, List.set_cons_zero, List.set_cons_succ]
            refine wpAnyH_done (by kernel_rfl) ?_ _
            refine NoPanic.normal ?_
            clear hHeld
            go_wp2
            go_meet
            case rel => exact ⟨rfl, HR9⟩
          | true =>
            have hs : applyS s u = seeE s u := by unfold applyS; rw [HRR.out]; rfl
            have hne : (applyS s u).seen ≠ s.seen := by rw [hs]; exact (seen_new HI.out HRR.out).1
            have hVV := svv_any Y8 w8.drew g (applyS s u) none HRd.out.sp
            have HVV : Hid _ := hVV
            have hv16 := HRd.out.sp.len
            have hdf : decide ((applyS s u).seen = s.seen) = false := decide_eq_false hne
            have heq9 : ∀ W, (binOp .eql 25 (.agg (vals (applyS s u).seen)) (.agg (vals s.seen))).run Tryz.prog W = .ok (.bool false) W := fun W => by rw [run_eql_vec _ _ _ hv16 l16, hdf]
            clear hVV hs hne hbd HR8 HL8
            refine wp_region_noPanic ?_
            refine wp_region_held_drew (S := fun W' : World => Lies W' Bv s.seen) (by kernel_rfl) hHs (fun hHeld => ?_)
            refine wpAnyH_take (i := 0) (oi := { dst := some 39, op := _, type := _, pos := _, after := _, guard := _ }) (v := .bool true) rfl (by kernel_rfl) (by kernel_rfl) (by kernel_rfl) (fun _ _ _ h => h) (Or.inl ⟨by rfl, ?_⟩) (by assumption) ?_
            · intro w9 hSw
              exact y_move rfl rfl
            simp only [Act.put, List.setIfInBounds_toArray, List.set_cons_zero, List.set_cons_succ]
            refine wpAnyH_take (i := 1) (oi := { dst := some 40, op := _, type := _, pos := _, after := _, guard := _ }) (v := .int .i64 x) rfl (by kernel_rfl) (by kernel_rfl) (by kernel_rfl) (fun _ _ _ h => h) (Or.inl ⟨by rfl, ?_⟩) (by assumption) ?_
            · intro w9 hSw
              exact y_move rfl rfl
            simp only [Act.put, List.setIfInBounds_toArray, List.set_cons_zero, List.set_cons_succ]
            refine wpAnyH_take (i := 2) (oi := { dst := some 41, op := _, type := _, pos := _, after := _, guard := _ }) (v := .bool true) rfl (by kernel_rfl) (by kernel_rfl) (by kernel_rfl) (fun _ _ _ h => h) (Or.inl ⟨by rfl, ?_⟩) (by assumption) ?_
            · intro w9 hSw
              exact exec_bin rfl rfl rfl (eqGuard_er _ _ _) (eql_er _ hx0)
            simp only [Act.put, List.setIfInBounds_toArray, List.set_cons_zero, List.set_cons_succ]
            refine wpAnyH_take (i := 3) (oi := { dst := some 42, op := _, type := _, pos := _, after := _, guard := _ }) (v := .bool false) rfl (by kernel_rfl) (by kernel_rfl) (by kernel_rfl) (fun _ _ _ h => h) (Or.inl ⟨by rfl, ?_⟩) (by assumption) ?_
            · intro w9 hSw
              exact exec_bin rfl rfl rfl (eqGB _ _ _) (neqB _ true true rfl)
            simp only [Act.put, List.setIfInBounds_toArray, List.set_cons_zero, List.set_cons_succ]
            refine wpAnyH_take (i := 4) (oi := { dst := some 43, op := _, type := _, pos := _, after := _, guard := _ }) (v := .bool false) rfl (by kernel_rfl) (by kernel_rfl) (by kernel_rfl) (fun _ _ _ h => h) (Or.inl ⟨by rfl, ?_⟩) (by assumption) ?_
            · intro w9 hSw
              exact y_move rfl rfl
            simp only [Act.put, List.setIfInBounds_toArray, List.set_cons_zero, List.set_cons_succ]
            refine wpAnyH_take (i := 5) (oi := { dst := some 44, op := _, type := _, pos := _, after := _, guard := _ }) (v := .bool true) rfl (by kernel_rfl) (by kernel_rfl) (by kernel_rfl) (fun _ _ _ h => h) (Or.inl ⟨by rfl, ?_⟩) (by assumption) ?_
            · intro w9 hSw
              exact y_move rfl rfl
            simp only [Act.put, List.setIfInBounds_toArray, List.set_cons_zero, List.set_cons_succ]
            refine wpAnyH_take (i := 6) (oi := { dst := some 45, op := _, type := _, pos := _, after := _, guard := _ }) (v := .bool false) rfl (by kernel_rfl) (by kernel_rfl) (by kernel_rfl) (fun _ _ _ h => h) (Or.inl ⟨by rfl, ?_⟩) (by assumption) ?_
            · intro w9 hSw
              exact y_not (x := .tmp 44) (b := true) rfl rfl
            simp only [Act.put, List.setIfInBounds_toArray, List.set_cons_zero, List.set_cons_succ]
            refine wpAnyH_take (i := 7) (oi := { dst := some 46, op := _, type := _, pos := _, after := _, guard := _ }) (v := .bool false) rfl (by kernel_rfl) (by kernel_rfl) (by kernel_rfl) (fun _ _ _ h => h) (Or.inl ⟨by rfl, ?_⟩) (by assumption) ?_
            · intro w9 hSw
              exact y_move rfl rfl
            simp only [Act.put, List.setIfInBounds_toArray, List.set_cons_zero, List.set_cons_succ]
            refine wpAnyH_take (i := 8) (oi := { dst := some 47, op := _, type := _, pos := _, after := _, guard := _ }) (v := undef) rfl (by kernel_rfl) (by kernel_rfl) (by kernel_rfl) (fun _ _ _ h => h) (Or.inr ⟨by rfl, rfl⟩) (by assumption) ?_
            simp only [Act.put, List.setIfInBounds_toArray, List.set_cons_zero, List.set_cons_succ]
            refine wpAnyH_take (i := 9) (oi := { dst := some 48, op := _, type := _, pos := _, after := _, guard := _ }) (v := undef) rfl (by kernel_rfl) (by kernel_rfl) (by kernel_rfl) (fun _ _ _ h => h) (Or.inr ⟨by rfl, rfl⟩) (by assumption) ?_
            simp only [Act.put, List.setIfInBounds_toArray, List.set_cons_zero, List.set_cons_succ]
            refine wpAnyH_take (i := 10) (oi := { dst := some 49, op := _, type := _, pos := _, after := _, guard := _ }) (v := undef) rfl (by kernel_rfl) (by kernel_rfl) (by kernel_rfl) (fun _ _ _ h => h) (Or.inr ⟨by rfl, rfl⟩) (by assumption) ?_
            simp only [Act.put, List.setIfInBounds_toArray, List.set_cons_zero, List.set_cons_succ]
            refine wpAnyH_take (i := 11) (oi := { dst := some 50, op := _, type := _, pos := _, after := _, guard := _ }) (v := undef) rfl (by kernel_rfl) (by kernel_rfl) (by kernel_rfl) (fun _ _ _ h => h) (Or.inr ⟨by rfl, rfl⟩) (by assumption) ?_
            simp only [Act.put, List.setIfInBounds_toArray, List.set_cons_zero, List.set_cons_succ]
            refine wpAnyH_take (i := 12) (oi := { dst := some 51, op := _, type := _, pos := _, after := _, guard := _ }) (v := .bool false) rfl (by kernel_rfl) (by kernel_rfl) (by kernel_rfl) (fun _ _ _ h => h) (Or.inl ⟨by rfl, ?_⟩) (by assumption) ?_
            · intro w9 hSw
              exact exec_pick (b := false) rfl rfl rfl rfl
            simp only [Act.put, List.setIfInBounds_toArray, List.set_cons_zero, List.set_cons_succ]
            refine wpAnyH_take (i := 13) (oi := { dst := some 52, op := _, type := _, pos := _, after := _, guard := _ }) (v := .bool false) rfl (by kernel_rfl) (by kernel_rfl) (by kernel_rfl) (fun _ _ _ h => h) (Or.inl ⟨by rfl, ?_⟩) (by assumption) ?_
            · intro w9 hSw
              exact exec_pick (b := false) rfl rfl rfl rfl
            simp only [Act.put, List.setIfInBounds_toArray, List.set_cons_zero, List.set_cons_succ]
            refine wpAnyH_take (i := 14) (oi := { dst := some 53, op := _, type := _, pos := _, after := _, guard := _ }) (v := .bool false) rfl (by kernel_rfl) (by kernel_rfl) (by kernel_rfl) (fun _ _ _ h => h) (Or.inl ⟨by rfl, ?_⟩) (by assumption) ?_
            · intro w9 hSw
              exact y_move rfl rfl
            simp only [Act.put, List.setIfInBounds_toArray, List.set_cons_zero, List.set_cons_succ]
            refine wpAnyH_take (i := 15) (oi := { dst := some 54, op := _, type := _, pos := _, after := _, guard := _ }) (v := .bool true) rfl (by kernel_rfl) (by kernel_rfl) (by kernel_rfl) (fun _ _ _ h => h) (Or.inl ⟨by rfl, ?_⟩) (by assumption) ?_
            · intro w9 hSw
              exact y_move rfl rfl
            simp only [Act.put, List.setIfInBounds_toArray, List.set_cons_zero, List.set_cons_succ]
            refine wpAnyH_take (i := 16) (oi := { dst := some 55, op := _, type := _, pos := _, after := _, guard := _ }) (v := .bool true) rfl (by kernel_rfl) (by kernel_rfl) (by kernel_rfl) (fun _ _ _ h => h) (Or.inl ⟨by rfl, ?_⟩) (by assumption) ?_
            · intro w9 hSw
              exact y_move rfl rfl
            simp only [Act.put, List.setIfInBounds_toArray, List.set_cons_zero, List.set_cons_succ]
            refine wpAnyH_take (i := 17) (oi := { dst := some 56, op := _, type := _, pos := _, after := _, guard := _ }) (v := .pointer (some ⟨g, 0, none⟩)) rfl (by kernel_rfl) (by kernel_rfl) (by kernel_rfl) (fun _ _ _ h => h) (Or.inl ⟨by rfl, ?_⟩) (by assumption) ?_
            · intro w9 hSw
              exact y_move rfl rfl
            simp only [Act.put, List.setIfInBounds_toArray, List.set_cons_zero, List.set_cons_succ]
            refine wpAnyH_take (i := 19) (oi := { dst := some 58, op := _, type := _, pos := _, after := _, guard := _ }) (v := .agg (vals s.seen)) rfl (by kernel_rfl) (by kernel_rfl) (by kernel_rfl) (fun _ _ _ h => h) (Or.inl ⟨by rfl, ?_⟩) (by assumption) ?_
            · intro w9 hSw
              exact y_load rfl rfl (load_vvx hSw l16)
            simp only [Act.put, List.setIfInBounds_toArray, List.set_cons_zero, List.set_cons_succ]
            clear hHeld
            refine wpAnyH_ready (rs := [18]) (by kernel_rfl) (by simp) ?_
            refine AllReadyH.cons (o := { dst := some 57, op := _, type := _, pos := _, after := _, guard := _ }) rfl (fun K hK => ?_) AllReadyH.nil
            rw [if_pos (by rfl)]
            refine y_call (f := 12) (xs := [.tmp 56]) (vs := [.pointer (some ⟨g, 0, none⟩)]) rfl rfl (enters_svv _ _) HVV.out ?_
            rintro e w9 ⟨rfl, hb9⟩
            refine ⟨_, rfl, ?_⟩
            have HR9 : Aside (Rn w (some ⟨b, off, none⟩) m c E g (i + 1) Y8 (applyS s u) w9) := HRd.out.below hb9
            refine hK.out _ _ (hHs.below hb9 hHs.lt) (fun hHeld => ?_)
            clear hK K
            simp only [Act.put, List.setIfInBounds_toArray, List.set_cons_zero, List.set_cons_succ]
            refine wpAnyH_take (i := 20) (oi := { dst := some 59, op := _, type := _, pos := _, after := _, guard := _ }) (v := .bool false) rfl (by kernel_rfl) (by kernel_rfl) (by kernel_rfl) (fun _ _ _ h => h) (Or.inl ⟨by rfl, ?_⟩) (by assumption) ?_
            · intro w9 hSw
              exact exec_bin rfl rfl rfl (eqGuard_vv _ _ _) (heq9 _)
            simp only [Act.put, List.setIfInBounds_toArray, List.set_cons_zero, List.set_cons_succ]
            refine wpAnyH_take (i := 21) (oi := { dst := some 60, op := _, type := _, pos := _, after := _, guard := _ }) (v := .bool false) rfl (by kernel_rfl) (by kernel_rfl) (by kernel_rfl) (fun _ _ _ h => h) (Or.inl ⟨by rfl, ?_⟩) (by assumption) ?_
            · intro w9 hSw
              exact exec_pick (b := true) rfl rfl rfl rfl
            simp only [Act.put, List.setIfInBounds_toArray, List.set_cons_zero, List.set_cons_succ]
            refine wpAnyH_take (i := 22) (oi := { dst := some 61, op := _, type := _, pos := _, after := _, guard := _ }) (v := .bool false) rfl (by kernel_rfl) (by kernel_rfl) (by kernel_rfl) (fun _ _ _ h => h) (Or.inl ⟨by rfl, ?_⟩) (by assumption) ?_
            · intro w9 hSw
              exact exec_pick (b := false) rfl rfl rfl rfl
            simp only [Act.put, List.setIfInBounds_toArray, List.set_cons_zero, List.set_cons_succ]
            refine wpAnyH_done (by kernel_rfl) ?_ _
            refine NoPanic.normal ?_
            clear hHeld
            go_wp2
            go_meet
            case rel => exact ⟨rfl, HR9⟩
        case rest =>
          obtain ⟨rfl, HR9⟩ := hcut
          clear HR8 HL8
          have hE9 := HR9.out.ev.below HR9.out.be (Nat.le_refl _)
          obtain ⟨b', off', u', hao, hui', hu', hr9, hbl9⟩ := hE9.at hlt
          simp only [Option.some.injEq, Addr.mk.injEq, and_true] at hao
          obtain ⟨rfl, rfl⟩ := hao
          rw [hui] at hui'
          obtain rfl := Option.some.inj hui'
          have hRe := ready_any Y8 wc g (applyS s u) u HR9.out.sp hu
          rw [ready_twice HI.out] at hRe
          clear hE9 hui'
          have hix9 := hix wc
          go_wp2_with (first | refine load_ev_mid rfl rfl rfl hr9 hu16 ?_)
          refine Calls.mono hRe ?_
          rintro e wa ⟨rfl, hba⟩
          have HRA : Aside (Rn w (some ⟨b, off, none⟩) m c E g (i + 1) Y8 (applyS s u) wa) := HR9.out.below hba
          clear hRe hba HR9 hr9
          go_wp2
          go_roundw
          case rel => exact ⟨i + 1, Y8, applyS s u, by omega, by go_num, HRA⟩
          case measure => simp [intOf]; omega
      · have hlt' : ¬ (i : Int) < (m : Int) := by omega
        have FIN : Hid (Below w.heap.size w wr) := HR.out.be
        clear HR
        go_wp2
        go_ret
        exact ⟨rfl, FIN.out⟩
end Go.Proofs.YthlebgioamcioabGreat

