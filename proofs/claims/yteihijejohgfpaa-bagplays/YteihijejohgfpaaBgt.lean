/-
  Get of a nil bag.
-/
import Derived.Test.YteihijejohgfpaaBgn
namespace Go.Proofs.Yteihijejohgfpaa
set_option maxRecDepth 100000
open Go.RowKit

section
variable {o : Oper} {a : Act} {w w' : World} {K : Act → World → Prop} {Q : Exit → Act → World → Prop} {x y : Operand} {v : Value}
theorem wp_load1 {ty : TypeId} {ad : Addr} (ho : o.op = .load ty x) (hx : a.eval x = .pointer (some ad)) (hr : (loadVar ty ad).run Try.prog w = .ok v w) (h : K (a.put o.dst v) w) : o.wp Try.prog a w K Q := by
  unfold Oper.wp execOp
  simp only [ho, hx, Instr.loadAt, Instr.sureAddr, Sem.run_bind, Sem.run_pure, Result.andThen_ok, hr]
  exact h
theorem wp_alloc60 (ho : o.op = .alloc 60) (h : K (a.put o.dst (.pointer (some ⟨w.heap.size, 0, none⟩))) (w.alloc (.cells #[.int .i64 0, .int .i64 0, .int .i64 0] 60))) : o.wp Try.prog a w K Q := by
  have hr : (execOp a.eval o).run Try.prog w = .ok (.value (.pointer (some ⟨w.heap.size, 0, none⟩))) (w.alloc (.cells #[.int .i64 0, .int .i64 0, .int .i64 0] 60)) := by
    unfold execOp
    simp only [ho]
    kernel_rfl
  unfold Oper.wp
  rw [hr]
  exact h
theorem exec_lookup {t : TypeId} {b : Bool} {p q : Value} (ho : o.op = .lookup t x y b) (hx : a.eval x = p) (hy : a.eval y = q) (hr : (Instr.lookup t p q b).run Try.prog w = .ok v w) : (execOp a.eval o).run Try.prog w = .ok (.value v) w := by
  unfold execOp
  simp only [ho, hx, hy, Sem.run_bind, Sem.run_pure, Result.andThen_ok, hr]
theorem exec_extract {k : Nat} {vs : Array Value} (ho : o.op = .extract x k) (hx : a.eval x = .tuple vs) (hv : vs[k]? = some v) : (execOp a.eval o).run Try.prog w = .ok (.value v) w := by
  unfold execOp
  simp only [ho, hx]
  simp [go_sem, hv]
theorem exec_nil {ad : Addr} (ho : o.op = .nilCheck x) (hx : a.eval x = .pointer (some ad)) : (execOp a.eval o).run Try.prog w = .ok (.value (.pointer (some ad))) w := by
  unfold execOp
  simp only [ho, hx]
  simp [go_sem]
theorem exec_field0 {b : Nat} (ho : o.op = .fieldAddr 32 x 0) (hx : a.eval x = .pointer (some ⟨b, 0, none⟩)) : (execOp a.eval o).run Try.prog w = .ok (.value (.pointer (some ⟨b, 0, none⟩))) w := by
  have h : (Instr.fieldAt 32 (.pointer (some ⟨b, 0, none⟩)) 0).run Try.prog w = .ok (.pointer (some ⟨b, 0, none⟩)) w := by go_simp
  unfold execOp; simp only [ho, hx, Sem.run_bind, h, Result.andThen_ok, Sem.run_pure]
end
theorem load_map {w : World} {ad : Addr} {v : Value} (h : w.cell? ad = some v) : (loadVar 30 ad).run Try.prog w = .ok v w := by
  go_simp
theorem size_it : (Try.prog.info? 60).map (·.size) = some (#[.int .i64 0, .int .i64 0, .int .i64 0] : Array Value).size := by kernel_rfl
theorem one_it : ((#[.int .i64 0, .int .i64 0, .int .i64 0] : Array Value).all (·.oneCell')) = true := by simp [Value.oneCell']
theorem enters_orzero (xs : Array Value) (w : World) : (callFunc 30 xs).run Try.prog w = .ok (.enter 30 xs) w := enters Try.func30 (by kernel_rfl) (by kernel_rfl) xs w

set_option maxHeartbeats 2000000 in
/-- Get of a nil bag. -/
theorem get_nil (r n : Int) (w : World) :
    Calls Try.prog 13 #[.pointer none, .agg (dotc r n)] w fun e w' => e = .returned (.tuple #[.int .i64 0, .bool false]) ∧ Below w.heap.size w w' := by
  obtain ⟨W, hW⟩ : ∃ W, w.alloc (.cells (dotc r n) 34) = W := ⟨_, rfl⟩
  have hD : LiesD W w.heap.size r n := hW ▸ liesD_new w r n
  have hb : Below w.heap.size w W := hW ▸ (Below.refl _ w).alloc (Nat.le_refl _) _
  have hl := fun w' => lookup_nil w' r n
  simp only [dotc, itc] at hl
  have KP : Hid (∀ w', Below W.heap.size W w' → LiesD w' w.heap.size r n) := fun w' hb => hD.below hb hD.lt
  clear hD
  go_enter Try.func13, Try.ntmps13
  go_wp2
  clear hW
  refine wp_region_noPanic ?_
  refine wp_region_held_drew (S := fun W' : World => LiesD W' w.heap.size r n) (by kernel_rfl) (KP.out _ (Below.refl _ W).drew) (fun hHeld => ?_)
  refine wpAnyH_take (i := 0) (oi := { dst := some 9, op := _, type := _, pos := _, after := _, guard := _ }) (v := .pointer none) rfl (by kernel_rfl) (by kernel_rfl) (by kernel_rfl) (fun _ _ _ h => h) (Or.inl ⟨by rfl, ?_⟩) (by assumption) ?_
  · intro w9 hSw
    exact exec_move rfl rfl
  simp only [Act.put, List.setIfInBounds_toArray, List.set_cons_zero, List.set_cons_succ]
  refine wpAnyH_take (i := 5) (oi := { dst := some 14, op := _, type := _, pos := _, after := _, guard := _ }) (v := .agg #[.int .i64 r, .int .i64 n]) rfl (by kernel_rfl) (by kernel_rfl) (by kernel_rfl) (fun _ _ _ h => h) (Or.inl ⟨by rfl, ?_⟩) (by assumption) ?_
  · intro w9 hSw
    exact exec_load (ad := ⟨w.heap.size, 0, none⟩) rfl rfl (load_d (i := 0) hSw.cell0 hSw.cell1)
  simp only [Act.put, List.setIfInBounds_toArray, List.set_cons_zero, List.set_cons_succ]
  have hB0 : Below W.heap.size W W.drew := (Below.refl _ W).drew
  have hs0 : W.drew.heap.size = W.heap.size := rfl
  generalize W.drew = w0 at *
  clear hHeld
  refine wpAnyH_ready (rs := [1, 10]) (by kernel_rfl) (by simp) ?_
  refine AllReadyH.cons (o := { dst := some 10, op := _, type := _, pos := _, after := _, guard := _ }) rfl (fun K hK => ?_) ?_
  · rw [if_pos (by rfl)]
    refine wp_callL (xs := [.tmp 9]) (vs := [.pointer none]) rfl rfl (enters_orzero _ _) (orz_nil w0) ?_
    rintro e wc ⟨rfl, hwc⟩
    have hk1 : Below w0.heap.size w0 wc := by rw [hwc]; exact (Below.refl _ _).alloc (Nat.le_refl _) _
    have hm1 : wc.heap[w0.heap.size]? = some (.cells #[.map none] 32 (0, 0)) := by rw [hwc]; exact heap_alloc_new _ _
    clear hwc
    refine ⟨_, rfl, ?_⟩
    have hB1 : Below W.heap.size W wc := hB0.trans (hk1.mono (by omega))
    have hs1 := hk1.size
    refine hK.out _ _ (KP.out _ hB1) (fun hHeld => ?_)
    clear hK K
    simp only [Act.put, List.setIfInBounds_toArray, List.set_cons_zero, List.set_cons_succ]
    clear hk1
    refine wpAnyH_take (i := 2) (oi := { dst := some 11, op := _, type := _, pos := _, after := _, guard := _ }) (v := .pointer (some ⟨w0.heap.size, 0, none⟩)) rfl (by kernel_rfl) (by kernel_rfl) (by kernel_rfl) (fun _ _ _ h => h) (Or.inl ⟨by rfl, ?_⟩) (by assumption) ?_
    · intro w9 hSw
      exact exec_nil rfl rfl
    simp only [Act.put, List.setIfInBounds_toArray, List.set_cons_zero, List.set_cons_succ]
    refine wpAnyH_take (i := 3) (oi := { dst := some 12, op := _, type := _, pos := _, after := _, guard := _ }) (v := .pointer (some ⟨w0.heap.size, 0, none⟩)) rfl (by kernel_rfl) (by kernel_rfl) (by kernel_rfl) (fun _ _ _ h => h) (Or.inl ⟨by rfl, ?_⟩) (by assumption) ?_
    · intro w9 hSw
      exact exec_field0 rfl rfl
    simp only [Act.put, List.setIfInBounds_toArray, List.set_cons_zero, List.set_cons_succ]
    refine wpAnyH_ready (rs := [4, 10]) (by kernel_rfl) (by simp) ?_
    refine AllReadyH.cons (o := { dst := some 13, op := _, type := _, pos := _, after := _, guard := _ }) rfl (fun K hK => ?_) ?_
    · rw [if_pos (by rfl)]
      refine wp_load1 (ad := ⟨w0.heap.size, 0, none⟩) rfl rfl (load_map (cell_of_row _ _ 0 _ _ _ hm1)) ?_
      refine hK.out _ _ (KP.out _ hB1) (fun hHeld => ?_)
      clear hK K
      simp only [Act.put, List.setIfInBounds_toArray, List.set_cons_zero, List.set_cons_succ]
      refine wpAnyH_take (i := 6) (oi := { dst := some 15, op := _, type := _, pos := _, after := _, guard := _ }) (v := .tuple #[.agg #[.int .i64 0, .int .i64 0, .int .i64 0], .bool false]) rfl (by kernel_rfl) (by kernel_rfl) (by kernel_rfl) (fun _ _ _ h => h) (Or.inl ⟨by rfl, ?_⟩) (by assumption) ?_
      · intro w9 hSw
        exact exec_lookup rfl rfl rfl (hl w9)
      simp only [Act.put, List.setIfInBounds_toArray, List.set_cons_zero, List.set_cons_succ]
      refine wpAnyH_take (i := 7) (oi := { dst := some 8, op := _, type := _, pos := _, after := _, guard := _ }) (v := .tuple #[.agg #[.int .i64 0, .int .i64 0, .int .i64 0], .bool false]) rfl (by kernel_rfl) (by kernel_rfl) (by kernel_rfl) (fun _ _ _ h => h) (Or.inl ⟨by rfl, ?_⟩) (by assumption) ?_
      · intro w9 hSw
        exact exec_move rfl rfl
      simp only [Act.put, List.setIfInBounds_toArray, List.set_cons_zero, List.set_cons_succ]
      refine wpAnyH_take (i := 8) (oi := { dst := some 16, op := _, type := _, pos := _, after := _, guard := _ }) (v := .agg #[.int .i64 0, .int .i64 0, .int .i64 0]) rfl (by kernel_rfl) (by kernel_rfl) (by kernel_rfl) (fun _ _ _ h => h) (Or.inl ⟨by rfl, ?_⟩) (by assumption) ?_
      · intro w9 hSw
        exact exec_extract rfl rfl rfl
      simp only [Act.put, List.setIfInBounds_toArray, List.set_cons_zero, List.set_cons_succ]
      refine wpAnyH_take (i := 9) (oi := { dst := some 17, op := _, type := _, pos := _, after := _, guard := _ }) (v := .bool false) rfl (by kernel_rfl) (by kernel_rfl) (by kernel_rfl) (fun _ _ _ h => h) (Or.inl ⟨by rfl, ?_⟩) (by assumption) ?_
      · intro w9 hSw
        exact exec_extract rfl rfl rfl
      simp only [Act.put, List.setIfInBounds_toArray, List.set_cons_zero, List.set_cons_succ]
      refine wpAnyH_ready (rs := [10]) (by kernel_rfl) (by simp) ?_
      refine AllReadyH.cons (o := { dst := some 6, op := _, type := _, pos := _, after := _, guard := _ }) rfl (fun K hK => ?_) AllReadyH.nil
      rw [if_pos (by rfl)]
      refine wp_alloc60 rfl ?_
      have hk2 : Below wc.heap.size wc (wc.alloc (.cells #[.int .i64 0, .int .i64 0, .int .i64 0] 60)) := (Below.refl _ _).alloc (Nat.le_refl _) _
      have hi2 : (wc.alloc (.cells #[.int .i64 0, .int .i64 0, .int .i64 0] 60)).heap[wc.heap.size]? = some (.cells #[.int .i64 0, .int .i64 0, .int .i64 0] 60 (0, 0)) := heap_alloc_new _ _
      generalize wc.alloc (.cells #[.int .i64 0, .int .i64 0, .int .i64 0] 60) = wa at *
      have hB2 : Below W.heap.size W wa := hB1.trans (hk2.mono (by omega))
      have hlow : W.heap.size ≤ wc.heap.size := by omega
      refine hK.out _ _ (KP.out _ hB2) (fun hHeld => ?_)
      clear hK K
      simp only [Act.put, List.setIfInBounds_toArray, List.set_cons_zero, List.set_cons_succ]
      refine wpAnyH_ready (rs := [11]) (by kernel_rfl) (by simp) ?_
      refine AllReadyH.cons (o := { dst := none, op := _, type := _, pos := _, after := _, guard := _ }) rfl (fun K hK => ?_) AllReadyH.nil
      rw [if_pos (by rfl)]
      refine wp_store_row 60 _ _ rfl (wc.heap.size) #[.int .i64 0, .int .i64 0, .int .i64 0] rfl rfl 60 _ hi2 size_it rfl one_it ?_
      have hz : (wa.setRow (wc.heap.size) #[.int .i64 0, .int .i64 0, .int .i64 0]).cell? ⟨wc.heap.size, 0 + 2, none⟩ = some (.int .i64 0) := cell_of_row _ _ 2 _ _ _ (setRow_heap _ _ _ _ _ _ hi2)
      have hB : Below W.heap.size W (wa.setRow (wc.heap.size) #[.int .i64 0, .int .i64 0, .int .i64 0]) := below_setRow hB2 hlow _
      refine hK.out _ _ (KP.out _ hB) (fun hHeld => ?_)
      clear hK K
      simp only [Act.put]
      refine wpAnyH_take (i := 12) (oi := { dst := some 7, op := _, type := _, pos := _, after := _, guard := _ }) (v := .bool false) rfl (by kernel_rfl) (by kernel_rfl) (by kernel_rfl) (fun _ _ _ h => h) (Or.inl ⟨by rfl, ?_⟩) (by assumption) ?_
      · intro w9 hSw
        exact exec_assign rfl rfl
      simp only [Act.put, List.setIfInBounds_toArray, List.set_cons_zero, List.set_cons_succ]
      clear hs0 hs1
      refine wpAnyH_done (by kernel_rfl) ?_ _
      refine NoPanic.normal ?_
      clear hHeld
      generalize wa.setRow (wc.heap.size) #[.int .i64 0, .int .i64 0, .int .i64 0] = WF at *
      go_wp2
      go_ret2
      exact ⟨rfl, hb.trans (hB.mono hb.size)⟩
    · refine AllReadyH.cons (o := { dst := some 6, op := _, type := _, pos := _, after := _, guard := _ }) rfl (fun K hK => ?_) AllReadyH.nil
      rw [if_pos (by rfl)]
      refine wp_alloc60 rfl ?_
      have hk2 : Below wc.heap.size wc (wc.alloc (.cells #[.int .i64 0, .int .i64 0, .int .i64 0] 60)) := (Below.refl _ _).alloc (Nat.le_refl _) _
      have hi2 : (wc.alloc (.cells #[.int .i64 0, .int .i64 0, .int .i64 0] 60)).heap[wc.heap.size]? = some (.cells #[.int .i64 0, .int .i64 0, .int .i64 0] 60 (0, 0)) := heap_alloc_new _ _
      generalize wc.alloc (.cells #[.int .i64 0, .int .i64 0, .int .i64 0] 60) = wa at *
      have hm2 : wa.heap[w0.heap.size]? = some (.cells #[.map none] 32 (0, 0)) := by rw [hk2.block _ (Array.getElem?_eq_some_iff.1 hm1).1]; exact hm1
      have hB2 : Below W.heap.size W wa := hB1.trans (hk2.mono (by omega))
      have hlow : W.heap.size ≤ wc.heap.size := by omega
      refine hK.out _ _ (KP.out _ hB2) (fun hHeld => ?_)
      clear hK K
      simp only [Act.put, List.setIfInBounds_toArray, List.set_cons_zero, List.set_cons_succ]
      refine wpAnyH_ready (rs := [4]) (by kernel_rfl) (by simp) ?_
      refine AllReadyH.cons (o := { dst := some 13, op := _, type := _, pos := _, after := _, guard := _ }) rfl (fun K hK => ?_) AllReadyH.nil
      rw [if_pos (by rfl)]
      refine wp_load1 (ad := ⟨w0.heap.size, 0, none⟩) rfl rfl (load_map (cell_of_row _ _ 0 _ _ _ hm2)) ?_
      refine hK.out _ _ (KP.out _ hB2) (fun hHeld => ?_)
      clear hK K
      simp only [Act.put, List.setIfInBounds_toArray, List.set_cons_zero, List.set_cons_succ]
      refine wpAnyH_take (i := 6) (oi := { dst := some 15, op := _, type := _, pos := _, after := _, guard := _ }) (v := .tuple #[.agg #[.int .i64 0, .int .i64 0, .int .i64 0], .bool false]) rfl (by kernel_rfl) (by kernel_rfl) (by kernel_rfl) (fun _ _ _ h => h) (Or.inl ⟨by rfl, ?_⟩) (by assumption) ?_
      · intro w9 hSw
        exact exec_lookup rfl rfl rfl (hl w9)
      simp only [Act.put, List.setIfInBounds_toArray, List.set_cons_zero, List.set_cons_succ]
      refine wpAnyH_take (i := 7) (oi := { dst := some 8, op := _, type := _, pos := _, after := _, guard := _ }) (v := .tuple #[.agg #[.int .i64 0, .int .i64 0, .int .i64 0], .bool false]) rfl (by kernel_rfl) (by kernel_rfl) (by kernel_rfl) (fun _ _ _ h => h) (Or.inl ⟨by rfl, ?_⟩) (by assumption) ?_
      · intro w9 hSw
        exact exec_move rfl rfl
      simp only [Act.put, List.setIfInBounds_toArray, List.set_cons_zero, List.set_cons_succ]
      refine wpAnyH_take (i := 8) (oi := { dst := some 16, op := _, type := _, pos := _, after := _, guard := _ }) (v := .agg #[.int .i64 0, .int .i64 0, .int .i64 0]) rfl (by kernel_rfl) (by kernel_rfl) (by kernel_rfl) (fun _ _ _ h => h) (Or.inl ⟨by rfl, ?_⟩) (by assumption) ?_
      · intro w9 hSw
        exact exec_extract rfl rfl rfl
      simp only [Act.put, List.setIfInBounds_toArray, List.set_cons_zero, List.set_cons_succ]
      refine wpAnyH_take (i := 9) (oi := { dst := some 17, op := _, type := _, pos := _, after := _, guard := _ }) (v := .bool false) rfl (by kernel_rfl) (by kernel_rfl) (by kernel_rfl) (fun _ _ _ h => h) (Or.inl ⟨by rfl, ?_⟩) (by assumption) ?_
      · intro w9 hSw
        exact exec_extract rfl rfl rfl
      simp only [Act.put, List.setIfInBounds_toArray, List.set_cons_zero, List.set_cons_succ]
      refine wpAnyH_ready (rs := [11]) (by kernel_rfl) (by simp) ?_
      refine AllReadyH.cons (o := { dst := none, op := _, type := _, pos := _, after := _, guard := _ }) rfl (fun K hK => ?_) AllReadyH.nil
      rw [if_pos (by rfl)]
      refine wp_store_row 60 _ _ rfl (wc.heap.size) #[.int .i64 0, .int .i64 0, .int .i64 0] rfl rfl 60 _ hi2 size_it rfl one_it ?_
      have hz : (wa.setRow (wc.heap.size) #[.int .i64 0, .int .i64 0, .int .i64 0]).cell? ⟨wc.heap.size, 0 + 2, none⟩ = some (.int .i64 0) := cell_of_row _ _ 2 _ _ _ (setRow_heap _ _ _ _ _ _ hi2)
      have hB : Below W.heap.size W (wa.setRow (wc.heap.size) #[.int .i64 0, .int .i64 0, .int .i64 0]) := below_setRow hB2 hlow _
      refine hK.out _ _ (KP.out _ hB) (fun hHeld => ?_)
      clear hK K
      simp only [Act.put]
      refine wpAnyH_take (i := 12) (oi := { dst := some 7, op := _, type := _, pos := _, after := _, guard := _ }) (v := .bool false) rfl (by kernel_rfl) (by kernel_rfl) (by kernel_rfl) (fun _ _ _ h => h) (Or.inl ⟨by rfl, ?_⟩) (by assumption) ?_
      · intro w9 hSw
        exact exec_assign rfl rfl
      simp only [Act.put, List.setIfInBounds_toArray, List.set_cons_zero, List.set_cons_succ]
      clear hs0 hs1
      refine wpAnyH_done (by kernel_rfl) ?_ _
      refine NoPanic.normal ?_
      clear hHeld
      generalize wa.setRow (wc.heap.size) #[.int .i64 0, .int .i64 0, .int .i64 0] = WF at *
      go_wp2
      go_ret2
      exact ⟨rfl, hb.trans (hB.mono hb.size)⟩
  · refine AllReadyH.cons (o := { dst := some 6, op := _, type := _, pos := _, after := _, guard := _ }) rfl (fun K hK => ?_) AllReadyH.nil
    rw [if_pos (by rfl)]
    refine wp_alloc60 rfl ?_
    have hk1 : Below w0.heap.size w0 (w0.alloc (.cells #[.int .i64 0, .int .i64 0, .int .i64 0] 60)) := (Below.refl _ _).alloc (Nat.le_refl _) _
    have hi1 : (w0.alloc (.cells #[.int .i64 0, .int .i64 0, .int .i64 0] 60)).heap[w0.heap.size]? = some (.cells #[.int .i64 0, .int .i64 0, .int .i64 0] 60 (0, 0)) := heap_alloc_new _ _
    generalize w0.alloc (.cells #[.int .i64 0, .int .i64 0, .int .i64 0] 60) = wa at *
    have hB1 : Below W.heap.size W wa := hB0.trans (hk1.mono (by omega))
    have hs1 := hk1.size
    have hlow : W.heap.size ≤ w0.heap.size := by omega
    refine hK.out _ _ (KP.out _ hB1) (fun hHeld => ?_)
    clear hK K
    simp only [Act.put, List.setIfInBounds_toArray, List.set_cons_zero, List.set_cons_succ]
    refine wpAnyH_ready (rs := [1]) (by kernel_rfl) (by simp) ?_
    refine AllReadyH.cons (o := { dst := some 10, op := _, type := _, pos := _, after := _, guard := _ }) rfl (fun K hK => ?_) AllReadyH.nil
    rw [if_pos (by rfl)]
    refine wp_callL (xs := [.tmp 9]) (vs := [.pointer none]) rfl rfl (enters_orzero _ _) (orz_nil wa) ?_
    rintro e wc ⟨rfl, hwc⟩
    have hk2 : Below wa.heap.size wa wc := by rw [hwc]; exact (Below.refl _ _).alloc (Nat.le_refl _) _
    have hm2 : wc.heap[wa.heap.size]? = some (.cells #[.map none] 32 (0, 0)) := by rw [hwc]; exact heap_alloc_new _ _
    clear hwc
    refine ⟨_, rfl, ?_⟩
    have hB2 : Below W.heap.size W wc := hB1.trans (hk2.mono (by omega))
    have hi2 : wc.heap[w0.heap.size]? = some (.cells #[.int .i64 0, .int .i64 0, .int .i64 0] 60 (0, 0)) := by rw [hk2.block _ (Array.getElem?_eq_some_iff.1 hi1).1]; exact hi1
    refine hK.out _ _ (KP.out _ hB2) (fun hHeld => ?_)
    clear hK K
    simp only [Act.put, List.setIfInBounds_toArray, List.set_cons_zero, List.set_cons_succ]
    refine wpAnyH_take (i := 2) (oi := { dst := some 11, op := _, type := _, pos := _, after := _, guard := _ }) (v := .pointer (some ⟨wa.heap.size, 0, none⟩)) rfl (by kernel_rfl) (by kernel_rfl) (by kernel_rfl) (fun _ _ _ h => h) (Or.inl ⟨by rfl, ?_⟩) (by assumption) ?_
    · intro w9 hSw
      exact exec_nil rfl rfl
    simp only [Act.put, List.setIfInBounds_toArray, List.set_cons_zero, List.set_cons_succ]
    refine wpAnyH_take (i := 3) (oi := { dst := some 12, op := _, type := _, pos := _, after := _, guard := _ }) (v := .pointer (some ⟨wa.heap.size, 0, none⟩)) rfl (by kernel_rfl) (by kernel_rfl) (by kernel_rfl) (fun _ _ _ h => h) (Or.inl ⟨by rfl, ?_⟩) (by assumption) ?_
    · intro w9 hSw
      exact exec_field0 rfl rfl
    simp only [Act.put, List.setIfInBounds_toArray, List.set_cons_zero, List.set_cons_succ]
    refine wpAnyH_ready (rs := [4]) (by kernel_rfl) (by simp) ?_
    refine AllReadyH.cons (o := { dst := some 13, op := _, type := _, pos := _, after := _, guard := _ }) rfl (fun K hK => ?_) AllReadyH.nil
    rw [if_pos (by rfl)]
    refine wp_load1 (ad := ⟨wa.heap.size, 0, none⟩) rfl rfl (load_map (cell_of_row _ _ 0 _ _ _ hm2)) ?_
    refine hK.out _ _ (KP.out _ hB2) (fun hHeld => ?_)
    clear hK K
    simp only [Act.put, List.setIfInBounds_toArray, List.set_cons_zero, List.set_cons_succ]
    refine wpAnyH_take (i := 6) (oi := { dst := some 15, op := _, type := _, pos := _, after := _, guard := _ }) (v := .tuple #[.agg #[.int .i64 0, .int .i64 0, .int .i64 0], .bool false]) rfl (by kernel_rfl) (by kernel_rfl) (by kernel_rfl) (fun _ _ _ h => h) (Or.inl ⟨by rfl, ?_⟩) (by assumption) ?_
    · intro w9 hSw
      exact exec_lookup rfl rfl rfl (hl w9)
    simp only [Act.put, List.setIfInBounds_toArray, List.set_cons_zero, List.set_cons_succ]
    refine wpAnyH_take (i := 7) (oi := { dst := some 8, op := _, type := _, pos := _, after := _, guard := _ }) (v := .tuple #[.agg #[.int .i64 0, .int .i64 0, .int .i64 0], .bool false]) rfl (by kernel_rfl) (by kernel_rfl) (by kernel_rfl) (fun _ _ _ h => h) (Or.inl ⟨by rfl, ?_⟩) (by assumption) ?_
    · intro w9 hSw
      exact exec_move rfl rfl
    simp only [Act.put, List.setIfInBounds_toArray, List.set_cons_zero, List.set_cons_succ]
    refine wpAnyH_take (i := 8) (oi := { dst := some 16, op := _, type := _, pos := _, after := _, guard := _ }) (v := .agg #[.int .i64 0, .int .i64 0, .int .i64 0]) rfl (by kernel_rfl) (by kernel_rfl) (by kernel_rfl) (fun _ _ _ h => h) (Or.inl ⟨by rfl, ?_⟩) (by assumption) ?_
    · intro w9 hSw
      exact exec_extract rfl rfl rfl
    simp only [Act.put, List.setIfInBounds_toArray, List.set_cons_zero, List.set_cons_succ]
    refine wpAnyH_take (i := 9) (oi := { dst := some 17, op := _, type := _, pos := _, after := _, guard := _ }) (v := .bool false) rfl (by kernel_rfl) (by kernel_rfl) (by kernel_rfl) (fun _ _ _ h => h) (Or.inl ⟨by rfl, ?_⟩) (by assumption) ?_
    · intro w9 hSw
      exact exec_extract rfl rfl rfl
    simp only [Act.put, List.setIfInBounds_toArray, List.set_cons_zero, List.set_cons_succ]
    refine wpAnyH_ready (rs := [11]) (by kernel_rfl) (by simp) ?_
    refine AllReadyH.cons (o := { dst := none, op := _, type := _, pos := _, after := _, guard := _ }) rfl (fun K hK => ?_) AllReadyH.nil
    rw [if_pos (by rfl)]
    refine wp_store_row 60 _ _ rfl (w0.heap.size) #[.int .i64 0, .int .i64 0, .int .i64 0] rfl rfl 60 _ hi2 size_it rfl one_it ?_
    have hz : (wc.setRow (w0.heap.size) #[.int .i64 0, .int .i64 0, .int .i64 0]).cell? ⟨w0.heap.size, 0 + 2, none⟩ = some (.int .i64 0) := cell_of_row _ _ 2 _ _ _ (setRow_heap _ _ _ _ _ _ hi2)
    have hB : Below W.heap.size W (wc.setRow (w0.heap.size) #[.int .i64 0, .int .i64 0, .int .i64 0]) := below_setRow hB2 hlow _
    refine hK.out _ _ (KP.out _ hB) (fun hHeld => ?_)
    clear hK K
    simp only [Act.put]
    refine wpAnyH_take (i := 12) (oi := { dst := some 7, op := _, type := _, pos := _, after := _, guard := _ }) (v := .bool false) rfl (by kernel_rfl) (by kernel_rfl) (by kernel_rfl) (fun _ _ _ h => h) (Or.inl ⟨by rfl, ?_⟩) (by assumption) ?_
    · intro w9 hSw
      exact exec_assign rfl rfl
    simp only [Act.put, List.setIfInBounds_toArray, List.set_cons_zero, List.set_cons_succ]
    clear hs0 hs1
    refine wpAnyH_done (by kernel_rfl) ?_ _
    refine NoPanic.normal ?_
    clear hHeld
    generalize wc.setRow (w0.heap.size) #[.int .i64 0, .int .i64 0, .int .i64 0] = WF at *
    go_wp2
    go_ret2
    exact ⟨rfl, hb.trans (hB.mono hb.size)⟩
end Go.Proofs.Yteihijejohgfpaa
