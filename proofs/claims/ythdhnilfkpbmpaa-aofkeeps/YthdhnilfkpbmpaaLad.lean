/-
  What Add comes to.
-/
import Derived.Test.YthdhnilfkpbmpaaLmv
namespace Go.Proofs.Ythdhnilfkpbmpaa
set_option maxRecDepth 100000
set_option linter.unusedVariables false
open Go.RowKit

/-- What Add leaves. -/
def Added (w w' : World) (e : Ending) (base g gd : Nat) (vE vd : Value) (b : Bool) (s : List UInt8) (E : List Ev) (k : Nat) (l : List UInt8) (f r : Nat) (x : Ev) : Prop :=
  (∃ err : Int, err ≠ 0 ∧ e = .returned (.int .i64 err) ∧ Both w' base g gd vE vd b s E k l f r ∧ Mv g gd vE vd vE vd w w') ∨
  (e = .returned (.int .i64 0) ∧ Good x ∧ ∃ vE' vd', Both w' base g gd vE' vd' b s (E ++ [x]) k (l ++ Fr.frame (eb x)) f r ∧ Mv g gd vE vd vE' vd' w w')

def AddedOk (w w' : World) (e : Ending) (base g gd : Nat) (vE vd : Value) (b : Bool) (s : List UInt8) (E : List Ev) (k : Nat) (l : List UInt8) (f r : Nat) (x : Ev) : Prop :=
  e = .returned (.int .i64 0) ∧ Good x ∧ ∃ vE' vd', Both w' base g gd vE' vd' b s (E ++ [x]) k (l ++ Fr.frame (eb x)) f r ∧ Mv g gd vE vd vE' vd' w w'

section
variable {w : World} {base g gd : Nat} {vE vd : Value} {b : Bool} {s : List UInt8} {E : List Ev} {k : Nat} {l : List UInt8} {f r : Nat} (x : Ev)
set_option maxHeartbeats 400000 in
theorem add_no (h : Both w base g gd vE vd b s E k l f r) (hx : Wide x) (hok : okev x = false) :
    Calls Try.prog 11 #[.pointer (some ⟨g, 0, none⟩), .agg (evc x)] w fun e w' => Added w w' e base g gd vE vd b s E k l f r x := by
  obtain ⟨hE, hB⟩ := boxedE w x
  have h1 := h.below hB (Nat.le_refl _)
  have c0 := h1.log.c0
  have HP : Hid _ := putevent_no (.slice none 0 0) x (w.alloc (.cells (evc x) 30)) hx hok
  have hl := hx.1
  have HB : Hid _ := hB
  have H1 : Hid _ := h1
  clear h hB h1
  unfold Added
  go_enter Try.func11, Try.ntmps11
  go_wp2_with fail
  refine Calls.mono (lorz_some g _) ?_
  rintro e w1 ⟨rfl, rfl⟩
  go_wp2_with (refine load_ev rfl rfl rfl hE hl ?_)
  refine Calls.mono HP.out ?_
  rintro e w2 ⟨rfl, hb2⟩
  clear HP hE c0
  go_wp2
  go_ret
  exact .inl ⟨1, by decide, rfl, H1.out.below hb2 (Nat.le_refl _), Mv.quiet _ _ _ _ (HB.out.trans (hb2.mono HB.out.size))⟩
set_option maxHeartbeats 400000 in
theorem add_full (h : Both w base g gd vE vd b s E k l f r) (hbase : base ≤ w.heap.size) (hx : Good x) (hr : r < l.length + (Fr.frame (eb x)).length) :
    Calls Try.prog 11 #[.pointer (some ⟨g, 0, none⟩), .agg (evc x)] w fun e w' => Added w w' e base g gd vE vd b s E k l f r x := by
  obtain ⟨hE, hB⟩ := boxedE w x
  have h1 := h.below hB (Nat.le_refl _)
  have c0 := h1.log.c0
  have HP : Hid _ := putevent_ok (w.alloc (.cells (evc x) 30)).heap.size (.slice none 0 0) [] x (w.alloc (.cells (evc x) 30)) (World.ownsRow_nil _ _ _ _) (Nat.le_refl _) hx (by simp)
  rw [List.nil_append] at HP
  have hl := hx.1
  have hfb : (Fr.frame (eb x)).length ≤ 1007 := by have := eb_short hx; rw [Fr.frame_length]; omega
  have HB : Hid _ := hB
  have H1 : Hid _ := h1
  clear h hB h1
  unfold Added
  go_enter Try.func11, Try.ntmps11
  go_wp2_with fail
  refine Calls.mono (lorz_some g _) ?_
  rintro e w1 ⟨rfl, rfl⟩
  go_wp2_with (refine load_ev rfl rfl rfl hE hl ?_)
  refine Calls.mono HP.out ?_
  rintro e w2 ⟨v2, rfl, hr2, hb2⟩
  obtain ⟨a2, c2, rfl, hby2, hc2⟩ := own_val hr2
  have h2 := H1.out.below hb2 (Nat.le_refl _)
  have HA : Hid _ := append_full (some ⟨gd, 0, none⟩) a2 (Fr.frame (eb x)).length c2 base gd vd l f r w2 w2 (orz_some gd _) h2.dsk hr (by unfold maxLen; omega)
  have c0' := h2.log.c0
  clear HP hE c0 hr2 hby2
  generalize (Fr.frame (eb x)).length = m at *
  go_wp2_with fail
  refine Calls.mono HA.out ?_
  rintro e w3 ⟨rfl, hD3, hS3⟩
  clear HA c0'
  go_wp2
  go_ret
  exact .inl ⟨9, by decide, rfl, ⟨h2.log.disk h2.dsk hS3, hD3⟩, (Mv.quiet _ _ _ _ (HB.out.trans (hb2.mono HB.out.size))).trans (Mv.disk hS3)⟩
set_option maxHeartbeats 800000 in
theorem add_ok (h : Both w base g gd vE vd b s E k l f r) (hbase : base ≤ w.heap.size) (hx : Good x) (hEl : E.length < 65536) (hr : ¬ r < l.length + (Fr.frame (eb x)).length) :
    Calls Try.prog 11 #[.pointer (some ⟨g, 0, none⟩), .agg (evc x)] w fun e w' => AddedOk w w' e base g gd vE vd b s E k l f r x := by
  obtain ⟨hE, hB⟩ := boxedE w x
  have h1 := h.below hB (Nat.le_refl _)
  have c0 := h1.log.c0
  have HP : Hid _ := putevent_ok (w.alloc (.cells (evc x) 30)).heap.size (.slice none 0 0) [] x (w.alloc (.cells (evc x) 30)) (World.ownsRow_nil _ _ _ _) (Nat.le_refl _) hx (by simp)
  rw [List.nil_append] at HP
  have hdl := hx.1
  have hfb : (Fr.frame (eb x)).length ≤ 1007 := by have := eb_short hx; rw [Fr.frame_length]; omega
  have HB : Hid _ := hB
  have H1 : Hid _ := h1
  have hq : vE.ownBlock ≠ some w.heap.size := fun e => by have := (h.log.own _ e).2.1; omega
  have hq2 : vd.ownBlock ≠ some w.heap.size := fun e => by have := (h.dsk.own _ e).2.1; omega
  have hq3 : w.heap.size ≠ gd := by have := h.dsk.lt; omega
  have hlt1 : w.heap.size < (w.alloc (.cells (evc x) 30)).heap.size := hE.lt
  have hbs0 : base ≤ (w.alloc (.cells (evc x) 30)).heap.size := Nat.le_trans hbase hB.size
  clear h hB h1
  unfold AddedOk
  go_enter Try.func11, Try.ntmps11
  go_wp2_with fail
  refine Calls.mono (lorz_some g _) ?_
  rintro e w1 ⟨rfl, rfl⟩
  go_wp2_with (refine load_ev rfl rfl rfl hE hdl ?_)
  refine Calls.mono HP.out ?_
  rintro e w2 ⟨v2, rfl, hr2, hb2⟩
  obtain ⟨a2, c2, rfl, hby2, hc2⟩ := own_val hr2
  have h2 := H1.out.below hb2 (Nat.le_refl _)
  have hE2 := hE.below hb2 hE.lt
  have HA : Hid _ := append_ok (some ⟨gd, 0, none⟩) a2 (Fr.frame (eb x)).length c2 base gd vd l (Fr.frame (eb x)) f r w2 w2 (orz_some gd _) h2.dsk hby2 (by omega) (Nat.le_trans hbs0 hb2.size)
  have c0' := h2.log.c0
  have hlt2 : w.heap.size < w2.heap.size := hE2.lt
  have hbs2 := Nat.le_trans hbs0 hb2.size
  have M2 : Hid (Mv g gd vE vd vE vd w w2) := Mv.quiet _ _ _ _ (HB.out.trans (hb2.mono HB.out.size))
  clear HP hE c0 hr2 hby2 HB H1 hb2 hbs0
  generalize hfm : (Fr.frame (eb x)).length = m at *
  go_wp2_with fail
  refine Calls.mono HA.out ?_
  rintro e W ⟨rfl, vd', hD3, hS3⟩
  have hL3 := h2.log.disk h2.dsk hS3
  have hU : LiesE W w.heap.size x := by rw [LiesE, hS3.block _ hlt2 hq3 hq2]; exact hE2
  have M3 : Hid (Mv g gd vE vd vE vd' w W) := M2.out.trans (Mv.disk hS3)
  obtain ⟨v', w', hr, c0, s1, s2, s3, c1, c3, cf, HL, HS, a, c, hv⟩ := push_facts hL3 (Nat.le_trans hbs2 hS3.size) hEl hU hq hx
  have hbs := fun W : World => run_build1 W x hdl
  have s0 : LiesE W.drew w.heap.size x := hU
  have ADDED : Hid (Good x ∧ ∃ vE' vd', Both (w'.setCell ⟨g, 3, none⟩ v') base g gd vE' vd' b s (E ++ [x]) k (l ++ Fr.frame (eb x)) f r ∧ Mv g gd vE vd vE' vd' w (w'.setCell ⟨g, 3, none⟩ v')) := ⟨hx, v', vd', ⟨HL, hD3.log hL3 HS⟩, M3.out.trans (Mv.log HS)⟩
  subst hv
  clear HL HS hL3 hD3 hS3 h2 M2 M3 HA c0' hE2 hx
  go_upto_region 10 with (fail)
  refine wp_region_noPanic ?_
  refine wp_region_held_drew (S := fun W' : World => LiesE W' w.heap.size x) (by kernel_rfl) s0 (fun hHeld => ?_)
  refine wpAnyH_take (i := 0) (oi := { dst := some 31, op := _, type := _, pos := _, after := _, guard := _ }) (v := ?_) rfl (by kernel_rfl) (by kernel_rfl) (by kernel_rfl) (fun _ _ _ h => h) (Or.inl ⟨by rfl, ?_⟩) (by assumption) ?_
  rotate_left
  · intro w hSw
    go_simp <;> with_reducible rfl
  simp only [Act.put, List.setIfInBounds_toArray, List.set_cons_zero, List.set_cons_succ]
  refine wpAnyH_take (i := 1) (oi := { dst := some 32, op := _, type := _, pos := _, after := _, guard := _ }) (v := ?_) rfl (by kernel_rfl) (by kernel_rfl) (by kernel_rfl) (fun _ _ _ h => h) (Or.inl ⟨by rfl, ?_⟩) (by assumption) ?_
  rotate_left
  · intro w hSw
    go_simp <;> with_reducible rfl
  simp only [Act.put, List.setIfInBounds_toArray, List.set_cons_zero, List.set_cons_succ]
  refine wpAnyH_take (i := 2) (oi := { dst := some 33, op := _, type := _, pos := _, after := _, guard := _ }) (v := ?_) rfl (by kernel_rfl) (by kernel_rfl) (by kernel_rfl) (fun _ _ _ h => h) (Or.inl ⟨by rfl, ?_⟩) (by assumption) ?_
  rotate_left
  · intro w hSw
    go_simp <;> with_reducible rfl
  simp only [Act.put, List.setIfInBounds_toArray, List.set_cons_zero, List.set_cons_succ]
  refine wpAnyH_take (i := 3) (oi := { dst := some 34, op := _, type := _, pos := _, after := _, guard := _ }) (v := ?_) rfl (by kernel_rfl) (by kernel_rfl) (by kernel_rfl) (fun _ _ _ h => h) (Or.inl ⟨by rfl, ?_⟩) (by assumption) ?_
  rotate_left
  · intro w hSw
    go_simp <;> with_reducible rfl
  simp only [Act.put, List.setIfInBounds_toArray, List.set_cons_zero, List.set_cons_succ]
  refine wpAnyH_take (i := 5) (oi := { dst := some 36, op := _, type := _, pos := _, after := _, guard := _ }) (v := .agg (evc x)) rfl (by kernel_rfl) (by kernel_rfl) (by kernel_rfl) (fun _ _ _ h => h) (Or.inl ⟨by rfl, ?_⟩) (by assumption) ?_
  · intro w9 hSw
    exact exec_load (ad := ⟨w.heap.size, 0, none⟩) rfl rfl (load_whole hSw hdl)
  simp only [Act.put, List.setIfInBounds_toArray, List.set_cons_zero, List.set_cons_succ]
  refine wpAnyH_ready (rs := [4, 6]) (by kernel_rfl) (by simp) ?_
  refine AllReadyH.cons (o := { dst := some 35, op := _, type := _, pos := _, after := _, guard := _ }) rfl (fun K hK => ?_) ?_
  · rw [if_pos (by rfl)]
    refine wp_load1 rfl rfl (load_cell_evs (by assumption)) ?_
    refine hK.out _ _ s0 (fun _ => ?_)
    simp only [Act.put, List.setIfInBounds_toArray, List.set_cons_zero, List.set_cons_succ]
    clear hK K
    refine wpAnyH_ready (rs := [6]) (by kernel_rfl) (by simp) ?_
    refine AllReadyH.cons (o := { dst := some 37, op := _, type := _, pos := _, after := _, guard := _ }) rfl (fun K hK => ?_) AllReadyH.nil
    rw [if_pos (by rfl)]
    refine wp_buildS rfl rfl (hbs _) ?_
    refine hK.out _ _ s1 (fun _ => ?_)
    simp only [Act.put, List.setIfInBounds_toArray, List.set_cons_zero, List.set_cons_succ]
    clear hK K
    refine wpAnyH_ready (rs := [7]) (by kernel_rfl) (by simp) ?_
    refine AllReadyH.cons (o := { dst := some 38, op := _, type := _, pos := _, after := _, guard := _ }) rfl (fun K hK => ?_) AllReadyH.nil
    rw [if_pos (by rfl)]
    refine wp_app1 rfl rfl rfl hr ?_
    refine hK.out _ _ s2 (fun _ => ?_)
    simp only [Act.put, List.setIfInBounds_toArray, List.set_cons_zero, List.set_cons_succ]
    clear hK K
    refine wpAnyH_take (i := 8) (oi := { dst := some 39, op := _, type := _, pos := _, after := _, guard := _ }) (v := ?_) rfl (by kernel_rfl) (by kernel_rfl) (by kernel_rfl) (fun _ _ _ h => h) (Or.inl ⟨by rfl, ?_⟩) (by assumption) ?_
    rotate_left
    · intro w hSw
      go_simp <;> with_reducible rfl
    simp only [Act.put, List.setIfInBounds_toArray, List.set_cons_zero, List.set_cons_succ]
    refine wpAnyH_take (i := 9) (oi := { dst := some 40, op := _, type := _, pos := _, after := _, guard := _ }) (v := ?_) rfl (by kernel_rfl) (by kernel_rfl) (by kernel_rfl) (fun _ _ _ h => h) (Or.inl ⟨by rfl, ?_⟩) (by assumption) ?_
    rotate_left
    · intro w hSw
      go_simp <;> with_reducible rfl
    simp only [Act.put, List.setIfInBounds_toArray, List.set_cons_zero, List.set_cons_succ]
    refine wpAnyH_ready (rs := [10]) (by kernel_rfl) (by simp) ?_
    refine AllReadyH.cons (o := { dst := none, op := _, type := _, pos := _, after := _, guard := _ }) rfl (fun K hK => ?_) AllReadyH.nil
    rw [if_pos (by rfl)]
    refine wp_store1 rfl rfl rfl (store_cell_evs c3 cf) ?_
    refine hK.out _ _ s3 (fun _ => ?_)
    clear hK K
    refine wpAnyH_done (by kernel_rfl) ?_ _
    refine NoPanic.normal ?_
    go_wp2
    go_ret
    exact ⟨rfl, ADDED.out⟩
  refine AllReadyH.cons (o := { dst := some 37, op := _, type := _, pos := _, after := _, guard := _ }) rfl (fun K hK => ?_) AllReadyH.nil
  rw [if_pos (by rfl)]
  refine wp_buildS rfl rfl (hbs _) ?_
  refine hK.out _ _ s1 (fun _ => ?_)
  simp only [Act.put, List.setIfInBounds_toArray, List.set_cons_zero, List.set_cons_succ]
  clear hK K
  refine wpAnyH_ready (rs := [4]) (by kernel_rfl) (by simp) ?_
  refine AllReadyH.cons (o := { dst := some 35, op := _, type := _, pos := _, after := _, guard := _ }) rfl (fun K hK => ?_) AllReadyH.nil
  rw [if_pos (by rfl)]
  refine wp_load1 rfl rfl (load_cell_evs (by assumption)) ?_
  refine hK.out _ _ s1 (fun _ => ?_)
  simp only [Act.put, List.setIfInBounds_toArray, List.set_cons_zero, List.set_cons_succ]
  clear hK K
  refine wpAnyH_ready (rs := [7]) (by kernel_rfl) (by simp) ?_
  refine AllReadyH.cons (o := { dst := some 38, op := _, type := _, pos := _, after := _, guard := _ }) rfl (fun K hK => ?_) AllReadyH.nil
  rw [if_pos (by rfl)]
  refine wp_app1 rfl rfl rfl hr ?_
  refine hK.out _ _ s2 (fun _ => ?_)
  simp only [Act.put, List.setIfInBounds_toArray, List.set_cons_zero, List.set_cons_succ]
  clear hK K
  refine wpAnyH_take (i := 8) (oi := { dst := some 39, op := _, type := _, pos := _, after := _, guard := _ }) (v := ?_) rfl (by kernel_rfl) (by kernel_rfl) (by kernel_rfl) (fun _ _ _ h => h) (Or.inl ⟨by rfl, ?_⟩) (by assumption) ?_
  rotate_left
  · intro w hSw
    go_simp <;> with_reducible rfl
  simp only [Act.put, List.setIfInBounds_toArray, List.set_cons_zero, List.set_cons_succ]
  refine wpAnyH_take (i := 9) (oi := { dst := some 40, op := _, type := _, pos := _, after := _, guard := _ }) (v := ?_) rfl (by kernel_rfl) (by kernel_rfl) (by kernel_rfl) (fun _ _ _ h => h) (Or.inl ⟨by rfl, ?_⟩) (by assumption) ?_
  rotate_left
  · intro w hSw
    go_simp <;> with_reducible rfl
  simp only [Act.put, List.setIfInBounds_toArray, List.set_cons_zero, List.set_cons_succ]
  refine wpAnyH_ready (rs := [10]) (by kernel_rfl) (by simp) ?_
  refine AllReadyH.cons (o := { dst := none, op := _, type := _, pos := _, after := _, guard := _ }) rfl (fun K hK => ?_) AllReadyH.nil
  rw [if_pos (by rfl)]
  refine wp_store1 rfl rfl rfl (store_cell_evs c3 cf) ?_
  refine hK.out _ _ s3 (fun _ => ?_)
  clear hK K
  refine wpAnyH_done (by kernel_rfl) ?_ _
  refine NoPanic.normal ?_
  go_wp2
  go_ret
  exact ⟨rfl, ADDED.out⟩
theorem add_any (h : Both w base g gd vE vd b s E k l f r) (hbase : base ≤ w.heap.size) (hx : Wide x) (hEl : E.length < 65536) :
    Calls Try.prog 11 #[.pointer (some ⟨g, 0, none⟩), .agg (evc x)] w fun e w' => Added w w' e base g gd vE vd b s E k l f r x := by
  rcases Bool.eq_false_or_eq_true (okev x) with hok | hok
  · by_cases hr : r < l.length + (Fr.frame (eb x)).length
    · exact add_full x h hbase ⟨hx.1, hok⟩ hr
    · exact (add_ok x h hbase ⟨hx.1, hok⟩ hEl hr).mono (fun e w' h => .inr h)
  · exact add_no x h hx hok
end
end Go.Proofs.Ythdhnilfkpbmpaa
