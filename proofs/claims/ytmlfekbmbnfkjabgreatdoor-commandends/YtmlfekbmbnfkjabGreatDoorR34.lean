/-
  Plan, with the texts that it hands on.
-/
import Derived.Test.YtmlfekbmbnfkjabGreatDoorR33
namespace Go.Proofs.YtmlfekbmbnfkjabGreatDoor
set_option maxRecDepth 100000
open Go.RowKit

theorem TRow.lt22 {w : World} {base : Nat} {v : Value} {S : List (List UInt8)} (h : TRow w base v S) : ∀ k, v.ownBlock = some k → k < w.heap.size := by
  rcases h.2 with ⟨rfl, -⟩ | ⟨g, cap, cur, rfl, hb, hg, -⟩
  · intro k hk; cases hk
  · intro k hk; cases hk; exact (Array.getElem?_eq_some_iff.1 hg).1
set_option maxHeartbeats 4000000 in
theorem planL_any (J : Option Addr → World → Prop) (p : Option Addr) (c : Cl) (O : Po) (w : World) (hS : ∀ pp (u u' : World), J pp u → Below u.heap.size u u' → J pp u') (hN : ∀ u, Below w.heap.size w u → Calls Tryz.prog 16 #[.pointer p] u fun x w' => ∃ pp, x = .returned (.pointer pp) ∧ J pp w' ∧ Below u.heap.size u w') (hP : ∀ u pp, Below w.heap.size w u → J pp u → PlanC 15 pp c O u) : Calls Tryz.prog 8 #[.pointer p, .agg (clc c)] w fun x w' => ∃ ao q cc, x = .returned (.tuple #[.agg (O.rep ao q cc), .agg O.op, .bool O.b]) ∧ TRow w' w.heap.size (.slice ao q cc) O.L ∧ Below w.heap.size w w' := by
  obtain ⟨k, t, d, LL, k2, y2, f2, v2, n2, r2, m2, b⟩ := O
  have hP : ∀ u pp, Below w.heap.size w u → J pp u → Calls Tryz.prog 15 #[.pointer pp, .agg (clc c)] u fun x w' => ∃ ao q cc, x = .returned (.agg (outx k t d ao q cc (opx k2 y2 f2 v2 n2 r2 m2) b)) ∧ TRow w' u.heap.size (.slice ao q cc) LL ∧ Below u.heap.size u w' := hP
  show Calls Tryz.prog 8 #[.pointer p, .agg (clc c)] w fun x w' => ∃ ao q cc, x = .returned (.tuple #[.agg (repc k t d (.slice ao q cc)), .agg (opx k2 y2 f2 v2 n2 r2 m2), .bool b]) ∧ TRow w' w.heap.size (.slice ao q cc) LL ∧ Below w.heap.size w w'
  obtain ⟨nm, ky, fd, vl, n, m⟩ := c
  have hcl : (((w.alloc (.cells (clc ⟨nm, ky, fd, vl, n, m⟩) 38)).alloc (.cells repz 30)).alloc (.cells opzz 34)).heap[w.heap.size]? = some (.cells (clc ⟨nm, ky, fd, vl, n, m⟩) 38 (0, 0)) := by rw [Below.heap_alloc _ _ _ (by simp; omega), Below.heap_alloc _ _ _ (by simp)]; exact heap_alloc_new w _
  have hre : (((w.alloc (.cells (clc ⟨nm, ky, fd, vl, n, m⟩) 38)).alloc (.cells repz 30)).alloc (.cells opzz 34)).heap[w.heap.size + 1]? = some (.cells repz 30 (0, 0)) := by rw [Below.heap_alloc _ _ _ (by simp)]; exact alloc_two w _ _
  have hop := alloc_three w (.cells (clc ⟨nm, ky, fd, vl, n, m⟩) 38) (.cells repz 30) (.cells opzz 34)
  have hbb := below_three w (.cells (clc ⟨nm, ky, fd, vl, n, m⟩) 38) (.cells repz 30) (.cells opzz 34)
  obtain ⟨W0, hW0⟩ : ∃ W0, ((w.alloc (.cells (clc ⟨nm, ky, fd, vl, n, m⟩) 38)).alloc (.cells repz 30)).alloc (.cells opzz 34) = W0 := ⟨_, rfl⟩
  rw [hW0] at hcl hre hop hbb
  have hW1 : ((w.alloc (.cells (clc ⟨nm, ky, fd, vl, n, m⟩) 38)).alloc (.cells #[.int .i64 0, .string ⟨#[]⟩, .int .i64 0, .slice none 0 0] 30)).alloc (.cells #[.int .i64 0, .string ⟨#[]⟩, .string ⟨#[]⟩, .string ⟨#[]⟩, .int .i64 0, .int .i64 0, .int .i64 0] 34) = W0 := hW0
  obtain ⟨B, hB⟩ : ∃ B, w.heap.size = B := ⟨_, rfl⟩
  rw [hB] at hcl hre hop
  have F0 : Hid (Fr w W0 B (B + 2) ⟨nm, ky, fd, vl, n, m⟩) := ⟨hcl, hbb, by omega, by omega⟩
  have HRE : Hid (W0.heap[B + 1]? = some (.cells repz 30 (0, 0))) := hre
  have HOP : Hid (W0.heap[B + 2]? = some (.cells opzz 34 (0, 0))) := hop
  clear hW0 hcl hre hop hbb
  have HN : Hid (∀ u, Below w.heap.size w u → _) := hN
  have HP : Hid (∀ u pp, Below w.heap.size w u → J pp u → _) := hP
  have HS : Hid (∀ pp (u u' : World), J pp u → Below u.heap.size u u' → J pp u') := hS
  clear hN hP hS
  go_enter Tryz.func8, Tryz.ntmps8
  go_wp2_with fail
  obtain ⟨D, hD⟩ : ∃ W, W = W0.drew := ⟨_, rfl⟩
  have FD : Fr w D B (B + 2) ⟨nm, ky, fd, vl, n, m⟩ := by rw [hD]; exact F0.out.drew
  have reD : D.heap[B + 1]? = some (.cells repz 30 (0, 0)) := by rw [hD]; exact HRE.out
  have opD : D.heap[B + 2]? = some (.cells opzz 34 (0, 0)) := by rw [hD]; exact HOP.out
  refine wp_region_noPanic ?_
  refine wp_region_held_drew (S := fun W' : World => Fr w W' B (B + 2) ⟨nm, ky, fd, vl, n, m⟩) (by kernel_rfl) (by rw [← hD]; exact FD) (fun hHeld => ?_)
  rw [← hD] at hHeld ⊢
  clear hD
  refine wpAnyH_take (i := 0) (oi := { dst := some 8, op := _, type := _, pos := _, after := _, guard := _ }) (v := .pointer p) rfl (by kernel_rfl) (by kernel_rfl) (by kernel_rfl) (fun _ _ _ h => h) (Or.inl ⟨by rfl, ?_⟩) (by assumption) ?_
  · intro w9 hSw
    exact y_move rfl rfl
  simp only [Act.put, List.setIfInBounds_toArray, List.set_cons_zero, List.set_cons_succ]
  refine wpAnyH_take (i := 2) (oi := { dst := some 10, op := _, type := _, pos := _, after := _, guard := _ }) (v := .agg (clc ⟨nm, ky, fd, vl, n, m⟩)) rfl (by kernel_rfl) (by kernel_rfl) (by kernel_rfl) (fun _ _ _ h => h) (Or.inl ⟨by rfl, ?_⟩) (by assumption) ?_
  · intro w9 hSw
    exact y_load rfl rfl hSw.load
  simp only [Act.put, List.setIfInBounds_toArray, List.set_cons_zero, List.set_cons_succ]
  clear hHeld
  refine wpAnyH_ready (rs := [1, 4]) (by kernel_rfl) (by simp) ?_
  refine AllReadyH.cons (o := { dst := some 9, op := _, type := _, pos := _, after := _, guard := _ }) rfl (fun K hK => ?_) ?_
  · rw [if_pos (by rfl)]
    have hCq1 := HN.out D FD.be
    refine y_call (f := 16) (xs := [.tmp 8]) (vs := [.pointer p]) rfl rfl (enters_ornew _ _) hCq1 ?_
    rintro ex q1 ⟨pp, rfl, iI, bq1⟩
    refine ⟨_, rfl, ?_⟩
    have Fq1 := FD.below bq1
    have req1 := (bq1.block _ (heap_lt22 reD)).trans reD
    have opq1 := (bq1.block _ (heap_lt22 opD)).trans opD
    have Iq1 := iI
    clear iI
    clear hCq1
    refine hK.out _ _ Fq1 (fun hHeld => ?_)
    clear hK K
    simp only [Act.put, List.setIfInBounds_toArray, List.set_cons_zero, List.set_cons_succ]
    clear hHeld
    refine wpAnyH_ready (rs := [3, 4]) (by kernel_rfl) (by simp) ?_
    refine AllReadyH.cons (o := { dst := some 11, op := _, type := _, pos := _, after := _, guard := _ }) rfl (fun K hK => ?_) ?_
    · rw [if_pos (by rfl)]
      have hCq2 := HP.out q1 pp Fq1.be Iq1
      refine y_call (f := 15) (xs := [.tmp 9, .tmp 10]) (vs := [.pointer pp, .agg (clc ⟨nm, ky, fd, vl, n, m⟩)]) rfl rfl (enters_outcomeof _ _) hCq2 ?_
      rintro ex q2 ⟨ao, q, cc, rfl, hX, bq2⟩
      refine ⟨_, rfl, ?_⟩
      have Fq2 := Fq1.below bq2
      have req2 := (bq2.block _ (heap_lt22 req1)).trans req1
      have opq2 := (bq2.block _ (heap_lt22 opq1)).trans opq1
      have Xq2 : TRow q2 (B + 3) (.slice ao q cc) LL := hX.lower (heap_lt22 opq1)
      clear hX
      clear hCq2
      refine hK.out _ _ Fq2 (fun hHeld => ?_)
      clear hK K
      simp only [Act.put, List.setIfInBounds_toArray, List.set_cons_zero, List.set_cons_succ]
      clear hHeld
      refine wpAnyH_ready (rs := [4]) (by kernel_rfl) (by simp) ?_
      refine AllReadyH.cons (o := { dst := some 7, op := _, type := _, pos := _, after := _, guard := _ }) rfl (fun K hK => ?_) AllReadyH.nil
      rw [if_pos (by rfl)]
      obtain ⟨q3, eq3, cq3, bq3⟩ := alloc_o q2
      have Fq3 := Fq2.below bq3
      have req3 := (bq3.block _ (heap_lt22 req2)).trans req2
      have opq3 := (bq3.block _ (heap_lt22 opq2)).trans opq2
      have Xq3 := Xq2.below bq3 (Nat.le_refl _)
      have Nq3 : ∀ kk, (Value.slice ao q cc).ownBlock = some kk → kk ≠ q2.heap.size := fun kk hk => by have := Xq2.lt22 kk hk; omega
      have lq3 : B + 2 < q2.heap.size := heap_lt22 opq2
      refine y_alloc22 rfl eq3 ?_
      refine hK.out _ _ Fq3 (fun hHeld => ?_)
      clear hK K
      simp only [Act.put, List.setIfInBounds_toArray, List.set_cons_zero, List.set_cons_succ]
      clear hHeld
      refine wpAnyH_ready (rs := [5]) (by kernel_rfl) (by simp) ?_
      refine AllReadyH.cons (o := { dst := none, op := _, type := _, pos := _, after := _, guard := _ }) rfl (fun K hK => ?_) AllReadyH.nil
      rw [if_pos (by rfl)]
      have hst := storeVar_out (cs := outx k t d ao q cc (opx k2 y2 f2 v2 n2 r2 m2) b) cq3 rfl rfl (outx_one _ _ _ _ _ _ _ _ _ _ _ _ _ _)
      have Gq4 := setRow_heap q3 (q2.heap.size) _ (outx k t d ao q cc (opx k2 y2 f2 v2 n2 r2 m2) b) _ _ cq3
      have bq4 : Below (q2.heap.size) q3 (q3.setRow (q2.heap.size) (outx k t d ao q cc (opx k2 y2 f2 v2 n2 r2 m2) b)) := below_setRow (Below.refl _ _) (Nat.le_refl _) _
      have Fq4 := Fq3.belowC bq4 lq3
      have req4 := (bq4.block _ (Nat.lt_of_succ_lt lq3)).trans req3
      have opq4 := (bq4.block _ (lq3)).trans opq3
      have Xq4 : TRow (q3.setRow (q2.heap.size) (outx k t d ao q cc (opx k2 y2 f2 v2 n2 r2 m2) b)) (B + 3) (.slice ao q cc) LL := Xq3.keep (fun kk hk => setRow_ne22 _ _ _ _ (Nq3 kk hk))
      generalize q3.setRow (q2.heap.size) (outx k t d ao q cc (opx k2 y2 f2 v2 n2 r2 m2) b) = q4 at *
      refine y_store (ty := 53) (x := .tmp 7) (y := .tmp 11) (ad := ⟨q2.heap.size, 0, none⟩) (v := .agg (outx k t d ao q cc (opx k2 y2 f2 v2 n2 r2 m2) b)) (w' := q4) rfl rfl rfl hst ?_
      refine hK.out _ _ Fq4 (fun hHeld => ?_)
      clear hK K
      simp only [Act.put]
      clear hHeld hst
      have hHeld := Fq4
      refine wpAnyH_done (by kernel_rfl) ?_ _
      refine NoPanic.normal ?_
      clear hHeld
      have HF : Hid (Fr w q4 B (B + 2) ⟨nm, ky, fd, vl, n, m⟩) := Fq4
      have HRE2 : Hid (q4.heap[B + 1]? = some (.cells repz 30 (0, 0))) := req4
      have HOP2 : Hid (q4.heap[B + 2]? = some (.cells opzz 34 (0, 0))) := opq4
      have HG : Hid (q4.heap[q2.heap.size]? = some (.cells (outx k t d ao q cc (opx k2 y2 f2 v2 n2 r2 m2) b) 53 (0, 0))) := Gq4
      have HLT : Hid (B + 2 < q2.heap.size) := lq3
      have HXX : Hid (TRow q4 (B + 3) (.slice ao q cc) LL) := Xq4
      go_wp2_with fail
      obtain ⟨E, hE⟩ : ∃ W, W = q4.drew := ⟨_, rfl⟩
      have bE : Below w.heap.size w E := by rw [hE]; exact HF.out.be.drew
      have GE : E.heap[q2.heap.size]? = some (.cells (outx k t d ao q cc (opx k2 y2 f2 v2 n2 r2 m2) b) 53 (0, 0)) := by rw [hE]; exact HG.out
      have reE : E.heap[B + 1]? = some (.cells repz 30 (0, 0)) := by rw [hE]; exact HRE2.out
      have opE : E.heap[B + 2]? = some (.cells opzz 34 (0, 0)) := by rw [hE]; exact HOP2.out
      have xE : TRow E (B + 3) (.slice ao q cc) LL := by rw [hE]; exact HXX.out
      refine wp_region_noPanic ?_
      refine wp_region_held_drew (S := fun W' : World => W'.heap[q2.heap.size]? = some (.cells (outx k t d ao q cc (opx k2 y2 f2 v2 n2 r2 m2) b) 53 (0, 0))) (by kernel_rfl) (by rw [← hE]; exact GE) (fun hHeld => ?_)
      rw [← hE] at hHeld ⊢
      clear hE
      refine wpAnyH_take (i := 0) (oi := { dst := some 12, op := _, type := _, pos := _, after := _, guard := _ }) (v := .pointer (some ⟨q2.heap.size, 0, none⟩)) rfl (by kernel_rfl) (by kernel_rfl) (by kernel_rfl) (fun _ _ _ h => h) (Or.inl ⟨by rfl, ?_⟩) (by assumption) ?_
      · intro w9 hSw
        exact y_field rfl rfl (fieldo _ _)
      simp only [Act.put, List.setIfInBounds_toArray, List.set_cons_zero, List.set_cons_succ]
      refine wpAnyH_take (i := 1) (oi := { dst := some 13, op := _, type := _, pos := _, after := _, guard := _ }) (v := .agg (repc k t d (.slice ao q cc))) rfl (by kernel_rfl) (by kernel_rfl) (by kernel_rfl) (fun _ _ _ h => h) (Or.inl ⟨by rfl, ?_⟩) (by assumption) ?_
      · intro w9 hSw
        exact y_load rfl rfl (load_o0 hSw)
      simp only [Act.put, List.setIfInBounds_toArray, List.set_cons_zero, List.set_cons_succ]
      refine wpAnyH_take (i := 2) (oi := { dst := some 14, op := _, type := _, pos := _, after := _, guard := _ }) (v := .pointer (some ⟨q2.heap.size, 4, none⟩)) rfl (by kernel_rfl) (by kernel_rfl) (by kernel_rfl) (fun _ _ _ h => h) (Or.inl ⟨by rfl, ?_⟩) (by assumption) ?_
      · intro w9 hSw
        exact y_field rfl rfl (fieldo1 _ _)
      simp only [Act.put, List.setIfInBounds_toArray, List.set_cons_zero, List.set_cons_succ]
      refine wpAnyH_take (i := 3) (oi := { dst := some 15, op := _, type := _, pos := _, after := _, guard := _ }) (v := .agg (opx k2 y2 f2 v2 n2 r2 m2)) rfl (by kernel_rfl) (by kernel_rfl) (by kernel_rfl) (fun _ _ _ h => h) (Or.inl ⟨by rfl, ?_⟩) (by assumption) ?_
      · intro w9 hSw
        exact y_load rfl rfl (load_o1 hSw)
      simp only [Act.put, List.setIfInBounds_toArray, List.set_cons_zero, List.set_cons_succ]
      refine wpAnyH_take (i := 4) (oi := { dst := some 16, op := _, type := _, pos := _, after := _, guard := _ }) (v := .pointer (some ⟨q2.heap.size, 11, none⟩)) rfl (by kernel_rfl) (by kernel_rfl) (by kernel_rfl) (fun _ _ _ h => h) (Or.inl ⟨by rfl, ?_⟩) (by assumption) ?_
      · intro w9 hSw
        exact y_field rfl rfl (fieldo2 _ _)
      simp only [Act.put, List.setIfInBounds_toArray, List.set_cons_zero, List.set_cons_succ]
      refine wpAnyH_take (i := 5) (oi := { dst := some 17, op := _, type := _, pos := _, after := _, guard := _ }) (v := .bool b) rfl (by kernel_rfl) (by kernel_rfl) (by kernel_rfl) (fun _ _ _ h => h) (Or.inl ⟨by rfl, ?_⟩) (by assumption) ?_
      · intro w9 hSw
        exact y_load rfl rfl (load_o2 hSw)
      simp only [Act.put, List.setIfInBounds_toArray, List.set_cons_zero, List.set_cons_succ]
      clear hHeld
      refine wpAnyH_ready (rs := [6]) (by kernel_rfl) (by simp) ?_
      refine AllReadyH.cons (o := { dst := none, op := _, type := _, pos := _, after := _, guard := _ }) rfl (fun K hK => ?_) AllReadyH.nil
      rw [if_pos (by rfl)]
      have hs1 := storeVar_rep (cs := repc k t d (.slice ao q cc)) reE rfl rfl (repc_one _ _ _ _ _ _)
      have r1 := setRow_heap E (B + 1) _ (repc k t d (.slice ao q cc)) _ _ reE
      have o1 := (setRow_ne22 E (B + 1) (B + 2) (repc k t d (.slice ao q cc)) (by omega)).trans opE
      have g1 := (setRow_ne22 E (B + 1) (q2.heap.size) (repc k t d (.slice ao q cc)) (by have := HLT.out; omega)).trans GE
      have b1 : Below w.heap.size w (E.setRow (B + 1) (repc k t d (.slice ao q cc))) := below_setRow bE (by omega) _
      have x1 : TRow (E.setRow (B + 1) (repc k t d (.slice ao q cc))) (B + 3) (.slice ao q cc) LL := xE.keep (fun kk hk => setRow_ne22 _ _ _ _ (by have := xE.own kk hk; omega))
      generalize E.setRow (B + 1) (repc k t d (.slice ao q cc)) = E1 at *
      refine y_store (ty := 30) (x := .tmp 4) (y := .tmp 13) (ad := ⟨B + 1, 0, none⟩) (v := .agg (repc k t d (.slice ao q cc))) (w' := E1) rfl rfl rfl hs1 ?_
      refine hK.out _ _ g1 (fun hHeld => ?_)
      clear hK K
      simp only [Act.put]
      clear hHeld hs1
      refine wpAnyH_ready (rs := [7]) (by kernel_rfl) (by simp) ?_
      refine AllReadyH.cons (o := { dst := none, op := _, type := _, pos := _, after := _, guard := _ }) rfl (fun K hK => ?_) AllReadyH.nil
      rw [if_pos (by rfl)]
      have hs2 := storeVar_opr (cs := opx k2 y2 f2 v2 n2 r2 m2) o1 rfl rfl (opx_one _ _ _ _ _ _ _)
      have o2 := setRow_heap E1 (B + 2) _ (opx k2 y2 f2 v2 n2 r2 m2) _ _ o1
      have r2' := (setRow_ne22 E1 (B + 2) (B + 1) (opx k2 y2 f2 v2 n2 r2 m2) (by omega)).trans r1
      have g2 := (setRow_ne22 E1 (B + 2) (q2.heap.size) (opx k2 y2 f2 v2 n2 r2 m2) (by have := HLT.out; omega)).trans g1
      have b2 : Below w.heap.size w (E1.setRow (B + 2) (opx k2 y2 f2 v2 n2 r2 m2)) := below_setRow b1 (by omega) _
      have x2 : TRow (E1.setRow (B + 2) (opx k2 y2 f2 v2 n2 r2 m2)) (B + 3) (.slice ao q cc) LL := x1.keep (fun kk hk => setRow_ne22 _ _ _ _ (by have := x1.own kk hk; omega))
      generalize E1.setRow (B + 2) (opx k2 y2 f2 v2 n2 r2 m2) = E2 at *
      refine y_store (ty := 34) (x := .tmp 5) (y := .tmp 15) (ad := ⟨B + 2, 0, none⟩) (v := .agg (opx k2 y2 f2 v2 n2 r2 m2)) (w' := E2) rfl rfl rfl hs2 ?_
      refine hK.out _ _ g2 (fun hHeld => ?_)
      clear hK K
      simp only [Act.put]
      refine wpAnyH_take (i := 8) (oi := { dst := some 6, op := _, type := _, pos := _, after := _, guard := _ }) (v := .bool b) rfl (by kernel_rfl) (by kernel_rfl) (by kernel_rfl) (fun _ _ _ h => h) (Or.inl ⟨by rfl, ?_⟩) (by assumption) ?_
      · intro w9 hSw
        exact y_assign rfl rfl
      simp only [Act.put, List.setIfInBounds_toArray, List.set_cons_zero, List.set_cons_succ]
      refine wpAnyH_done (by kernel_rfl) ?_ _
      refine NoPanic.normal ?_
      clear hHeld
      go_wp2
      refine ret_plan rfl rfl rfl rfl rfl r2' rfl o2 rfl ?_
      exact ⟨_, _, _, rfl, by first | exact x2.lower (by omega) | (rw [hB]; exact x2.lower (by omega)), by first | exact b2 | (rw [← hB]; exact b2)⟩
    refine AllReadyH.cons (o := { dst := some 7, op := _, type := _, pos := _, after := _, guard := _ }) rfl (fun K hK => ?_) AllReadyH.nil
    rw [if_pos (by rfl)]
    obtain ⟨q5, eq5, cq5, bq5⟩ := alloc_o q1
    have Fq5 := Fq1.below bq5
    have req5 := (bq5.block _ (heap_lt22 req1)).trans req1
    have opq5 := (bq5.block _ (heap_lt22 opq1)).trans opq1
    have Iq5 := HS.out _ _ _ Iq1 bq5
    have lq5 : B + 2 < q1.heap.size := heap_lt22 opq1
    refine y_alloc22 rfl eq5 ?_
    refine hK.out _ _ Fq5 (fun hHeld => ?_)
    clear hK K
    simp only [Act.put, List.setIfInBounds_toArray, List.set_cons_zero, List.set_cons_succ]
    clear hHeld
    refine wpAnyH_ready (rs := [3]) (by kernel_rfl) (by simp) ?_
    refine AllReadyH.cons (o := { dst := some 11, op := _, type := _, pos := _, after := _, guard := _ }) rfl (fun K hK => ?_) AllReadyH.nil
    rw [if_pos (by rfl)]
    have hCq6 := HP.out q5 pp Fq5.be Iq5
    refine y_call (f := 15) (xs := [.tmp 9, .tmp 10]) (vs := [.pointer pp, .agg (clc ⟨nm, ky, fd, vl, n, m⟩)]) rfl rfl (enters_outcomeof _ _) hCq6 ?_
    rintro ex q6 ⟨ao, q, cc, rfl, hX, bq6⟩
    refine ⟨_, rfl, ?_⟩
    have Fq6 := Fq5.below bq6
    have req6 := (bq6.block _ (heap_lt22 req5)).trans req5
    have opq6 := (bq6.block _ (heap_lt22 opq5)).trans opq5
    have Gq6 := (bq6.block _ (heap_lt22 cq5)).trans cq5
    have Xq6 : TRow q6 (B + 3) (.slice ao q cc) LL := hX.lower (heap_lt22 opq5)
    have Nq6 : ∀ kk, (Value.slice ao q cc).ownBlock = some kk → kk ≠ q1.heap.size := fun kk hk => by have := hX.own kk hk; have := heap_lt22 cq5; omega
    clear hX
    clear hCq6
    refine hK.out _ _ Fq6 (fun hHeld => ?_)
    clear hK K
    simp only [Act.put, List.setIfInBounds_toArray, List.set_cons_zero, List.set_cons_succ]
    clear hHeld
    refine wpAnyH_ready (rs := [5]) (by kernel_rfl) (by simp) ?_
    refine AllReadyH.cons (o := { dst := none, op := _, type := _, pos := _, after := _, guard := _ }) rfl (fun K hK => ?_) AllReadyH.nil
    rw [if_pos (by rfl)]
    have hst := storeVar_out (cs := outx k t d ao q cc (opx k2 y2 f2 v2 n2 r2 m2) b) Gq6 rfl rfl (outx_one _ _ _ _ _ _ _ _ _ _ _ _ _ _)
    have Gq7 := setRow_heap q6 (q1.heap.size) _ (outx k t d ao q cc (opx k2 y2 f2 v2 n2 r2 m2) b) _ _ Gq6
    have bq7 : Below (q1.heap.size) q6 (q6.setRow (q1.heap.size) (outx k t d ao q cc (opx k2 y2 f2 v2 n2 r2 m2) b)) := below_setRow (Below.refl _ _) (Nat.le_refl _) _
    have Fq7 := Fq6.belowC bq7 lq5
    have req7 := (bq7.block _ (Nat.lt_of_succ_lt lq5)).trans req6
    have opq7 := (bq7.block _ (lq5)).trans opq6
    have Xq7 : TRow (q6.setRow (q1.heap.size) (outx k t d ao q cc (opx k2 y2 f2 v2 n2 r2 m2) b)) (B + 3) (.slice ao q cc) LL := Xq6.keep (fun kk hk => setRow_ne22 _ _ _ _ (Nq6 kk hk))
    generalize q6.setRow (q1.heap.size) (outx k t d ao q cc (opx k2 y2 f2 v2 n2 r2 m2) b) = q7 at *
    refine y_store (ty := 53) (x := .tmp 7) (y := .tmp 11) (ad := ⟨q1.heap.size, 0, none⟩) (v := .agg (outx k t d ao q cc (opx k2 y2 f2 v2 n2 r2 m2) b)) (w' := q7) rfl rfl rfl hst ?_
    refine hK.out _ _ Fq7 (fun hHeld => ?_)
    clear hK K
    simp only [Act.put]
    clear hHeld hst
    have hHeld := Fq7
    refine wpAnyH_done (by kernel_rfl) ?_ _
    refine NoPanic.normal ?_
    clear hHeld
    have HF : Hid (Fr w q7 B (B + 2) ⟨nm, ky, fd, vl, n, m⟩) := Fq7
    have HRE2 : Hid (q7.heap[B + 1]? = some (.cells repz 30 (0, 0))) := req7
    have HOP2 : Hid (q7.heap[B + 2]? = some (.cells opzz 34 (0, 0))) := opq7
    have HG : Hid (q7.heap[q1.heap.size]? = some (.cells (outx k t d ao q cc (opx k2 y2 f2 v2 n2 r2 m2) b) 53 (0, 0))) := Gq7
    have HLT : Hid (B + 2 < q1.heap.size) := lq5
    have HXX : Hid (TRow q7 (B + 3) (.slice ao q cc) LL) := Xq7
    go_wp2_with fail
    obtain ⟨E, hE⟩ : ∃ W, W = q7.drew := ⟨_, rfl⟩
    have bE : Below w.heap.size w E := by rw [hE]; exact HF.out.be.drew
    have GE : E.heap[q1.heap.size]? = some (.cells (outx k t d ao q cc (opx k2 y2 f2 v2 n2 r2 m2) b) 53 (0, 0)) := by rw [hE]; exact HG.out
    have reE : E.heap[B + 1]? = some (.cells repz 30 (0, 0)) := by rw [hE]; exact HRE2.out
    have opE : E.heap[B + 2]? = some (.cells opzz 34 (0, 0)) := by rw [hE]; exact HOP2.out
    have xE : TRow E (B + 3) (.slice ao q cc) LL := by rw [hE]; exact HXX.out
    refine wp_region_noPanic ?_
    refine wp_region_held_drew (S := fun W' : World => W'.heap[q1.heap.size]? = some (.cells (outx k t d ao q cc (opx k2 y2 f2 v2 n2 r2 m2) b) 53 (0, 0))) (by kernel_rfl) (by rw [← hE]; exact GE) (fun hHeld => ?_)
    rw [← hE] at hHeld ⊢
    clear hE
    refine wpAnyH_take (i := 0) (oi := { dst := some 12, op := _, type := _, pos := _, after := _, guard := _ }) (v := .pointer (some ⟨q1.heap.size, 0, none⟩)) rfl (by kernel_rfl) (by kernel_rfl) (by kernel_rfl) (fun _ _ _ h => h) (Or.inl ⟨by rfl, ?_⟩) (by assumption) ?_
    · intro w9 hSw
      exact y_field rfl rfl (fieldo _ _)
    simp only [Act.put, List.setIfInBounds_toArray, List.set_cons_zero, List.set_cons_succ]
    refine wpAnyH_take (i := 1) (oi := { dst := some 13, op := _, type := _, pos := _, after := _, guard := _ }) (v := .agg (repc k t d (.slice ao q cc))) rfl (by kernel_rfl) (by kernel_rfl) (by kernel_rfl) (fun _ _ _ h => h) (Or.inl ⟨by rfl, ?_⟩) (by assumption) ?_
    · intro w9 hSw
      exact y_load rfl rfl (load_o0 hSw)
    simp only [Act.put, List.setIfInBounds_toArray, List.set_cons_zero, List.set_cons_succ]
    refine wpAnyH_take (i := 2) (oi := { dst := some 14, op := _, type := _, pos := _, after := _, guard := _ }) (v := .pointer (some ⟨q1.heap.size, 4, none⟩)) rfl (by kernel_rfl) (by kernel_rfl) (by kernel_rfl) (fun _ _ _ h => h) (Or.inl ⟨by rfl, ?_⟩) (by assumption) ?_
    · intro w9 hSw
      exact y_field rfl rfl (fieldo1 _ _)
    simp only [Act.put, List.setIfInBounds_toArray, List.set_cons_zero, List.set_cons_succ]
    refine wpAnyH_take (i := 3) (oi := { dst := some 15, op := _, type := _, pos := _, after := _, guard := _ }) (v := .agg (opx k2 y2 f2 v2 n2 r2 m2)) rfl (by kernel_rfl) (by kernel_rfl) (by kernel_rfl) (fun _ _ _ h => h) (Or.inl ⟨by rfl, ?_⟩) (by assumption) ?_
    · intro w9 hSw
      exact y_load rfl rfl (load_o1 hSw)
    simp only [Act.put, List.setIfInBounds_toArray, List.set_cons_zero, List.set_cons_succ]
    refine wpAnyH_take (i := 4) (oi := { dst := some 16, op := _, type := _, pos := _, after := _, guard := _ }) (v := .pointer (some ⟨q1.heap.size, 11, none⟩)) rfl (by kernel_rfl) (by kernel_rfl) (by kernel_rfl) (fun _ _ _ h => h) (Or.inl ⟨by rfl, ?_⟩) (by assumption) ?_
    · intro w9 hSw
      exact y_field rfl rfl (fieldo2 _ _)
    simp only [Act.put, List.setIfInBounds_toArray, List.set_cons_zero, List.set_cons_succ]
    refine wpAnyH_take (i := 5) (oi := { dst := some 17, op := _, type := _, pos := _, after := _, guard := _ }) (v := .bool b) rfl (by kernel_rfl) (by kernel_rfl) (by kernel_rfl) (fun _ _ _ h => h) (Or.inl ⟨by rfl, ?_⟩) (by assumption) ?_
    · intro w9 hSw
      exact y_load rfl rfl (load_o2 hSw)
    simp only [Act.put, List.setIfInBounds_toArray, List.set_cons_zero, List.set_cons_succ]
    clear hHeld
    refine wpAnyH_ready (rs := [6]) (by kernel_rfl) (by simp) ?_
    refine AllReadyH.cons (o := { dst := none, op := _, type := _, pos := _, after := _, guard := _ }) rfl (fun K hK => ?_) AllReadyH.nil
    rw [if_pos (by rfl)]
    have hs1 := storeVar_rep (cs := repc k t d (.slice ao q cc)) reE rfl rfl (repc_one _ _ _ _ _ _)
    have r1 := setRow_heap E (B + 1) _ (repc k t d (.slice ao q cc)) _ _ reE
    have o1 := (setRow_ne22 E (B + 1) (B + 2) (repc k t d (.slice ao q cc)) (by omega)).trans opE
    have g1 := (setRow_ne22 E (B + 1) (q1.heap.size) (repc k t d (.slice ao q cc)) (by have := HLT.out; omega)).trans GE
    have b1 : Below w.heap.size w (E.setRow (B + 1) (repc k t d (.slice ao q cc))) := below_setRow bE (by omega) _
    have x1 : TRow (E.setRow (B + 1) (repc k t d (.slice ao q cc))) (B + 3) (.slice ao q cc) LL := xE.keep (fun kk hk => setRow_ne22 _ _ _ _ (by have := xE.own kk hk; omega))
    generalize E.setRow (B + 1) (repc k t d (.slice ao q cc)) = E1 at *
    refine y_store (ty := 30) (x := .tmp 4) (y := .tmp 13) (ad := ⟨B + 1, 0, none⟩) (v := .agg (repc k t d (.slice ao q cc))) (w' := E1) rfl rfl rfl hs1 ?_
    refine hK.out _ _ g1 (fun hHeld => ?_)
    clear hK K
    simp only [Act.put]
    clear hHeld hs1
    refine wpAnyH_ready (rs := [7]) (by kernel_rfl) (by simp) ?_
    refine AllReadyH.cons (o := { dst := none, op := _, type := _, pos := _, after := _, guard := _ }) rfl (fun K hK => ?_) AllReadyH.nil
    rw [if_pos (by rfl)]
    have hs2 := storeVar_opr (cs := opx k2 y2 f2 v2 n2 r2 m2) o1 rfl rfl (opx_one _ _ _ _ _ _ _)
    have o2 := setRow_heap E1 (B + 2) _ (opx k2 y2 f2 v2 n2 r2 m2) _ _ o1
    have r2' := (setRow_ne22 E1 (B + 2) (B + 1) (opx k2 y2 f2 v2 n2 r2 m2) (by omega)).trans r1
    have g2 := (setRow_ne22 E1 (B + 2) (q1.heap.size) (opx k2 y2 f2 v2 n2 r2 m2) (by have := HLT.out; omega)).trans g1
    have b2 : Below w.heap.size w (E1.setRow (B + 2) (opx k2 y2 f2 v2 n2 r2 m2)) := below_setRow b1 (by omega) _
    have x2 : TRow (E1.setRow (B + 2) (opx k2 y2 f2 v2 n2 r2 m2)) (B + 3) (.slice ao q cc) LL := x1.keep (fun kk hk => setRow_ne22 _ _ _ _ (by have := x1.own kk hk; omega))
    generalize E1.setRow (B + 2) (opx k2 y2 f2 v2 n2 r2 m2) = E2 at *
    refine y_store (ty := 34) (x := .tmp 5) (y := .tmp 15) (ad := ⟨B + 2, 0, none⟩) (v := .agg (opx k2 y2 f2 v2 n2 r2 m2)) (w' := E2) rfl rfl rfl hs2 ?_
    refine hK.out _ _ g2 (fun hHeld => ?_)
    clear hK K
    simp only [Act.put]
    refine wpAnyH_take (i := 8) (oi := { dst := some 6, op := _, type := _, pos := _, after := _, guard := _ }) (v := .bool b) rfl (by kernel_rfl) (by kernel_rfl) (by kernel_rfl) (fun _ _ _ h => h) (Or.inl ⟨by rfl, ?_⟩) (by assumption) ?_
    · intro w9 hSw
      exact y_assign rfl rfl
    simp only [Act.put, List.setIfInBounds_toArray, List.set_cons_zero, List.set_cons_succ]
    refine wpAnyH_done (by kernel_rfl) ?_ _
    refine NoPanic.normal ?_
    clear hHeld
    go_wp2
    refine ret_plan rfl rfl rfl rfl rfl r2' rfl o2 rfl ?_
    exact ⟨_, _, _, rfl, by first | exact x2.lower (by omega) | (rw [hB]; exact x2.lower (by omega)), by first | exact b2 | (rw [← hB]; exact b2)⟩
  refine AllReadyH.cons (o := { dst := some 7, op := _, type := _, pos := _, after := _, guard := _ }) rfl (fun K hK => ?_) AllReadyH.nil
  rw [if_pos (by rfl)]
  obtain ⟨q8, eq8, cq8, bq8⟩ := alloc_o D
  have Fq8 := FD.below bq8
  have req8 := (bq8.block _ (heap_lt22 reD)).trans reD
  have opq8 := (bq8.block _ (heap_lt22 opD)).trans opD
  have lq8 : B + 2 < D.heap.size := heap_lt22 opD
  refine y_alloc22 rfl eq8 ?_
  refine hK.out _ _ Fq8 (fun hHeld => ?_)
  clear hK K
  simp only [Act.put, List.setIfInBounds_toArray, List.set_cons_zero, List.set_cons_succ]
  clear hHeld
  refine wpAnyH_ready (rs := [1]) (by kernel_rfl) (by simp) ?_
  refine AllReadyH.cons (o := { dst := some 9, op := _, type := _, pos := _, after := _, guard := _ }) rfl (fun K hK => ?_) AllReadyH.nil
  rw [if_pos (by rfl)]
  have hCq9 := HN.out q8 Fq8.be
  refine y_call (f := 16) (xs := [.tmp 8]) (vs := [.pointer p]) rfl rfl (enters_ornew _ _) hCq9 ?_
  rintro ex q9 ⟨pp, rfl, iI, bq9⟩
  refine ⟨_, rfl, ?_⟩
  have Fq9 := Fq8.below bq9
  have req9 := (bq9.block _ (heap_lt22 req8)).trans req8
  have opq9 := (bq9.block _ (heap_lt22 opq8)).trans opq8
  have Gq9 := (bq9.block _ (heap_lt22 cq8)).trans cq8
  have Iq9 := iI
  clear iI
  clear hCq9
  refine hK.out _ _ Fq9 (fun hHeld => ?_)
  clear hK K
  simp only [Act.put, List.setIfInBounds_toArray, List.set_cons_zero, List.set_cons_succ]
  clear hHeld
  refine wpAnyH_ready (rs := [3]) (by kernel_rfl) (by simp) ?_
  refine AllReadyH.cons (o := { dst := some 11, op := _, type := _, pos := _, after := _, guard := _ }) rfl (fun K hK => ?_) AllReadyH.nil
  rw [if_pos (by rfl)]
  have hCq10 := HP.out q9 pp Fq9.be Iq9
  refine y_call (f := 15) (xs := [.tmp 9, .tmp 10]) (vs := [.pointer pp, .agg (clc ⟨nm, ky, fd, vl, n, m⟩)]) rfl rfl (enters_outcomeof _ _) hCq10 ?_
  rintro ex q10 ⟨ao, q, cc, rfl, hX, bq10⟩
  refine ⟨_, rfl, ?_⟩
  have Fq10 := Fq9.below bq10
  have req10 := (bq10.block _ (heap_lt22 req9)).trans req9
  have opq10 := (bq10.block _ (heap_lt22 opq9)).trans opq9
  have Gq10 := (bq10.block _ (heap_lt22 Gq9)).trans Gq9
  have Xq10 : TRow q10 (B + 3) (.slice ao q cc) LL := hX.lower (heap_lt22 opq9)
  have Nq10 : ∀ kk, (Value.slice ao q cc).ownBlock = some kk → kk ≠ D.heap.size := fun kk hk => by have := hX.own kk hk; have := heap_lt22 Gq9; omega
  clear hX
  clear hCq10
  refine hK.out _ _ Fq10 (fun hHeld => ?_)
  clear hK K
  simp only [Act.put, List.setIfInBounds_toArray, List.set_cons_zero, List.set_cons_succ]
  clear hHeld
  refine wpAnyH_ready (rs := [5]) (by kernel_rfl) (by simp) ?_
  refine AllReadyH.cons (o := { dst := none, op := _, type := _, pos := _, after := _, guard := _ }) rfl (fun K hK => ?_) AllReadyH.nil
  rw [if_pos (by rfl)]
  have hst := storeVar_out (cs := outx k t d ao q cc (opx k2 y2 f2 v2 n2 r2 m2) b) Gq10 rfl rfl (outx_one _ _ _ _ _ _ _ _ _ _ _ _ _ _)
  have Gq11 := setRow_heap q10 (D.heap.size) _ (outx k t d ao q cc (opx k2 y2 f2 v2 n2 r2 m2) b) _ _ Gq10
  have bq11 : Below (D.heap.size) q10 (q10.setRow (D.heap.size) (outx k t d ao q cc (opx k2 y2 f2 v2 n2 r2 m2) b)) := below_setRow (Below.refl _ _) (Nat.le_refl _) _
  have Fq11 := Fq10.belowC bq11 lq8
  have req11 := (bq11.block _ (Nat.lt_of_succ_lt lq8)).trans req10
  have opq11 := (bq11.block _ (lq8)).trans opq10
  have Xq11 : TRow (q10.setRow (D.heap.size) (outx k t d ao q cc (opx k2 y2 f2 v2 n2 r2 m2) b)) (B + 3) (.slice ao q cc) LL := Xq10.keep (fun kk hk => setRow_ne22 _ _ _ _ (Nq10 kk hk))
  generalize q10.setRow (D.heap.size) (outx k t d ao q cc (opx k2 y2 f2 v2 n2 r2 m2) b) = q11 at *
  refine y_store (ty := 53) (x := .tmp 7) (y := .tmp 11) (ad := ⟨D.heap.size, 0, none⟩) (v := .agg (outx k t d ao q cc (opx k2 y2 f2 v2 n2 r2 m2) b)) (w' := q11) rfl rfl rfl hst ?_
  refine hK.out _ _ Fq11 (fun hHeld => ?_)
  clear hK K
  simp only [Act.put]
  clear hHeld hst
  have hHeld := Fq11
  refine wpAnyH_done (by kernel_rfl) ?_ _
  refine NoPanic.normal ?_
  clear hHeld
  have HF : Hid (Fr w q11 B (B + 2) ⟨nm, ky, fd, vl, n, m⟩) := Fq11
  have HRE2 : Hid (q11.heap[B + 1]? = some (.cells repz 30 (0, 0))) := req11
  have HOP2 : Hid (q11.heap[B + 2]? = some (.cells opzz 34 (0, 0))) := opq11
  have HG : Hid (q11.heap[D.heap.size]? = some (.cells (outx k t d ao q cc (opx k2 y2 f2 v2 n2 r2 m2) b) 53 (0, 0))) := Gq11
  have HLT : Hid (B + 2 < D.heap.size) := lq8
  have HXX : Hid (TRow q11 (B + 3) (.slice ao q cc) LL) := Xq11
  go_wp2_with fail
  obtain ⟨E, hE⟩ : ∃ W, W = q11.drew := ⟨_, rfl⟩
  have bE : Below w.heap.size w E := by rw [hE]; exact HF.out.be.drew
  have GE : E.heap[D.heap.size]? = some (.cells (outx k t d ao q cc (opx k2 y2 f2 v2 n2 r2 m2) b) 53 (0, 0)) := by rw [hE]; exact HG.out
  have reE : E.heap[B + 1]? = some (.cells repz 30 (0, 0)) := by rw [hE]; exact HRE2.out
  have opE : E.heap[B + 2]? = some (.cells opzz 34 (0, 0)) := by rw [hE]; exact HOP2.out
  have xE : TRow E (B + 3) (.slice ao q cc) LL := by rw [hE]; exact HXX.out
  refine wp_region_noPanic ?_
  refine wp_region_held_drew (S := fun W' : World => W'.heap[D.heap.size]? = some (.cells (outx k t d ao q cc (opx k2 y2 f2 v2 n2 r2 m2) b) 53 (0, 0))) (by kernel_rfl) (by rw [← hE]; exact GE) (fun hHeld => ?_)
  rw [← hE] at hHeld ⊢
  clear hE
  refine wpAnyH_take (i := 0) (oi := { dst := some 12, op := _, type := _, pos := _, after := _, guard := _ }) (v := .pointer (some ⟨D.heap.size, 0, none⟩)) rfl (by kernel_rfl) (by kernel_rfl) (by kernel_rfl) (fun _ _ _ h => h) (Or.inl ⟨by rfl, ?_⟩) (by assumption) ?_
  · intro w9 hSw
    exact y_field rfl rfl (fieldo _ _)
  simp only [Act.put, List.setIfInBounds_toArray, List.set_cons_zero, List.set_cons_succ]
  refine wpAnyH_take (i := 1) (oi := { dst := some 13, op := _, type := _, pos := _, after := _, guard := _ }) (v := .agg (repc k t d (.slice ao q cc))) rfl (by kernel_rfl) (by kernel_rfl) (by kernel_rfl) (fun _ _ _ h => h) (Or.inl ⟨by rfl, ?_⟩) (by assumption) ?_
  · intro w9 hSw
    exact y_load rfl rfl (load_o0 hSw)
  simp only [Act.put, List.setIfInBounds_toArray, List.set_cons_zero, List.set_cons_succ]
  refine wpAnyH_take (i := 2) (oi := { dst := some 14, op := _, type := _, pos := _, after := _, guard := _ }) (v := .pointer (some ⟨D.heap.size, 4, none⟩)) rfl (by kernel_rfl) (by kernel_rfl) (by kernel_rfl) (fun _ _ _ h => h) (Or.inl ⟨by rfl, ?_⟩) (by assumption) ?_
  · intro w9 hSw
    exact y_field rfl rfl (fieldo1 _ _)
  simp only [Act.put, List.setIfInBounds_toArray, List.set_cons_zero, List.set_cons_succ]
  refine wpAnyH_take (i := 3) (oi := { dst := some 15, op := _, type := _, pos := _, after := _, guard := _ }) (v := .agg (opx k2 y2 f2 v2 n2 r2 m2)) rfl (by kernel_rfl) (by kernel_rfl) (by kernel_rfl) (fun _ _ _ h => h) (Or.inl ⟨by rfl, ?_⟩) (by assumption) ?_
  · intro w9 hSw
    exact y_load rfl rfl (load_o1 hSw)
  simp only [Act.put, List.setIfInBounds_toArray, List.set_cons_zero, List.set_cons_succ]
  refine wpAnyH_take (i := 4) (oi := { dst := some 16, op := _, type := _, pos := _, after := _, guard := _ }) (v := .pointer (some ⟨D.heap.size, 11, none⟩)) rfl (by kernel_rfl) (by kernel_rfl) (by kernel_rfl) (fun _ _ _ h => h) (Or.inl ⟨by rfl, ?_⟩) (by assumption) ?_
  · intro w9 hSw
    exact y_field rfl rfl (fieldo2 _ _)
  simp only [Act.put, List.setIfInBounds_toArray, List.set_cons_zero, List.set_cons_succ]
  refine wpAnyH_take (i := 5) (oi := { dst := some 17, op := _, type := _, pos := _, after := _, guard := _ }) (v := .bool b) rfl (by kernel_rfl) (by kernel_rfl) (by kernel_rfl) (fun _ _ _ h => h) (Or.inl ⟨by rfl, ?_⟩) (by assumption) ?_
  · intro w9 hSw
    exact y_load rfl rfl (load_o2 hSw)
  simp only [Act.put, List.setIfInBounds_toArray, List.set_cons_zero, List.set_cons_succ]
  clear hHeld
  refine wpAnyH_ready (rs := [6]) (by kernel_rfl) (by simp) ?_
  refine AllReadyH.cons (o := { dst := none, op := _, type := _, pos := _, after := _, guard := _ }) rfl (fun K hK => ?_) AllReadyH.nil
  rw [if_pos (by rfl)]
  have hs1 := storeVar_rep (cs := repc k t d (.slice ao q cc)) reE rfl rfl (repc_one _ _ _ _ _ _)
  have r1 := setRow_heap E (B + 1) _ (repc k t d (.slice ao q cc)) _ _ reE
  have o1 := (setRow_ne22 E (B + 1) (B + 2) (repc k t d (.slice ao q cc)) (by omega)).trans opE
  have g1 := (setRow_ne22 E (B + 1) (D.heap.size) (repc k t d (.slice ao q cc)) (by have := HLT.out; omega)).trans GE
  have b1 : Below w.heap.size w (E.setRow (B + 1) (repc k t d (.slice ao q cc))) := below_setRow bE (by omega) _
  have x1 : TRow (E.setRow (B + 1) (repc k t d (.slice ao q cc))) (B + 3) (.slice ao q cc) LL := xE.keep (fun kk hk => setRow_ne22 _ _ _ _ (by have := xE.own kk hk; omega))
  generalize E.setRow (B + 1) (repc k t d (.slice ao q cc)) = E1 at *
  refine y_store (ty := 30) (x := .tmp 4) (y := .tmp 13) (ad := ⟨B + 1, 0, none⟩) (v := .agg (repc k t d (.slice ao q cc))) (w' := E1) rfl rfl rfl hs1 ?_
  refine hK.out _ _ g1 (fun hHeld => ?_)
  clear hK K
  simp only [Act.put]
  clear hHeld hs1
  refine wpAnyH_ready (rs := [7]) (by kernel_rfl) (by simp) ?_
  refine AllReadyH.cons (o := { dst := none, op := _, type := _, pos := _, after := _, guard := _ }) rfl (fun K hK => ?_) AllReadyH.nil
  rw [if_pos (by rfl)]
  have hs2 := storeVar_opr (cs := opx k2 y2 f2 v2 n2 r2 m2) o1 rfl rfl (opx_one _ _ _ _ _ _ _)
  have o2 := setRow_heap E1 (B + 2) _ (opx k2 y2 f2 v2 n2 r2 m2) _ _ o1
  have r2' := (setRow_ne22 E1 (B + 2) (B + 1) (opx k2 y2 f2 v2 n2 r2 m2) (by omega)).trans r1
  have g2 := (setRow_ne22 E1 (B + 2) (D.heap.size) (opx k2 y2 f2 v2 n2 r2 m2) (by have := HLT.out; omega)).trans g1
  have b2 : Below w.heap.size w (E1.setRow (B + 2) (opx k2 y2 f2 v2 n2 r2 m2)) := below_setRow b1 (by omega) _
  have x2 : TRow (E1.setRow (B + 2) (opx k2 y2 f2 v2 n2 r2 m2)) (B + 3) (.slice ao q cc) LL := x1.keep (fun kk hk => setRow_ne22 _ _ _ _ (by have := x1.own kk hk; omega))
  generalize E1.setRow (B + 2) (opx k2 y2 f2 v2 n2 r2 m2) = E2 at *
  refine y_store (ty := 34) (x := .tmp 5) (y := .tmp 15) (ad := ⟨B + 2, 0, none⟩) (v := .agg (opx k2 y2 f2 v2 n2 r2 m2)) (w' := E2) rfl rfl rfl hs2 ?_
  refine hK.out _ _ g2 (fun hHeld => ?_)
  clear hK K
  simp only [Act.put]
  refine wpAnyH_take (i := 8) (oi := { dst := some 6, op := _, type := _, pos := _, after := _, guard := _ }) (v := .bool b) rfl (by kernel_rfl) (by kernel_rfl) (by kernel_rfl) (fun _ _ _ h => h) (Or.inl ⟨by rfl, ?_⟩) (by assumption) ?_
  · intro w9 hSw
    exact y_assign rfl rfl
  simp only [Act.put, List.setIfInBounds_toArray, List.set_cons_zero, List.set_cons_succ]
  refine wpAnyH_done (by kernel_rfl) ?_ _
  refine NoPanic.normal ?_
  clear hHeld
  go_wp2
  refine ret_plan rfl rfl rfl rfl rfl r2' rfl o2 rfl ?_
  exact ⟨_, _, _, rfl, by first | exact x2.lower (by omega) | (rw [hB]; exact x2.lower (by omega)), by first | exact b2 | (rw [← hB]; exact b2)⟩
end Go.Proofs.YtmlfekbmbnfkjabGreatDoor

