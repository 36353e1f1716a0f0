/-
  What field's byField comes to: the region 'fields[s] = append(fields[s], e)' draws its order.
-/
import Derived.Test.YtmbecjmmcekpnaaFgr
import Derived.Deep.RegionHeld3
namespace Go.Proofs.Ytmbecjmmcekpnaa
set_option maxRecDepth 100000
open Go.RowKit Go.Maps Go.WideMaps Go.Sort

section
variable {o : Oper} {a : Act} {w w' : World} {K : Act → World → Prop} {Q : Exit → Act → World → Prop} {x y z : Operand} {ty : TypeId} {v v' p q : Value}
theorem wp_lookup1 (ho : o.op = .lookup ty x y false) (hx : a.eval x = p) (hy : a.eval y = q) (hr : (Instr.lookup ty p q false).run Try.prog w = .ok v w) (h : K (a.put o.dst v) w) : o.wp Try.prog a w K Q := by
  unfold Oper.wp execOp
  simp only [ho, hx, hy, Sem.run_bind, Sem.run_pure, Result.andThen_ok, hr]
  exact h
theorem wp_mapU (ho : o.op = .mapUpdate ty x y z) (hx : a.eval x = p) (hy : a.eval y = q) (hz : a.eval z = v) (hr : (Instr.mapUpdate ty p q v).run Try.prog w = .ok () w') (h : K (a.put o.dst undef) w') : o.wp Try.prog a w K Q := by
  unfold Oper.wp execOp
  simp only [ho, hx, hy, hz, Sem.run_bind, Sem.run_pure, Result.andThen_ok, hr]
  exact h
theorem wp_buildS {n : Nat} {z : Value} (ho : o.op = .buildSlice ty n #[(0, x)]) (hx : a.eval x = z) (hr : (Instr.buildSlice ty n #[(0, z)]).run Try.prog w = .ok v w') (h : K (a.put o.dst v) w') : o.wp Try.prog a w K Q := by
  unfold Oper.wp execOp
  simp only [ho, List.map_toArray, List.map_cons, List.map_nil, hx, Sem.run_bind, Sem.run_pure, Result.andThen_ok, hr]
  exact h
theorem wp_app1 (ho : o.op = .call { callee := .builtin .append, args := #[x, y], argTypes := #[22, 22] }) (hx : a.eval x = v) (hy : a.eval y = v') {z : Value} (hr : (Builtin.append_ #[22, 22] o.type #[v, v']).run Try.prog w = .ok z w') (h : K (a.put o.dst z) w') : o.wp Try.prog a w K Q := by
  unfold Oper.wp execOp
  simp only [ho, resolve, invoke, builtin, Sem.run_bind, Sem.run_pure, Result.andThen_ok, List.map_toArray, List.map_cons, List.map_nil, hx, hy, hr]
  exact h
end
theorem field_e3 (w : World) (b i : Nat) : (Instr.fieldAt 40 (.pointer (some ⟨b, i, none⟩)) 3).run Try.prog w = .ok (.pointer (some ⟨b, i + 19, none⟩)) w := by go_simp
theorem field_p2 (w : World) (b i : Nat) : (Instr.fieldAt 38 (.pointer (some ⟨b, i, none⟩)) 2).run Try.prog w = .ok (.pointer (some ⟨b, i + 2, none⟩)) w := by go_simp
theorem load_txt {w : World} {ad : Addr} {v : Value} (h : w.cell? ad = some v) : (loadVar 9 ad).run Try.prog w = .ok v w := by
  have h3 : Try.prog.underlying 9 = some .string := by kernel_rfl
  simp [loadVar, isAgg, run_underlying h3, Sem.run_bind, h]
theorem load_evr {w : World} {g : Nat} {e : Ev} (h : LiesE w g e) (hl : e.deps.length = 16) : (loadVar 40 ⟨g, 0, none⟩).run Try.prog w = .ok (.agg (evc e)) w :=
  run_loadVar_row w g 40 40 _ (0, 0) _ h Try.underlying40 rfl (size26 e hl)
theorem ofF_push {E : List Ev} {i : Nat} {u : Ev} (h : E[i]? = some u) (hh : hsE u = true) : ofF (E.take (i + 1)) = fun t => if t = u.field then ofF (E.take i) u.field ++ [u] else ofF (E.take i) t := by
  funext t
  rw [ofF_take h]
  unfold selE
  rw [hh, Bool.true_and]
  by_cases ht : t = u.field
  · subst ht
    simp
  · have : ¬ u.field = t := fun e => ht e.symm
    simp [ht, this]
theorem ofF_pass {E : List Ev} {i : Nat} {u : Ev} (h : E[i]? = some u) (hh : hsE u = false) : ofF (E.take (i + 1)) = ofF (E.take i) := by
  funext t
  rw [ofF_take h]
  unfold selE
  rw [hh]
  simp
set_option maxHeartbeats 4000000 in
theorem fby_any (ao : Option Addr) (m c : Nat) (E : List Ev) (w : World) (hE : Evs w ao m c E) (hm : m ≤ 1000) :
    Calls Try.prog 16 #[.slice ao m c] w fun e w' => e = .returned (.map (some w.heap.size)) ∧ (∃ D f, Grp w' w.heap.size (w.heap.size + 1) m D (fldF E) f (ofF E)) ∧ Below w.heap.size w w' := by
  have hlen := hE.len
  have HE : Aside (Evs w ao m c E) := hE
  have H0 : Aside ((∃ D f, Grp (w.alloc (.map #[] 0)) w.heap.size (w.heap.size + 1) 0 D (fldF (E.take 0)) f (ofF (E.take 0))) ∧ Below w.heap.size w (w.alloc (.map #[] 0)) ∧ w.heap.size + 1 ≤ (w.alloc (.map #[] 0)).heap.size) := ⟨⟨_, _, by rw [show ofF (E.take 0) = fun _ => [] by funext s; simp [ofF], show fldF (E.take 0) = [] by simp [fldF]]; exact grp_new w⟩, (Below.refl _ _).alloc (Nat.le_refl _) _, by simp⟩
  clear hE
  have hmm := @run_makeMap Try.prog
  go_enter Try.func16, Try.ntmps16
  go_wp2
  clear hmm
  go_loopg [9] m (fun kx s9 wr => ∃ i : Nat, s9 = .int .i64 i ∧ i ≤ m ∧ m - i ≤ kx ∧ Aside ((∃ D f, Grp wr w.heap.size (w.heap.size + 1) i D (fldF (E.take i)) f (ofF (E.take i))) ∧ Below w.heap.size w wr ∧ w.heap.size + 1 ≤ wr.heap.size))
  case atStart => exact ⟨0, rfl, Nat.zero_le _, by omega, H0⟩
  case round =>
    clear H0
    obtain ⟨i, rfl, him, hkx, HS⟩ := hrel
    by_cases hlt : i < m
    · have hltz : (i : Int) < (m : Int) := by omega
      obtain ⟨b, off, u, rfl, hui, hu, hr, hbl⟩ := (HE.out.below HS.out.2.1 (Nat.le_refl _)).at hlt
      have hu16 := hu.1
      have hix := fun W : World => index_ev W (b := b) (off := off) (k := i) (m := m) (c := c) hlt
      have hz := liesE_new wr zv
      have hB1 : Below wr.heap.size wr ((wr.alloc (.cells (evc zv) 40)).setRow wr.heap.size (evc u)) := below_setRow ((Below.refl _ _).alloc (Nat.le_refl _) _) (Nat.le_refl _) _
      obtain ⟨D0, f, hG⟩ := HS.out.1
      have HFD : Hid (∀ t k, (f t).ownBlock = some k → k < wr.heap.size) := fun t k hk => ((hG.rows t).lt k hk).2
      have HS1 : Aside (LiesE ((wr.alloc (.cells (evc zv) 40)).setRow wr.heap.size (evc u)) wr.heap.size u ∧ Grp ((wr.alloc (.cells (evc zv) 40)).setRow wr.heap.size (evc u)) w.heap.size (w.heap.size + 1) i D0 (fldF (E.take i)) f (ofF (E.take i)) ∧ Below w.heap.size w ((wr.alloc (.cells (evc zv) 40)).setRow wr.heap.size (evc u))) := ⟨hz.row u, hG.below hB1 (Nat.le_refl _), HS.out.2.1.trans (hB1.mono HS.out.2.1.size)⟩
      have hsz1 : w.heap.size + 1 ≤ ((wr.alloc (.cells (evc zv) 40)).setRow wr.heap.size (evc u)).heap.size := Nat.le_trans HS.out.2.2 hB1.size
      have hDb : w.heap.size < wr.heap.size := HS.out.2.2
      have HSN : Hid (hsE u = true → fldF (E.take (i + 1)) = fldF (E.take i) ++ [u.field] ∧ ofF (E.take (i + 1)) = fun t => if t = u.field then ofF (E.take i) u.field ++ [u] else ofF (E.take i) t) := fun hh => ⟨by rw [fldF_take hui, hh]; rfl, ofF_push hui hh⟩
      have HSP : Hid (hsE u = false → fldF (E.take (i + 1)) = fldF (E.take i) ∧ ofF (E.take (i + 1)) = ofF (E.take i)) := fun hh => ⟨by rw [fldF_take hui, hh]; rfl, ofF_pass hui hh⟩
      have hll : (ofF (E.take i) u.field).length ≤ i := Nat.le_trans (ofF_len _ _) (by rw [List.length_take]; omega)
      clear hB1 HS hui hG
      go_upto_region 5 with (first | refine load_ev_mid rfl rfl rfl hr hu16 ?_ | refine store_ev rfl rfl rfl rfl hz hu16 rfl ?_)
      change Code.wp _ _ _ _ ((wr.alloc (.cells (evc zv) 40)).setRow wr.heap.size (evc u))
      clear hz hr hix hbl
      generalize (wr.alloc (.cells (evc zv) 40)).setRow wr.heap.size (evc u) = W at HS1 hsz1 ⊢
      generalize wr.heap.size = D at *
      have hL := HS1.out.1.op hu16
      go_wp2_with (refine load_op_at rfl rfl rfl hL ?_)
      refine (fisset_any u W).mono ?_
      rintro e w2 ⟨rfl, hb2⟩
      have HS2 : Aside (LiesE w2 D u ∧ Grp w2 w.heap.size (w.heap.size + 1) i D0 (fldF (E.take i)) f (ofF (E.take i)) ∧ Below w.heap.size w w2 ∧ w.heap.size + 1 ≤ w2.heap.size) := ⟨HS1.out.1.below hb2 HS1.out.1.lt, HS1.out.2.1.below hb2 (Nat.le_refl _), HS1.out.2.2.trans (hb2.mono HS1.out.2.2.size), Nat.le_trans hsz1 hb2.size⟩
      clear hb2 HS1 hL hsz1
      generalize ofF (E.take i) = T at *
      generalize fldF (E.take i) = Z at *
      generalize hsE u = t at *
      cases t with
      | true =>
        have HSN2 : Hid (fldF (E.take (i + 1)) = Z ++ [u.field] ∧ ofF (E.take (i + 1)) = fun t => if t = u.field then T u.field ++ [u] else T t) := HSN.out rfl
        clear HSN HSP
        have hE2 : LiesE w2.drew D u := HS2.out.1
        have hG2 : Grp w2.drew w.heap.size (w.heap.size + 1) i D0 Z f T := HS2.out.2.1.below (Below.refl _ _).drew (Nat.le_refl _)
        have hBA : Below w2.drew.heap.size w2.drew (w2.drew.alloc (.cells (evc u) 40)) := (Below.refl _ _).alloc (Nat.le_refl _) _
        have hE3 : LiesE (w2.drew.alloc (.cells (evc u) 40)) D u := hE2.below hBA hE2.lt
        have hlk2 := hG2.look hu.2.f
        have hlk3 := (hG2.below hBA (Nat.le_refl _)).look hu.2.f
        obtain ⟨v, w4, w5, hr4, hr5, hG5, hk4, hk5, hb5⟩ := hG2.push hu.2.f hu (by omega) (by omega) HS2.out.2.2.2 22
        have hDr : some D ≠ (f u.field).ownBlock := fun e => Nat.lt_irrefl _ (HFD.out _ _ e.symm)
        have hE4 : LiesE w4 D u := hE2.kept (hk4 D hE2.lt hDr)
        have hE5 : LiesE w5 D u := hE2.kept (hk5 D hE2.lt hDr (by omega))
        have HS4 : Aside ((∃ D f, Grp w5 w.heap.size (w.heap.size + 1) (i + 1) D (fldF (E.take (i + 1))) f (ofF (E.take (i + 1)))) ∧ Below w.heap.size w w5 ∧ w.heap.size + 1 ≤ w5.heap.size) := ⟨⟨_, _, by rw [HSN2.out.1, HSN2.out.2]; exact hG5⟩, HS2.out.2.2.1.drew.trans hb5, Nat.le_trans HS2.out.2.2.2 hb5.size⟩
        clear HS2 HSN2 hG2 hG5 hk4 hk5 hb5 hBA HFD hll
        go_wp2_with fail
        refine wp_region_noPanic ?_
        refine wp_region_held_drew (S := fun W' : World => LiesE W' D u) (by kernel_rfl) hE2 (fun hHeld => ?_)
        refine wpAnyH_take (i := 0) (oi := { dst := some 16, op := _, type := _, pos := _, after := _, guard := _ }) (v := .map (some w.heap.size)) rfl (by kernel_rfl) (by kernel_rfl) (by kernel_rfl) (fun _ _ _ h => h) (Or.inl ⟨by rfl, ?_⟩) (by assumption) ?_
        · intro w9 hSw
          exact exec_move rfl rfl
        simp only [Act.put, List.setIfInBounds_toArray, List.set_cons_zero, List.set_cons_succ]
        refine wpAnyH_take (i := 1) (oi := { dst := some 17, op := _, type := _, pos := _, after := _, guard := _ }) (v := .pointer (some ⟨D, 0 + 19, none⟩)) rfl (by kernel_rfl) (by kernel_rfl) (by kernel_rfl) (fun _ _ _ h => h) (Or.inl ⟨by rfl, ?_⟩) (by assumption) ?_
        · intro w9 hSw
          exact exec_field rfl rfl (fun w => field_e3 w _ _)
        simp only [Act.put, List.setIfInBounds_toArray, List.set_cons_zero, List.set_cons_succ]
        refine wpAnyH_take (i := 2) (oi := { dst := some 18, op := _, type := _, pos := _, after := _, guard := _ }) (v := .pointer (some ⟨D, 0 + 19 + 2, none⟩)) rfl (by kernel_rfl) (by kernel_rfl) (by kernel_rfl) (fun _ _ _ h => h) (Or.inl ⟨by rfl, ?_⟩) (by assumption) ?_
        · intro w9 hSw
          exact exec_field rfl rfl (fun w => field_p2 w _ _)
        simp only [Act.put, List.setIfInBounds_toArray, List.set_cons_zero, List.set_cons_succ]
        refine wpAnyH_take (i := 3) (oi := { dst := some 19, op := _, type := _, pos := _, after := _, guard := _ }) (v := .string (sb u.field)) rfl (by kernel_rfl) (by kernel_rfl) (by kernel_rfl) (fun _ _ _ h => h) (Or.inl ⟨by rfl, ?_⟩) (by assumption) ?_
        · intro w9 hSw
          exact exec_load (ad := ⟨D, 0 + 19 + 2, none⟩) rfl rfl (load_txt (hSw.c21 hu16))
        simp only [Act.put, List.setIfInBounds_toArray, List.set_cons_zero, List.set_cons_succ]
        refine wpAnyH_take (i := 4) (oi := { dst := some 20, op := _, type := _, pos := _, after := _, guard := _ }) (v := .map (some w.heap.size)) rfl (by kernel_rfl) (by kernel_rfl) (by kernel_rfl) (fun _ _ _ h => h) (Or.inl ⟨by rfl, ?_⟩) (by assumption) ?_
        · intro w9 hSw
          exact exec_move rfl rfl
        simp only [Act.put, List.setIfInBounds_toArray, List.set_cons_zero, List.set_cons_succ]
        refine wpAnyH_take (i := 5) (oi := { dst := some 21, op := _, type := _, pos := _, after := _, guard := _ }) (v := .pointer (some ⟨D, 0 + 19, none⟩)) rfl (by kernel_rfl) (by kernel_rfl) (by kernel_rfl) (fun _ _ _ h => h) (Or.inl ⟨by rfl, ?_⟩) (by assumption) ?_
        · intro w9 hSw
          exact exec_field rfl rfl (fun w => field_e3 w _ _)
        simp only [Act.put, List.setIfInBounds_toArray, List.set_cons_zero, List.set_cons_succ]
        refine wpAnyH_take (i := 6) (oi := { dst := some 22, op := _, type := _, pos := _, after := _, guard := _ }) (v := .pointer (some ⟨D, 0 + 19 + 2, none⟩)) rfl (by kernel_rfl) (by kernel_rfl) (by kernel_rfl) (fun _ _ _ h => h) (Or.inl ⟨by rfl, ?_⟩) (by assumption) ?_
        · intro w9 hSw
          exact exec_field rfl rfl (fun w => field_p2 w _ _)
        simp only [Act.put, List.setIfInBounds_toArray, List.set_cons_zero, List.set_cons_succ]
        refine wpAnyH_take (i := 7) (oi := { dst := some 23, op := _, type := _, pos := _, after := _, guard := _ }) (v := .string (sb u.field)) rfl (by kernel_rfl) (by kernel_rfl) (by kernel_rfl) (fun _ _ _ h => h) (Or.inl ⟨by rfl, ?_⟩) (by assumption) ?_
        · intro w9 hSw
          exact exec_load (ad := ⟨D, 0 + 19 + 2, none⟩) rfl rfl (load_txt (hSw.c21 hu16))
        simp only [Act.put, List.setIfInBounds_toArray, List.set_cons_zero, List.set_cons_succ]
        refine wpAnyH_take (i := 9) (oi := { dst := some 25, op := _, type := _, pos := _, after := _, guard := _ }) (v := .agg (evc u)) rfl (by kernel_rfl) (by kernel_rfl) (by kernel_rfl) (fun _ _ _ h => h) (Or.inl ⟨by rfl, ?_⟩) (by assumption) ?_
        · intro w9 hSw
          exact exec_load (ad := ⟨D, 0, none⟩) rfl rfl (load_evr hSw hu16)
        simp only [Act.put, List.setIfInBounds_toArray, List.set_cons_zero, List.set_cons_succ]
        clear hHeld
        refine wpAnyH_ready (rs := [8, 10]) (by kernel_rfl) (by simp) ?_
        refine AllReadyH.cons (o := { dst := some 24, op := _, type := _, pos := _, after := _, guard := _ }) rfl (fun K hK => ?_) ?_
        · rw [if_pos (by rfl)]
          refine wp_lookup1 rfl rfl rfl hlk2 ?_
          refine hK.out _ _ hE2 (fun hHeld => ?_)
          clear hK K
          simp only [Act.put, List.setIfInBounds_toArray, List.set_cons_zero, List.set_cons_succ]
          refine wpAnyH_ready (rs := [10]) (by kernel_rfl) (by simp) ?_
          refine AllReadyH.cons (o := { dst := some 26, op := _, type := _, pos := _, after := _, guard := _ }) rfl (fun K hK => ?_) AllReadyH.nil
          rw [if_pos (by rfl)]
          refine wp_buildS rfl rfl (run_build1 _ u hu16) ?_
          refine hK.out _ _ hE3 (fun hHeld => ?_)
          clear hK K
          simp only [Act.put, List.setIfInBounds_toArray, List.set_cons_zero, List.set_cons_succ]
          refine wpAnyH_ready (rs := [11]) (by kernel_rfl) (by simp) ?_
          refine AllReadyH.cons (o := { dst := some 27, op := _, type := _, pos := _, after := _, guard := _ }) rfl (fun K hK => ?_) AllReadyH.nil
          rw [if_pos (by rfl)]
          refine wp_app1 rfl rfl rfl hr4 ?_
          refine hK.out _ _ hE4 (fun hHeld => ?_)
          clear hK K
          simp only [Act.put, List.setIfInBounds_toArray, List.set_cons_zero, List.set_cons_succ]
          refine wpAnyH_ready (rs := [12]) (by kernel_rfl) (by simp) ?_
          refine AllReadyH.cons (o := { dst := none, op := _, type := _, pos := _, after := _, guard := _ }) rfl (fun K hK => ?_) AllReadyH.nil
          rw [if_pos (by rfl)]
          refine wp_mapU rfl rfl rfl rfl hr5 ?_
          refine hK.out _ _ hE5 (fun hHeld => ?_)
          clear hK K
          simp only [Act.put]
          refine wpAnyH_done (by kernel_rfl) ?_ _
          refine NoPanic.normal ?_
          clear hHeld
          clear hE2 hE3 hE4 hE5 hlk2 hlk3 hr4 hr5
          go_wp2
          go_roundg (m - (i + 1))
          case measure => omega
          case rel => exact ⟨i + 1, by go_num, by omega, Nat.le_refl _, HS4⟩
        refine AllReadyH.cons (o := { dst := some 26, op := _, type := _, pos := _, after := _, guard := _ }) rfl (fun K hK => ?_) AllReadyH.nil
        rw [if_pos (by rfl)]
        refine wp_buildS rfl rfl (run_build1 _ u hu16) ?_
        refine hK.out _ _ hE3 (fun hHeld => ?_)
        clear hK K
        simp only [Act.put, List.setIfInBounds_toArray, List.set_cons_zero, List.set_cons_succ]
        refine wpAnyH_ready (rs := [8]) (by kernel_rfl) (by simp) ?_
        refine AllReadyH.cons (o := { dst := some 24, op := _, type := _, pos := _, after := _, guard := _ }) rfl (fun K hK => ?_) AllReadyH.nil
        rw [if_pos (by rfl)]
        refine wp_lookup1 rfl rfl rfl hlk3 ?_
        refine hK.out _ _ hE3 (fun hHeld => ?_)
        clear hK K
        simp only [Act.put, List.setIfInBounds_toArray, List.set_cons_zero, List.set_cons_succ]
        refine wpAnyH_ready (rs := [11]) (by kernel_rfl) (by simp) ?_
        refine AllReadyH.cons (o := { dst := some 27, op := _, type := _, pos := _, after := _, guard := _ }) rfl (fun K hK => ?_) AllReadyH.nil
        rw [if_pos (by rfl)]
        refine wp_app1 rfl rfl rfl hr4 ?_
        refine hK.out _ _ hE4 (fun hHeld => ?_)
        clear hK K
        simp only [Act.put, List.setIfInBounds_toArray, List.set_cons_zero, List.set_cons_succ]
        refine wpAnyH_ready (rs := [12]) (by kernel_rfl) (by simp) ?_
        refine AllReadyH.cons (o := { dst := none, op := _, type := _, pos := _, after := _, guard := _ }) rfl (fun K hK => ?_) AllReadyH.nil
        rw [if_pos (by rfl)]
        refine wp_mapU rfl rfl rfl rfl hr5 ?_
        refine hK.out _ _ hE5 (fun hHeld => ?_)
        clear hK K
        simp only [Act.put]
        refine wpAnyH_done (by kernel_rfl) ?_ _
        refine NoPanic.normal ?_
        clear hHeld
        clear hE2 hE3 hE4 hE5 hlk2 hlk3 hr4 hr5
        go_wp2
        go_roundg (m - (i + 1))
        case measure => omega
        case rel => exact ⟨i + 1, by go_num, by omega, Nat.le_refl _, HS4⟩
      | false =>
        have HS4 : Aside ((∃ D f, Grp w2 w.heap.size (w.heap.size + 1) (i + 1) D (fldF (E.take (i + 1))) f (ofF (E.take (i + 1)))) ∧ Below w.heap.size w w2 ∧ w.heap.size + 1 ≤ w2.heap.size) := ⟨⟨_, _, by rw [(HSP.out rfl).1, (HSP.out rfl).2]; exact HS2.out.2.1.mono (Nat.le_succ _)⟩, HS2.out.2.2⟩
        clear HS2 HSN HSP HFD
        go_wp2
        go_roundg (m - (i + 1))
        case measure => omega
        case rel => exact ⟨i + 1, by go_num, by omega, Nat.le_refl _, HS4⟩
    · obtain rfl : m = i := by omega
      have HS1 : Hid ((∃ D f, Grp wr w.heap.size (w.heap.size + 1) m D (fldF E) f (ofF E)) ∧ Below w.heap.size w wr) := by
        have := HS.out
        rw [List.take_of_length_le (by omega)] at this
        exact ⟨this.1, this.2.1⟩
      clear HS
      go_wp2
      go_ret
      exact ⟨rfl, HS1.out.1, HS1.out.2⟩
end Go.Proofs.Ytmbecjmmcekpnaa
