/-
  What tally.By comes to.
-/
import Derived.Test.YtojaphoonaoppaaTsm
import Derived.Test.YtojaphoonaoppaaTva
namespace Go.Proofs.Ytojaphoonaoppaa
set_option maxRecDepth 100000
open Go.RowKit

section
variable {o : Oper} {a : Act} {w w' : World} {K : Act → World → Prop} {Q : Exit → Act → World → Prop} {x y : Operand} {ty : TypeId} {ad : Addr} {v v' : Value}
theorem wp_load1 (ho : o.op = .load ty x) (hx : a.eval x = .pointer (some ad)) (hr : (loadVar ty ad).run Try.prog w = .ok v w) (h : K (a.put o.dst v) w) : o.wp Try.prog a w K Q := by
  unfold Oper.wp execOp
  simp only [ho, hx, Instr.loadAt, Instr.sureAddr, Sem.run_bind, Sem.run_pure, Result.andThen_ok, hr]
  exact h
theorem wp_store1 (ho : o.op = .store ty x y) (hx : a.eval x = .pointer (some ad)) (hy : a.eval y = v) (hr : (storeVar ty ad v).run Try.prog w = .ok () w') (h : K (a.put o.dst undef) w') : o.wp Try.prog a w K Q := by
  unfold Oper.wp execOp
  simp only [ho, hx, hy, Instr.storeAt, Instr.sureAddr, Sem.run_bind, Sem.run_pure, Result.andThen_ok, hr]
  exact h
theorem store_cell_int {g i : Nat} {n : Int} (h : w.cell? ⟨g, i, none⟩ = some v) (hf : w.frozen? ⟨g, i, none⟩ = false) : (storeVar 3 ⟨g, i, none⟩ (.int .i64 n)).run Try.prog w = .ok () (w.setCell ⟨g, i, none⟩ (.int .i64 n)) := by
  have hs : (Try.prog.info? 3).map (·.size) = some 1 := by kernel_rfl
  cases hi : Try.prog.info? 3 with
  | none => rw [hi] at hs; cases hs
  | some i0 =>
    have h1 : i0.size = 1 := by rw [hi] at hs; simpa using hs
    have hst : (store ((⟨g, i, none⟩ : Addr).add 0) (.int .i64 n)).run Try.prog w = .ok () (w.setCell ⟨g, i, none⟩ (.int .i64 n)) := by
      rw [Addr.add_lit, Nat.add_zero, run_store _ _ _ _ _ (by rfl)]
      simp [h, hf]
    simp [storeVar, sizeOf, typeInfo, hi, h1, Value.cells, storeCells, hst]
end
theorem exec_addz {o : Oper} {a : Act} {w : World} {x y : Operand} {m n : Int} (ho : o.op = .binOp .add 3 x y 3) (hx : a.eval x = .int .i64 m) (hy : a.eval y = .int .i64 n) (h1 : -9223372036854775808 ≤ m + n) (h2 : m + n ≤ 9223372036854775807) : (execOp a.eval o).run Try.prog w = .ok (.value (.int .i64 (m + n))) w := by
  have hw : IntKind.i64.wrap (m + n) = m + n := by simp [IntKind.wrap, IntKind.signed, IntKind.bits]; omega
  unfold execOp
  simp only [ho, hx, hy]
  simp [go_sem, hw]
theorem enters_tadds (xs : Array Value) (w : World) : (callFunc 15 xs).run Try.prog w = .ok (.enter 15 xs) w := enters Try.func15 (by kernel_rfl) (by kernel_rfl) xs w
theorem field_d0 (w : World) (b i : Nat) : (Instr.fieldAt 32 (.pointer (some ⟨b, i, none⟩)) 0).run Try.prog w = .ok (.pointer (some ⟨b, i + 0, none⟩)) w := by go_simp
theorem field_e3 (w : World) (b i : Nat) : (Instr.fieldAt 37 (.pointer (some ⟨b, i, none⟩)) 3).run Try.prog w = .ok (.pointer (some ⟨b, i + 19, none⟩)) w := by go_simp
theorem load_opr {w : World} {g : Nat} {e : Ev} (h : LiesE w g e) (hl : e.deps.length = 16) : (loadVar 35 ⟨g, 19, none⟩).run Try.prog w = .ok (.agg (opc e)) w :=
  run_loadVar_mid (P := Try.prog) w g 19 35 (opc e).toList _ (h.op hl) Try.underlying35 rfl (size7 e)
theorem LiesE.cellSet {w : World} {g : Nat} {ad : Addr} {e : Ev} (h : LiesE w g e) (v : Value) (hg : g ≠ ad.block) : LiesE (w.setCell ad v) g e := by
  rw [LiesE, heap_setCell_other w ad g v hg]; exact h
theorem two_arr (w : World) : LiesA ((w.alloc (.cells (vals zeros) 24)).alloc (.cells (vals zeros) 24)) w.heap.size zeros ∧ LiesA ((w.alloc (.cells (vals zeros) 24)).alloc (.cells (vals zeros) 24)) (w.heap.size + 1) zeros ∧ Below w.heap.size w ((w.alloc (.cells (vals zeros) 24)).alloc (.cells (vals zeros) 24)) :=
  ⟨(liesA_new w zeros).alloc _, by simpa using liesA_new (w.alloc (.cells (vals zeros) 24)) zeros, ((Below.refl _ _).alloc (Nat.le_refl _) _).alloc (by simp) _⟩
set_option maxHeartbeats 4000000 in
theorem tby_any (ao : Option Addr) (m c : Nat) (E : List Ev) (w : World) (hE : Evs w ao m c E) (hm : m ≤ 5000) :
    Calls Try.prog 8 #[.slice ao m c] w fun e w' => e = .returned (.agg (vals (byE E))) ∧ Below w.heap.size w w' := by
  have hlen := hE.len
  have HE : Aside (Evs w ao m c E) := hE
  have H0 : Aside (LiesA ((w.alloc (.cells (vals zeros) 24)).alloc (.cells (vals zeros) 24)) w.heap.size zeros ∧ LiesA ((w.alloc (.cells (vals zeros) 24)).alloc (.cells (vals zeros) 24)) (w.heap.size + 1) (byE (E.take 0)) ∧ Below w.heap.size w ((w.alloc (.cells (vals zeros) 24)).alloc (.cells (vals zeros) 24))) := by
    rw [List.take_zero, byE_nil]
    exact two_arr w
  clear hE
  go_enter Try.func8, Try.ntmps8
  go_wp2
  go_loopg [8] m (fun kx s8 wr => ∃ i : Nat, s8 = .int .i64 i ∧ i ≤ m ∧ m - i ≤ kx ∧ Aside (LiesA wr w.heap.size zeros ∧ LiesA wr (w.heap.size + 1) (byE (E.take i)) ∧ Below w.heap.size w wr))
  case atStart => exact ⟨0, rfl, Nat.zero_le _, by omega, H0⟩
  case round =>
    clear H0
    obtain ⟨i, rfl, him, hkx, HS⟩ := hrel
    by_cases hlt : i < m
    · have hltz : (i : Int) < (m : Int) := by omega
      obtain ⟨b, off, u, rfl, hui, hu, hr, hbl⟩ := (HE.out.below HS.out.2.2 (Nat.le_refl _)).at hlt
      have hu16 := hu.1
      have hix := fun W : World => index_ev W (b := b) (off := off) (k := i) (m := m) (c := c) hlt
      have hz := liesE_new wr zv
      have hB1 : Below wr.heap.size wr ((wr.alloc (.cells (evc zv) 37)).setRow wr.heap.size (evc u)) := below_setRow ((Below.refl _ _).alloc (Nat.le_refl _) _) (Nat.le_refl _) _
      have hD : w.heap.size + 1 < wr.heap.size := HS.out.2.1.lt
      have HS1 : Aside (LiesE ((wr.alloc (.cells (evc zv) 37)).setRow wr.heap.size (evc u)) wr.heap.size u ∧ LiesA ((wr.alloc (.cells (evc zv) 37)).setRow wr.heap.size (evc u)) w.heap.size zeros ∧ LiesA ((wr.alloc (.cells (evc zv) 37)).setRow wr.heap.size (evc u)) (w.heap.size + 1) (byE (E.take i)) ∧ Below w.heap.size w ((wr.alloc (.cells (evc zv) 37)).setRow wr.heap.size (evc u))) :=
        ⟨hz.row u, HS.out.1.below hB1 HS.out.1.lt, HS.out.2.1.below hB1 HS.out.2.1.lt, HS.out.2.2.trans (hB1.mono HS.out.2.2.size)⟩
      clear hB1 HS
      go_upto_region 5 with (first | refine load_ev_mid rfl rfl rfl hr hu16 ?_ | refine store_ev rfl rfl rfl rfl hz hu16 rfl ?_)
      change Code.wp _ _ _ _ ((wr.alloc (.cells (evc zv) 37)).setRow wr.heap.size (evc u))
      clear hz hr hix hbl
      generalize (wr.alloc (.cells (evc zv) 37)).setRow wr.heap.size (evc u) = W at HS1 ⊢
      generalize wr.heap.size = D at *
      have c0 := HS1.out.1.c0
      go_wp2_with fail
      refine (tisrep_any u.r W).mono ?_
      rintro e w2 ⟨rfl, hw2⟩
      subst hw2
      clear c0
      by_cases hq : 0 ≤ u.r ∧ u.r < 16
      · rw [decide_eq_true hq]
        obtain ⟨k, hk⟩ : ∃ k : Nat, u.r = (k : Int) := ⟨u.r.toNat, by omega⟩
        have hk16 : k < 16 := by omega
        have HK : Hid (u.r = (k : Int)) := hk
        have hx1 := ofE_bound (k : Int) (E.take i)
        have hsl : (E.take i).length ≤ 5000 := by rw [List.length_take]; omega
        have hx2 : -5497558138880000 ≤ ofE (k : Int) (E.take i) := by omega
        have hx3 : ofE (k : Int) (E.take i) ≤ 5497558138880000 := by omega
        have ho1 := oneE_lo u
        have ho2 := oneE_hi u
        have HSN : Hid ((byE (E.take i)).set k (ofE (k : Int) (E.take i) + oneE u) = byE (E.take (i + 1))) := byE_step hui hk
        have HGD : Hid ((byE (E.take i)).getD k 0 = ofE (k : Int) (E.take i)) := byE_getD _ hk16
        have hBl := byE_length (E.take i)
        have hcr : Hid (∀ W' : World, LiesE W' D u → W'.cell? ⟨D, 0, none⟩ = some (.int .i64 (k : Int))) := show ∀ W' : World, LiesE W' D u → W'.cell? ⟨D, 0, none⟩ = some (.int .i64 (k : Int)) from fun W' h => by rw [← hk]; exact h.c0
        have hca : Hid (∀ W' : World, LiesA W' (w.heap.size + 1) (byE (E.take i)) → W'.cell? ⟨w.heap.size + 1, k, none⟩ = some (.int .i64 (ofE (k : Int) (E.take i)))) := show ∀ W' : World, LiesA W' (w.heap.size + 1) (byE (E.take i)) → W'.cell? ⟨w.heap.size + 1, k, none⟩ = some (.int .i64 (ofE (k : Int) (E.take i))) from fun W' h => by rw [← HGD.out]; exact h.cell (by omega)
        clear hx1 hsl hk hq HGD
        generalize ofE (k : Int) (E.take i) = x at *
        generalize byE (E.take i) = B at *
        have HS1d : Aside (LiesE w2.drew D u ∧ LiesA w2.drew w.heap.size zeros ∧ LiesA w2.drew (w.heap.size + 1) B ∧ Below w.heap.size w w2.drew) := ⟨HS1.out.1, HS1.out.2.1, HS1.out.2.2.1, HS1.out.2.2.2.drew⟩
        clear HS1
        go_wp2_with fail
        refine wp_region_noPanic ?_
        refine wp_region_held_drew (S := fun W' : World => LiesE W' D u) (by kernel_rfl) HS1d.out.1 (fun hHeld => ?_)
        refine wpAnyH_take (i := 0) (oi := { dst := some 16, op := _, type := _, pos := _, after := _, guard := _ }) (v := .pointer (some ⟨D, 0 + 0, none⟩)) rfl (by kernel_rfl) (by kernel_rfl) (by kernel_rfl) (fun _ _ _ h => h) (Or.inl ⟨by rfl, ?_⟩) (by assumption) ?_
        · intro w9 hSw
          exact exec_field rfl rfl (fun w => field_e0 w _ _)
        simp only [Act.put, List.setIfInBounds_toArray, List.set_cons_zero, List.set_cons_succ]
        refine wpAnyH_take (i := 1) (oi := { dst := some 17, op := _, type := _, pos := _, after := _, guard := _ }) (v := .pointer (some ⟨D, 0 + 0 + 0, none⟩)) rfl (by kernel_rfl) (by kernel_rfl) (by kernel_rfl) (fun _ _ _ h => h) (Or.inl ⟨by rfl, ?_⟩) (by assumption) ?_
        · intro w9 hSw
          exact exec_field rfl rfl (fun w => field_d0 w _ _)
        simp only [Act.put, List.setIfInBounds_toArray, List.set_cons_zero, List.set_cons_succ]
        refine wpAnyH_take (i := 2) (oi := { dst := some 18, op := _, type := _, pos := _, after := _, guard := _ }) (v := .int .i64 (k : Int)) rfl (by kernel_rfl) (by kernel_rfl) (by kernel_rfl) (fun _ _ _ h => h) (Or.inl ⟨by rfl, ?_⟩) (by assumption) ?_
        · intro w9 hSw
          exact exec_load (ad := ⟨D, 0 + 0 + 0, none⟩) rfl rfl (load_int_run (hcr.out w9 hSw))
        simp only [Act.put, List.setIfInBounds_toArray, List.set_cons_zero, List.set_cons_succ]
        refine wpAnyH_take (i := 3) (oi := { dst := some 19, op := _, type := _, pos := _, after := _, guard := _ }) (v := .pointer (some ⟨(w.heap.size + 1), k, none⟩)) rfl (by kernel_rfl) (by kernel_rfl) (by kernel_rfl) (fun _ _ _ h => h) (Or.inl ⟨by rfl, ?_⟩) (by assumption) ?_
        · intro w9 hSw
          exact exec_index rfl rfl rfl (run_indexAt_arr w9 _ k hk16)
        simp only [Act.put, List.setIfInBounds_toArray, List.set_cons_zero, List.set_cons_succ]
        refine wpAnyH_take (i := 5) (oi := { dst := some 21, op := _, type := _, pos := _, after := _, guard := _ }) (v := .pointer (some ⟨D, 0 + 19, none⟩)) rfl (by kernel_rfl) (by kernel_rfl) (by kernel_rfl) (fun _ _ _ h => h) (Or.inl ⟨by rfl, ?_⟩) (by assumption) ?_
        · intro w9 hSw
          exact exec_field rfl rfl (fun w => field_e3 w _ _)
        simp only [Act.put, List.setIfInBounds_toArray, List.set_cons_zero, List.set_cons_succ]
        refine wpAnyH_take (i := 6) (oi := { dst := some 22, op := _, type := _, pos := _, after := _, guard := _ }) (v := .agg (opc u)) rfl (by kernel_rfl) (by kernel_rfl) (by kernel_rfl) (fun _ _ _ h => h) (Or.inl ⟨by rfl, ?_⟩) (by assumption) ?_
        · intro w9 hSw
          exact exec_load (ad := ⟨D, 0 + 19, none⟩) rfl rfl (load_opr hSw hu16)
        simp only [Act.put, List.setIfInBounds_toArray, List.set_cons_zero, List.set_cons_succ]
        clear hHeld
        refine wpAnyH_ready (rs := [4, 7]) (by kernel_rfl) (by simp) ?_
        refine AllReadyH.cons (o := { dst := some 20, op := _, type := _, pos := _, after := _, guard := _ }) rfl (fun K hK => ?_) ?_
        · rw [if_pos (by rfl)]
          refine wp_load1 (ad := ⟨w.heap.size + 1, k, none⟩) rfl rfl (load_int_run (hca.out _ HS1d.out.2.2.1)) ?_
          refine hK.out _ _ HS1d.out.1 (fun hHeld => ?_)
          clear hK K
          simp only [Act.put, List.setIfInBounds_toArray, List.set_cons_zero, List.set_cons_succ]
          refine wpAnyH_ready (rs := [7]) (by kernel_rfl) (by simp) ?_
          refine AllReadyH.cons (o := { dst := some 23, op := _, type := _, pos := _, after := _, guard := _ }) rfl (fun K hK => ?_) AllReadyH.nil
          rw [if_pos (by rfl)]
          refine wp_callL (xs := [.tmp 22]) (vs := [.agg (opc u)]) rfl rfl (enters_tadds _ _) (adds_any u _) ?_
          rintro e w5 ⟨rfl, hb5⟩
          refine ⟨_, rfl, ?_⟩
          have hE5 : LiesE w5 D u := HS1d.out.1.below hb5 HS1d.out.1.lt
          have hA5 : LiesA w5 (w.heap.size + 1) B := HS1d.out.2.2.1.below hb5 HS1d.out.2.2.1.lt
          have hZ5 : LiesA w5 w.heap.size zeros := HS1d.out.2.1.below hb5 HS1d.out.2.1.lt
          have hB5 : Below w.heap.size w w5 := HS1d.out.2.2.2.trans (hb5.mono HS1d.out.2.2.2.size)
          refine hK.out _ _ hE5 (fun hHeld => ?_)
          clear hK K
          simp only [Act.put, List.setIfInBounds_toArray, List.set_cons_zero, List.set_cons_succ]
          refine wpAnyH_take (i := 8) (oi := { dst := some 24, op := _, type := _, pos := _, after := _, guard := _ }) (v := .int .i64 (x + oneE u)) rfl (by kernel_rfl) (by kernel_rfl) (by kernel_rfl) (fun _ _ _ h => h) (Or.inl ⟨by rfl, ?_⟩) (by assumption) ?_
          · intro w9 hSw
            exact exec_addz rfl rfl rfl (by omega) (by omega)
          simp only [Act.put, List.setIfInBounds_toArray, List.set_cons_zero, List.set_cons_succ]
          refine wpAnyH_take (i := 9) (oi := { dst := some 25, op := _, type := _, pos := _, after := _, guard := _ }) (v := .pointer (some ⟨(w.heap.size + 1), k, none⟩)) rfl (by kernel_rfl) (by kernel_rfl) (by kernel_rfl) (fun _ _ _ h => h) (Or.inl ⟨by rfl, ?_⟩) (by assumption) ?_
          · intro w9 hSw
            exact exec_index rfl rfl rfl (run_indexAt_arr w9 _ k hk16)
          simp only [Act.put, List.setIfInBounds_toArray, List.set_cons_zero, List.set_cons_succ]
          refine wpAnyH_ready (rs := [10]) (by kernel_rfl) (by simp) ?_
          refine AllReadyH.cons (o := { dst := none, op := _, type := _, pos := _, after := _, guard := _ }) rfl (fun K hK => ?_) AllReadyH.nil
          rw [if_pos (by rfl)]
          refine wp_store1 (ad := ⟨w.heap.size + 1, k, none⟩) rfl rfl rfl (store_cell_int (hca.out w5 hA5) hA5.frozen) ?_
          have HS2 : Aside (LiesA (w5.setCell ⟨w.heap.size + 1, k, none⟩ (.int .i64 (x + oneE u))) w.heap.size zeros ∧ LiesA (w5.setCell ⟨w.heap.size + 1, k, none⟩ (.int .i64 (x + oneE u))) (w.heap.size + 1) (byE (E.take (i + 1))) ∧ Below w.heap.size w (w5.setCell ⟨w.heap.size + 1, k, none⟩ (.int .i64 (x + oneE u)))) := ⟨hZ5.other _ (by simp), by rw [← HSN.out]; exact hA5.set _, hB5.setCell (by simp) _⟩
          refine hK.out _ _ (hE5.cellSet _ (Nat.ne_of_gt hD)) (fun hHeld => ?_)
          clear hK K
          simp only [Act.put]
          refine wpAnyH_done (by kernel_rfl) ?_ _
          refine NoPanic.normal ?_
          clear hHeld
          clear HS1d hE5 hA5 hZ5 hB5 hb5 HSN hcr hca
          generalize w5.setCell ⟨w.heap.size + 1, k, none⟩ (.int .i64 (x + oneE u)) = w6 at *
          go_wp2
          go_roundg (m - (i + 1))
          case measure => omega
          case rel => exact ⟨i + 1, by go_num, by omega, Nat.le_refl _, HS2⟩
        refine AllReadyH.cons (o := { dst := some 23, op := _, type := _, pos := _, after := _, guard := _ }) rfl (fun K hK => ?_) AllReadyH.nil
        rw [if_pos (by rfl)]
        refine wp_callL (xs := [.tmp 22]) (vs := [.agg (opc u)]) rfl rfl (enters_tadds _ _) (adds_any u _) ?_
        rintro e w5 ⟨rfl, hb5⟩
        refine ⟨_, rfl, ?_⟩
        have hE5 : LiesE w5 D u := HS1d.out.1.below hb5 HS1d.out.1.lt
        have hA5 : LiesA w5 (w.heap.size + 1) B := HS1d.out.2.2.1.below hb5 HS1d.out.2.2.1.lt
        have hZ5 : LiesA w5 w.heap.size zeros := HS1d.out.2.1.below hb5 HS1d.out.2.1.lt
        have hB5 : Below w.heap.size w w5 := HS1d.out.2.2.2.trans (hb5.mono HS1d.out.2.2.2.size)
        refine hK.out _ _ hE5 (fun hHeld => ?_)
        clear hK K
        simp only [Act.put, List.setIfInBounds_toArray, List.set_cons_zero, List.set_cons_succ]
        refine wpAnyH_ready (rs := [4]) (by kernel_rfl) (by simp) ?_
        refine AllReadyH.cons (o := { dst := some 20, op := _, type := _, pos := _, after := _, guard := _ }) rfl (fun K hK => ?_) AllReadyH.nil
        rw [if_pos (by rfl)]
        refine wp_load1 (ad := ⟨w.heap.size + 1, k, none⟩) rfl rfl (load_int_run (hca.out _ hA5)) ?_
        refine hK.out _ _ hE5 (fun hHeld => ?_)
        clear hK K
        simp only [Act.put, List.setIfInBounds_toArray, List.set_cons_zero, List.set_cons_succ]
        refine wpAnyH_take (i := 8) (oi := { dst := some 24, op := _, type := _, pos := _, after := _, guard := _ }) (v := .int .i64 (x + oneE u)) rfl (by kernel_rfl) (by kernel_rfl) (by kernel_rfl) (fun _ _ _ h => h) (Or.inl ⟨by rfl, ?_⟩) (by assumption) ?_
        · intro w9 hSw
          exact exec_addz rfl rfl rfl (by omega) (by omega)
        simp only [Act.put, List.setIfInBounds_toArray, List.set_cons_zero, List.set_cons_succ]
        refine wpAnyH_take (i := 9) (oi := { dst := some 25, op := _, type := _, pos := _, after := _, guard := _ }) (v := .pointer (some ⟨(w.heap.size + 1), k, none⟩)) rfl (by kernel_rfl) (by kernel_rfl) (by kernel_rfl) (fun _ _ _ h => h) (Or.inl ⟨by rfl, ?_⟩) (by assumption) ?_
        · intro w9 hSw
          exact exec_index rfl rfl rfl (run_indexAt_arr w9 _ k hk16)
        simp only [Act.put, List.setIfInBounds_toArray, List.set_cons_zero, List.set_cons_succ]
        refine wpAnyH_ready (rs := [10]) (by kernel_rfl) (by simp) ?_
        refine AllReadyH.cons (o := { dst := none, op := _, type := _, pos := _, after := _, guard := _ }) rfl (fun K hK => ?_) AllReadyH.nil
        rw [if_pos (by rfl)]
        refine wp_store1 (ad := ⟨w.heap.size + 1, k, none⟩) rfl rfl rfl (store_cell_int (hca.out w5 hA5) hA5.frozen) ?_
        have HS2 : Aside (LiesA (w5.setCell ⟨w.heap.size + 1, k, none⟩ (.int .i64 (x + oneE u))) w.heap.size zeros ∧ LiesA (w5.setCell ⟨w.heap.size + 1, k, none⟩ (.int .i64 (x + oneE u))) (w.heap.size + 1) (byE (E.take (i + 1))) ∧ Below w.heap.size w (w5.setCell ⟨w.heap.size + 1, k, none⟩ (.int .i64 (x + oneE u)))) := ⟨hZ5.other _ (by simp), by rw [← HSN.out]; exact hA5.set _, hB5.setCell (by simp) _⟩
        refine hK.out _ _ (hE5.cellSet _ (Nat.ne_of_gt hD)) (fun hHeld => ?_)
        clear hK K
        simp only [Act.put]
        refine wpAnyH_done (by kernel_rfl) ?_ _
        refine NoPanic.normal ?_
        clear hHeld
        clear HS1d hE5 hA5 hZ5 hB5 hb5 HSN hcr hca
        generalize w5.setCell ⟨w.heap.size + 1, k, none⟩ (.int .i64 (x + oneE u)) = w6 at *
        go_wp2
        go_roundg (m - (i + 1))
        case measure => omega
        case rel => exact ⟨i + 1, by go_num, by omega, Nat.le_refl _, HS2⟩
      · rw [decide_eq_false hq]
        have HS2 : Aside (LiesA w2 w.heap.size zeros ∧ LiesA w2 (w.heap.size + 1) (byE (E.take (i + 1))) ∧ Below w.heap.size w w2) := by
          rw [byE_skip hui hq]
          exact ⟨HS1.out.2.1, HS1.out.2.2.1, HS1.out.2.2.2⟩
        clear HS1
        go_wp2
        go_roundg (m - (i + 1))
        case measure => omega
        case rel => exact ⟨i + 1, by go_num, by omega, Nat.le_refl _, HS2⟩
    · obtain rfl : i = m := by omega
      have eT : E.take i = E := List.take_of_length_le (by omega)
      rw [eT] at HS
      clear eT
      have hz := HS.out.1
      have hL := HS.out.2.1
      have hBl := byE_length E
      have HB : Hid (Below w.heap.size w wr) := HS.out.2.2
      clear HS
      go_wp2_with (first | refine load_arr rfl rfl rfl hL hBl ?_ | refine store_arr rfl rfl rfl rfl hz hBl rfl ?_)
      exact ret_arr rfl rfl rfl (hz.row (byE E)) hBl ⟨rfl, below_setRow HB.out (Nat.le_refl _) _⟩
end Go.Proofs.Ytojaphoonaoppaa
