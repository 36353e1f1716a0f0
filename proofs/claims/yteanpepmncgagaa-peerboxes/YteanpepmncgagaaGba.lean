/-
  Laws of earlier layers that name no function of theirs: single operations, events read and laid, a row's own block, dots compared.
-/
import Derived.Test.YteanpepmncgagaaOnl
import Derived.Test.YteanpepmncgagaaRop
import Derived.Test.YteanpepmncgagaaUse
import Derived.Test.YteanpepmncgagaaRig
import Derived.Test.YteanpepmncgagaaHas
import Derived.Test.YteanpepmncgagaaDot
import Derived.Test.YteanpepmncgagaaLev
import Derived.Deep.CutRange
namespace Go.Proofs.Yteanpepmncgagaa
set_option maxRecDepth 100000
set_option maxRecDepth 100000
open Go.RowKit
deriving instance DecidableEq for Ev

section
variable {o : Oper} {a : Act} {w w' : World} {K : Act → World → Prop} {Q : Exit → Act → World → Prop} {x y z : Operand} {v : Value} {m n : Int}
theorem exec_move (ho : o.op = .move x) (hx : a.eval x = v) : (execOp a.eval o).run Try.prog w = .ok (.value v) w := by
  unfold execOp; simp only [ho, hx]; rfl
theorem exec_assign (ho : o.op = .assign x) (hx : a.eval x = v) : (execOp a.eval o).run Try.prog w = .ok (.value v) w := by
  unfold execOp; simp only [ho, hx]; rfl
theorem wp_callL {f : FuncId} {xs : List Operand} {ts : Array TypeId} {vs : List Value} {R : Ending → World → Prop} (ho : o.op = .call ⟨.value (.func f), xs.toArray, ts⟩) (ha : xs.map a.eval = vs) (hr : (callFunc f vs.toArray).run Try.prog w = .ok (.enter f vs.toArray) w)
    (hc : Calls Try.prog f vs.toArray w R) (h : ∀ e w', R e w' → ∃ u, e = .returned u ∧ K (a.put o.dst u) w') : o.wp Try.prog a w K Q := by
  have ha' : xs.toArray.map a.eval = vs.toArray := by rw [List.map_toArray, ha]
  have h1 : (execOp a.eval o).run Try.prog w = .ok (.enter f vs.toArray) w := by
    unfold execOp
    simp only [ho, resolve, Act.eval, Deferred.ofValue, Sem.run_bind, Sem.run_pure, Result.andThen_ok, invoke, Array.append_empty, Array.empty_append]
    rw [show xs.toArray.map (fun x => a.eval x) = vs.toArray from ha']
    exact hr
  unfold Oper.wp
  rw [h1, Oper.upon_enter]
  refine hc.mono (fun e w' hR => ?_)
  obtain ⟨u, rfl, hk⟩ := h e w' hR
  exact hk
theorem exec_load {ty : TypeId} {ad : Addr} (ho : o.op = .load ty x) (hx : a.eval x = .pointer (some ad)) (hr : (loadVar ty ad).run Try.prog w = .ok v w) : (execOp a.eval o).run Try.prog w = .ok (.value v) w := by
  unfold execOp
  simp only [ho, hx, Instr.loadAt, Instr.sureAddr, Sem.run_bind, Sem.run_pure, Result.andThen_ok, hr]
theorem exec_index {t : TypeId} {v vx vy : Value} (ho : o.op = .indexAddr t x y) (hx : a.eval x = vx) (hy : a.eval y = vy) (hv : (Instr.indexAt t vx vy).run Try.prog w = .ok v w) : (execOp a.eval o).run Try.prog w = .ok (.value v) w := by
  unfold execOp; simp only [ho, hx, hy, Sem.run_bind, hv, Result.andThen_ok, Sem.run_pure]
theorem exec_field {t : TypeId} {k off : Nat} {b i : Nat} (ho : o.op = .fieldAddr t x k) (hx : a.eval x = .pointer (some ⟨b, i, none⟩)) (hv : ∀ w, (Instr.fieldAt t (.pointer (some ⟨b, i, none⟩)) k).run Try.prog w = .ok (.pointer (some ⟨b, i + off, none⟩)) w) : (execOp a.eval o).run Try.prog w = .ok (.value (.pointer (some ⟨b, i + off, none⟩))) w := by
  unfold execOp; simp only [ho, hx, Sem.run_bind, hv, Result.andThen_ok, Sem.run_pure]
end
theorem take_snoc {E : List Ev} {i : Nat} {u : Ev} (h : E[i]? = some u) : E.take (i + 1) = E.take i ++ [u] := by
  rw [List.take_add_one, h]; rfl
theorem Row.own {w : World} {base : Nat} {v : Value} {E : List Ev} (h : Row w base v E) : ∀ k, v.ownBlock = some k → base ≤ k := by
  intro k hk
  rcases h.2 with ⟨rfl, -⟩ | ⟨g, cap, cur, rfl, hbg, -⟩
  · cases hk
  · simp only [Value.ownBlock, Option.some.injEq] at hk
    omega
theorem build_ev1 {ops : Array Oper} {rest : List Oper} {o : Oper} {a : Act} {w : World} {Q : Exit → Act → World → Prop} {x : Operand} {u : Ev} (hw : Region.wanted o (yielded ops a.tmps) = true) (ho : o.op = .buildSlice 27 1 #[(0, x)]) (hx : a.eval x = .agg (evc u)) (hu : u.deps.length = 16)
    (h : wpList Try.prog ops Q rest (a.put o.dst (.slice (some ⟨w.heap.size, 0, none⟩) 1 1)) (w.alloc (.cells (evc u) 39))) : wpList Try.prog ops Q (o :: rest) a w :=
  wpList_step fun K hK => by
    rw [if_pos hw]
    have hr := run_build1 w u hu
    unfold Oper.wp execOp
    simp only [ho, List.map_toArray, List.map_cons, List.map_nil, hx, Sem.run_bind, Sem.run_pure, Result.andThen_ok, hr]
    exact hK _ _ h
theorem exec_pick {o : Oper} {a : Act} {w : World} {x y z : Operand} {b : Bool} {v v' : Value} (ho : o.op = .pick x y z) (hx : a.eval x = .bool b) (hy : a.eval y = v) (hz : a.eval z = v') : (execOp a.eval o).run Try.prog w = .ok (.value (if b then v else v')) w := by
  unfold execOp
  simp only [ho, hx, hy, hz]
  cases b <;> rfl
theorem exec_bin {o : Oper} {a : Act} {w : World} {x y : Operand} {op : BinOp} {t r : TypeId} {vx vy v : Value} (ho : o.op = .binOp op t x y r) (hx : a.eval x = vx) (hy : a.eval y = vy) (hg : (eqGuard op t x y vx vy).run Try.prog w = .ok () w) (hv : (binOp op t vx vy).run Try.prog w = .ok v w) : (execOp a.eval o).run Try.prog w = .ok (.value v) w := by
  unfold execOp; simp only [ho, hx, hy, Sem.run_bind, hg, hv, Result.andThen_ok, Sem.run_pure]
theorem range_below {w W : World} {b k : Nat} {l : List Value} (h : w.rangeAt b k l) (hb : Below w.heap.size w W) (hl : b < w.heap.size) : W.rangeAt b k l := fun j v hv => by
  rw [hb.cell (p := ⟨b, k + j, none⟩) hl]; exact h j v hv
theorem eqGuard_ev (w : World) {op : BinOp} {x y : Operand} (e f : Ev) : (eqGuard op 39 x y (.agg (evc e)) (.agg (evc f))).run Try.prog w = .ok () w := by
  have := plain_ev
  go_simp
theorem same_dec (e f : Ev) : sameE e f = decide (e = f) := by
  rw [Bool.eq_iff_iff, sameE_iff]; simp
theorem eql_evd (w : World) {e f : Ev} (he : e.deps.length = 16) (hf : f.deps.length = 16) : (binOp .eql 39 (.agg (evc e)) (.agg (evc f))).run Try.prog w = .ok (.bool (decide (e = f))) w := by
  rw [run_eql_ev w e f he hf, same_dec]
theorem range_at {w : World} {b k : Nat} {e : Ev} (h : w.rangeAt b k (evl e)) (hl : e.deps.length = 16) (j : Nat) : w.cell? ⟨b, k + (19 + j), none⟩ = (opl e)[j]? ∨ (opl e)[j]? = none := by
  cases hj : (opl e)[j]? with
  | none => exact .inr rfl
  | some v => exact .inl (h (19 + j) v (by rw [evl_hi hl]; exact hj))
theorem range_kind {w : World} {b k : Nat} {e : Ev} (h : w.rangeAt b k (evl e)) (hl : e.deps.length = 16) : w.cell? ⟨b, k + 19, none⟩ = some (.int .i64 e.kind) := (range_at h hl 0).resolve_right (by simp [opl])
theorem range_key {w : World} {b k : Nat} {e : Ev} (h : w.rangeAt b k (evl e)) (hl : e.deps.length = 16) : w.cell? ⟨b, k + 20, none⟩ = some (.string (sb e.key)) := (range_at h hl 1).resolve_right (by simp [opl])
theorem range_field {w : World} {b k : Nat} {e : Ev} (h : w.rangeAt b k (evl e)) (hl : e.deps.length = 16) : w.cell? ⟨b, k + 21, none⟩ = some (.string (sb e.field)) := (range_at h hl 2).resolve_right (by simp [opl])
theorem sb_beq (a b : List UInt8) : ((sb a).toList == (sb b).toList) = decide (a = b) := by
  rw [ByteArray.toList_eq, ByteArray.toList_eq, data_sb, data_sb, Bool.eq_iff_iff]
  simp
theorem field_e0 (w : World) (b i : Nat) : (Instr.fieldAt 39 (.pointer (some ⟨b, i, none⟩)) 0).run Try.prog w = .ok (.pointer (some ⟨b, i + 0, none⟩)) w := by go_simp
theorem load_dt {w : World} {b k : Nat} {e : Ev} (h : w.rangeAt b k (evl e)) : (loadVar 33 ⟨b, k + 0, none⟩).run Try.prog w = .ok (.agg (dotc e.r e.n)) w :=
  run_loadVar_mid (P := Try.prog) w b k 33 (dotc e.r e.n).toList _ (fun j v hv => by
    match j, hv with
    | 0, hv => exact h 0 v hv
    | 1, hv => exact h 1 v hv) Try.underlying33 rfl (sizeD e.r e.n)
theorem plain_dt : Try.prog.eqGuardType Try.prog.depth 33 = false := by kernel_rfl
theorem eqGuard_dt (w : World) {op : BinOp} {x y : Operand} (r n r' n' : Int) : (eqGuard op 33 x y (.agg (dotc r n)) (.agg (dotc r' n'))).run Try.prog w = .ok () w := run_eqGuard_agg w _ _ _ _ _ _ plain_dt
theorem eql_dt (w : World) {r n r' n' : Int} {t : Bool} (h : decide (r = r' ∧ n = n') = t) : (binOp .eql 33 (.agg (dotc r n)) (.agg (dotc r' n'))).run Try.prog w = .ok (.bool t) w := by
  rw [run_eql_struct, run_equalIn_dot w 9998, Result.andThen_ok, h]
theorem LiesE.c20 {w : World} {g : Nat} {e : Ev} (h : LiesE w g e) (hl : e.deps.length = 16) : w.cell? ⟨g, 20, none⟩ = some (.string (sb e.key)) := h.co hl 1
theorem LiesE.c21 {w : World} {g : Nat} {e : Ev} (h : LiesE w g e) (hl : e.deps.length = 16) : w.cell? ⟨g, 21, none⟩ = some (.string (sb e.field)) := h.co hl 2
theorem ret_ev2 {fn : Func} {R : Ending → World → Prop} {a : Act} {w : World} {p u : Tmp} {g : Nat} {e : Ev} {v : Value} (h : fn.results = #[.cell p 39, .tmp u]) (hp : a.tmps.getD p undef = .pointer (some ⟨g, 0, none⟩))
    (hu : a.tmps.getD u undef = v) (hd : a.defers = []) (hg : LiesE w g e) (hl : e.deps.length = 16) (hR : R (.returned (.tuple #[.agg (evc e), v])) w) : bodyPost Try.prog fn R .ret a w := by
  refine bodyPost_ret ?_ hd hR
  rw [results_cell_tmp h, hp, hu]
  simp only [asAddr, Sem.run_pure, Result.andThen_ok, run_loadVar_row w g 39 39 _ (0, 0) _ hg Try.underlying39 rfl (size26 e hl)]
theorem LiesE.c22 {w : World} {g : Nat} {e : Ev} (h : LiesE w g e) (hl : e.deps.length = 16) : w.cell? ⟨g, 22, none⟩ = some (.string (sb e.value)) := h.co hl 3
theorem range_value {w : World} {b k : Nat} {e : Ev} (h : w.rangeAt b k (evl e)) (hl : e.deps.length = 16) : w.cell? ⟨b, k + 22, none⟩ = some (.string (sb e.value)) := (range_at h hl 3).resolve_right (by simp [opl])
theorem range_time {w : World} {b k : Nat} {e : Ev} (h : w.rangeAt b k (evl e)) : w.cell? ⟨b, k + 2, none⟩ = some (.int .i64 e.t) := h 2 _ rfl
end Go.Proofs.Yteanpepmncgagaa
