/-
  Laws for single operations of regions that draw their order.
-/
import Derived.Test.YtagjgamigldjnaaGf
namespace Go.Proofs.Ytagjgamigldjnaa
set_option maxRecDepth 100000
open Go.RowKit
open Go.ChangeMaps (setBlock)

section
variable {o : Oper} {a : Act} {w w' : World} {K : Act → World → Prop} {Q : Exit → Act → World → Prop} {x y z : Operand} {v : Value} {m n : Int}
theorem exec_move (ho : o.op = .move x) (hx : a.eval x = v) : (execOp a.eval o).run Try.prog w = .ok (.value v) w := by
  unfold execOp; simp only [ho, hx]; rfl
theorem exec_assign (ho : o.op = .assign x) (hx : a.eval x = v) : (execOp a.eval o).run Try.prog w = .ok (.value v) w := by
  unfold execOp; simp only [ho, hx]; rfl
theorem wp_callL {f : FuncId} {xs : List Operand} {ts : Array TypeId} {vs : List Value} {R : Ending → World → Prop} (ho : o.op = .call ⟨.value (.func f), xs.toArray, ts⟩) (ha : xs.map a.eval = vs) (hr : (callFunc f vs.toArray).run Try.prog w = .ok (.enter f vs.toArray) w)
    (hc : Calls Try.prog f vs.toArray w R) (h : ∀ e w', R e w' → ∃ u, e = .returned u ∧ K (a.put o.dst u) w') : o.wp Try.prog a w K Q := by
  have ha' : xs.toArray.map a.eval = vs.toArray := by rw [List.map_toArray, ha]
  have h1 : (execOp a.eval o).run Try.prog w = .ok (.enter f vs.toArray) w := by
    unfold execOp
    simp only [ho, resolve, Act.eval, Deferred.ofValue, Sem.run_bind, Sem.run_pure, Result.andThen_ok, invoke, Array.append_empty, Array.empty_append]
    rw [show xs.toArray.map (fun x => a.eval x) = vs.toArray from ha']
    exact hr
  unfold Oper.wp
  rw [h1, Oper.upon_enter]
  refine hc.mono (fun e w' hR => ?_)
  obtain ⟨u, rfl, hk⟩ := h e w' hR
  exact hk
theorem exec_load {ty : TypeId} {ad : Addr} (ho : o.op = .load ty x) (hx : a.eval x = .pointer (some ad)) (hr : (loadVar ty ad).run Try.prog w = .ok v w) : (execOp a.eval o).run Try.prog w = .ok (.value v) w := by
  unfold execOp
  simp only [ho, hx, Instr.loadAt, Instr.sureAddr, Sem.run_bind, Sem.run_pure, Result.andThen_ok, hr]
theorem wp_look {t : TypeId} {b : Bool} {p q : Value} (ho : o.op = .lookup t x y b) (hx : a.eval x = p) (hy : a.eval y = q) (hr : (Instr.lookup t p q b).run Try.prog w = .ok v w) (h : K (a.put o.dst v) w) : o.wp Try.prog a w K Q := by
  unfold Oper.wp execOp
  simp only [ho, hx, hy, Sem.run_bind, Sem.run_pure, Result.andThen_ok, hr]
  exact h
theorem wp_mapu {t : TypeId} {p q r : Value} (ho : o.op = .mapUpdate t x y z) (hx : a.eval x = p) (hy : a.eval y = q) (hz : a.eval z = r) (hr : (Instr.mapUpdate t p q r).run Try.prog w = .ok () w') (h : K (a.put o.dst undef) w') : o.wp Try.prog a w K Q := by
  unfold Oper.wp execOp
  simp only [ho, hx, hy, hz, Sem.run_bind, Sem.run_pure, Result.andThen_ok, hr]
  exact h
theorem exec_index {t : TypeId} {v vx vy : Value} (ho : o.op = .indexAddr t x y) (hx : a.eval x = vx) (hy : a.eval y = vy) (hv : (Instr.indexAt t vx vy).run Try.prog w = .ok v w) : (execOp a.eval o).run Try.prog w = .ok (.value v) w := by
  unfold execOp; simp only [ho, hx, hy, Sem.run_bind, hv, Result.andThen_ok, Sem.run_pure]
theorem exec_field {t : TypeId} {k off : Nat} {b i : Nat} (ho : o.op = .fieldAddr t x k) (hx : a.eval x = .pointer (some ⟨b, i, none⟩)) (hv : ∀ w, (Instr.fieldAt t (.pointer (some ⟨b, i, none⟩)) k).run Try.prog w = .ok (.pointer (some ⟨b, i + off, none⟩)) w) : (execOp a.eval o).run Try.prog w = .ok (.value (.pointer (some ⟨b, i + off, none⟩))) w := by
  unfold execOp; simp only [ho, hx, Sem.run_bind, hv, Result.andThen_ok, Sem.run_pure]
end
section
variable {P : Program} {o : Oper} {E : Act} {w : World}
theorem yields_lookup {t : TypeId} {b : Bool} {x y : Operand} (ho : o.op = .lookup t x y b) {vx vy v : Value} (hx : E.eval x = vx) (hy : E.eval y = vy) (hv : (Instr.lookup t vx vy b).run P w = .ok v w) : Yields P v w ((execOp E.eval o).run P w) := by
  unfold execOp; simp only [ho, hx, hy, Sem.run_bind, hv, Result.andThen_ok, Sem.run_pure]; exact ⟨rfl, Below.refl _ _⟩
end
theorem load_amr {w : World} {g : Nat} {x : Aim} (h : LiesM w g x) : (loadVar 78 ⟨g, 0, none⟩).run Try.prog w = .ok (.agg (amc x)) w :=
  run_loadVar_row w g 78 78 _ (0, 0) _ h Try.underlying78 rfl (sizeM x)
theorem load_dp {w : World} {g : Nat} {e : Ev} (h : LiesE w g e) (hl : e.deps.length = 16) : (loadVar 37 ⟨g, 0 + 3, none⟩).run Try.prog w = .ok (.agg (vals e.deps)) w :=
  run_loadVar_mid (P := Try.prog) w g 3 37 _ _ (h.deps hl) Try.underlying37 rfl (size16 _ hl)
theorem load_str_run {w : World} {ad : Addr} {v : Value} (h : w.cell? ad = some v) : (loadVar 9 ad).run Try.prog w = .ok v w := by
  have h3 : Try.prog.underlying 9 = some .string := by kernel_rfl
  go_simp
theorem field_e2 (w : World) (b i : Nat) : (Instr.fieldAt 41 (.pointer (some ⟨b, i, none⟩)) 2).run Try.prog w = .ok (.pointer (some ⟨b, i + 3, none⟩)) w := by go_simp
theorem field_e3 (w : World) (g : Nat) : (Instr.fieldAt 41 (.pointer (some ⟨g, 0, none⟩)) 3).run Try.prog w = .ok (.pointer (some ⟨g, 19, none⟩)) w := by kernel_rfl
theorem field_p1 (w : World) (b i : Nat) : (Instr.fieldAt 39 (.pointer (some ⟨b, i, none⟩)) 1).run Try.prog w = .ok (.pointer (some ⟨b, i + 1, none⟩)) w := by go_simp
theorem enters_greatest (xs : Array Value) (w : World) : (callFunc 50 xs).run Try.prog w = .ok (.enter 50 xs) w := enters Try.func50 (by kernel_rfl) (by kernel_rfl) xs w
theorem enters_wholekey (xs : Array Value) (w : World) : (callFunc 52 xs).run Try.prog w = .ok (.enter 52 xs) w := enters Try.func52 (by kernel_rfl) (by kernel_rfl) xs w
theorem enters_aimat (xs : Array Value) (w : World) : (callFunc 53 xs).run Try.prog w = .ok (.enter 53 xs) w := enters Try.func53 (by kernel_rfl) (by kernel_rfl) xs w
theorem enters_lcovers (xs : Array Value) (w : World) : (callFunc 51 xs).run Try.prog w = .ok (.enter 51 xs) w := enters Try.func51 (by kernel_rfl) (by kernel_rfl) xs w
theorem LiesM.block {w : World} {g b : Nat} {x : Aim} (h : LiesM w g x) (o : Obj) (hb : b ≠ g) : LiesM (setBlock w b o) g x := by
  rw [LiesM] at *
  simp [setBlock, hb, h]
theorem LiesE.block {w : World} {g b : Nat} {e : Ev} (h : LiesE w g e) (o : Obj) (hb : b ≠ g) : LiesE (setBlock w b o) g e := by
  rw [LiesE] at *
  simp [setBlock, hb, h]
end Go.Proofs.Ytagjgamigldjnaa
