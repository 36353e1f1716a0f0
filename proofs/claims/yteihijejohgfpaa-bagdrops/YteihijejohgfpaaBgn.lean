/-
  A region that draws its order, by hand: what is known of a few slots stands for the frame.
-/
import Derived.Test.YteihijejohgfpaaBla
namespace Go.Proofs.Yteihijejohgfpaa
set_option maxRecDepth 100000
set_option linter.unusedVariables false
open Go.RowKit

def Knows (a : Act) : List (Nat × Value) → Prop
  | [] => True
  | p :: L => a.eval (.tmp p.1) = p.2 ∧ Knows a L
structure Sees (n : Nat) (a : Act) (L : List (Nat × Value)) : Prop where
  defers : a.defers = []
  size : a.tmps.size = n
  all : Knows a L
theorem Knows.get {a : Act} : ∀ {L : List (Nat × Value)} (i : Nat) {t : Nat} {v : Value}, Knows a L → L[i]? = some (t, v) → a.eval (.tmp t) = v
  | [], i, t, v, _, hi => by simp at hi
  | p :: L, 0, t, v, h, hi => by
    have e : p = (t, v) := by simpa using hi
    rw [e] at h
    exact h.1
  | p :: L, i + 1, t, v, h, hi => Knows.get i h.2 (by simpa using hi)
theorem Sees.get {n : Nat} {a : Act} {L : List (Nat × Value)} (h : Sees n a L) (i : Nat) {t : Nat} {v : Value} (hi : L[i]? = some (t, v)) : a.eval (.tmp t) = v := h.all.get i hi
theorem put_other (a : Act) (d t : Nat) (v : Value) (h : t ≠ d) : (a.put (some d) v).eval (.tmp t) = a.eval (.tmp t) := by
  simp only [Act.put, Act.eval]
  rw [Array.getD_eq_getD_getElem?, Array.getD_eq_getD_getElem?, Array.getElem?_setIfInBounds_ne (fun e => h e.symm)]
theorem Knows.put {a : Act} (d : Nat) (v : Value) : ∀ {L : List (Nat × Value)}, Knows a L → (L.all (fun p => p.1 != d)) = true → Knows (a.put (some d) v) L
  | [], _, _ => trivial
  | p :: L, h, hn => by
    rw [List.all_cons, Bool.and_eq_true] at hn
    exact ⟨by rw [put_other a d p.1 v (by simpa using hn.1)]; exact h.1, Knows.put d v h.2 hn.2⟩
theorem Sees.put {n : Nat} {a : Act} {L : List (Nat × Value)} (h : Sees n a L) (d : Nat) (v : Value) (hd : d < n) (hn : (L.all (fun p => p.1 != d)) = true) : Sees n (a.put (some d) v) ((d, v) :: L) :=
  ⟨h.defers, by simp [Act.put, h.size], by
    have := h.size
    simp only [Act.put, Act.eval]
    rw [Array.getD_eq_getD_getElem?, Array.getElem?_setIfInBounds_self_of_lt (by omega)]
    rfl, h.all.put d v hn⟩
/-- What is known stands for the frame. -/
theorem wpAnyH_gen {P : Program} {md : Region.Mode} {ops : Array Oper} {Q : Exit → Act → World → Prop} {S : World → Prop} {fuel : Nat} {listed : Array Bool} {a : Act} {w : World} {n : Nat} {L : List (Nat × Value)} (hL : Sees n a L)
    (h : ∀ A, Sees n A L → wpAnyH P md ops Q S fuel listed A w) : wpAnyH P md ops Q S fuel listed a w := h a hL
section
variable {o : Oper} {a : Act} {w w' : World} {K : Act → World → Prop} {Q : Exit → Act → World → Prop} {x y : Operand} {v : Value}
theorem exec_move (ho : o.op = .move x) (hx : a.eval x = v) : (execOp a.eval o).run Try.prog w = .ok (.value v) w := by
  unfold execOp; simp only [ho, hx]; rfl
theorem exec_assign (ho : o.op = .assign x) (hx : a.eval x = v) : (execOp a.eval o).run Try.prog w = .ok (.value v) w := by
  unfold execOp; simp only [ho, hx]; rfl
theorem wp_callL {f : FuncId} {xs : List Operand} {ts : Array TypeId} {vs : List Value} {R : Ending → World → Prop} (ho : o.op = .call ⟨.value (.func f), xs.toArray, ts⟩) (ha : xs.map a.eval = vs) (hr : (callFunc f vs.toArray).run Try.prog w = .ok (.enter f vs.toArray) w)
    (hc : Calls Try.prog f vs.toArray w R) (h : ∀ e w', R e w' → ∃ u, e = .returned u ∧ K (a.put o.dst u) w') : o.wp Try.prog a w K Q := by
  have ha' : xs.toArray.map a.eval = vs.toArray := by rw [List.map_toArray, ha]
  have h1 : (execOp a.eval o).run Try.prog w = .ok (.enter f vs.toArray) w := by
    unfold execOp
    simp only [ho, resolve, Act.eval, Deferred.ofValue, Sem.run_bind, Sem.run_pure, Result.andThen_ok, invoke, Array.append_empty, Array.empty_append]
    rw [show xs.toArray.map (fun x => a.eval x) = vs.toArray from ha']
    exact hr
  unfold Oper.wp
  rw [h1, Oper.upon_enter]
  refine hc.mono (fun e w' hR => ?_)
  obtain ⟨u, rfl, hk⟩ := h e w' hR
  exact hk
variable {ty : TypeId} {ad : Addr}
theorem exec_load (ho : o.op = .load ty x) (hx : a.eval x = .pointer (some ad)) (hr : (loadVar ty ad).run Try.prog w = .ok v w) : (execOp a.eval o).run Try.prog w = .ok (.value v) w := by
  unfold execOp
  simp only [ho, hx, Instr.loadAt, Instr.sureAddr, Sem.run_bind, Sem.run_pure, Result.andThen_ok, hr]
end
theorem exec_add {o : Oper} {a : Act} {w : World} {x y : Operand} {m n : Int} (ho : o.op = .binOp .add 3 x y 3) (hx : a.eval x = .int .i64 m) (hy : a.eval y = .int .i64 n) (h0 : 0 ≤ m) (h1 : 0 ≤ n) (h2 : m + n < 9223372036854775808) : (execOp a.eval o).run Try.prog w = .ok (.value (.int .i64 (m + n))) w := by
  have hw : IntKind.i64.wrap (m + n) = m + n := by simp [IntKind.wrap, IntKind.signed, IntKind.bits]; omega
  unfold execOp
  simp only [ho, hx, hy]
  simp [go_sem, hw]
theorem load_lies {w : World} {g : Nat} {l : List Int} (h : Lies w g l) (hl : l.length = 16) : (loadVar 36 ⟨g, 0, none⟩).run Try.prog w = .ok (.agg (vals l)) w :=
  run_loadVar_row w g 36 36 _ (0, 0) _ h Try.underlying36 rfl (size16 l hl)
section
variable {o : Oper} {a : Act} {w : World} {x y z : Operand} {m n : Int}
theorem exec_lss {b : Bool} (ho : o.op = .binOp .lss 3 x y 3) (hx : a.eval x = .int .i64 m) (hy : a.eval y = .int .i64 n) (hb : decide (m < n) = b) : (execOp a.eval o).run Try.prog w = .ok (.value (.bool b)) w := by
  subst hb
  unfold execOp
  simp only [ho, hx, hy]
  simp [go_sem]
theorem exec_gtr {b : Bool} (ho : o.op = .binOp .gtr 3 x y 3) (hx : a.eval x = .int .i64 m) (hy : a.eval y = .int .i64 n) (hb : decide (n < m) = b) : (execOp a.eval o).run Try.prog w = .ok (.value (.bool b)) w := by
  subst hb
  unfold execOp
  simp only [ho, hx, hy]
  simp [go_sem]
theorem exec_neq {b : Bool} (ho : o.op = .binOp .neq 3 x y 3) (hx : a.eval x = .int .i64 m) (hy : a.eval y = .int .i64 n) (hb : (m != n) = b) : (execOp a.eval o).run Try.prog w = .ok (.value (.bool b)) w := by
  subst hb
  have h3 : Try.prog.underlying 3 = some (.int .i64) := by kernel_rfl
  unfold execOp
  simp only [ho, hx, hy]
  go_simp
theorem exec_sub {k : Int} (ho : o.op = .binOp .sub 3 x y 3) (hx : a.eval x = .int .i64 m) (hy : a.eval y = .int .i64 n) (h2 : IntKind.i64.wrap (m - n) = k) : (execOp a.eval o).run Try.prog w = .ok (.value (.int .i64 k)) w := by
  unfold execOp
  simp only [ho, hx, hy]
  simp [go_sem, h2]
theorem exec_not {b : Bool} (ho : o.op = .unOp .not 4 x) (hx : a.eval x = .bool b) : (execOp a.eval o).run Try.prog w = .ok (.value (.bool (!b))) w := by
  unfold execOp
  simp only [ho, hx]
  simp [go_sem]
theorem exec_pick {b : Bool} {v v' : Value} (ho : o.op = .pick x y z) (hx : a.eval x = .bool b) (hy : a.eval y = v) (hz : a.eval z = v') : (execOp a.eval o).run Try.prog w = .ok (.value (if b then v else v')) w := by
  unfold execOp
  simp only [ho, hx, hy, hz]
  cases b <;> rfl
theorem exec_index {t : TypeId} {v vx vy : Value} (ho : o.op = .indexAddr t x y) (hx : a.eval x = vx) (hy : a.eval y = vy) (hv : (Instr.indexAt t vx vy).run Try.prog w = .ok v w) : (execOp a.eval o).run Try.prog w = .ok (.value v) w := by
  unfold execOp; simp only [ho, hx, hy, Sem.run_bind, hv, Result.andThen_ok, Sem.run_pure]
theorem exec_field {t : TypeId} {k off : Nat} {b i : Nat} (ho : o.op = .fieldAddr t x k) (hx : a.eval x = .pointer (some ⟨b, i, none⟩)) (hv : ∀ w, (Instr.fieldAt t (.pointer (some ⟨b, i, none⟩)) k).run Try.prog w = .ok (.pointer (some ⟨b, i + off, none⟩)) w) : (execOp a.eval o).run Try.prog w = .ok (.value (.pointer (some ⟨b, i + off, none⟩))) w := by
  unfold execOp; simp only [ho, hx, Sem.run_bind, hv, Result.andThen_ok, Sem.run_pure]
end
theorem load_i {w : World} {ad : Addr} {v : Value} (h : w.cell? ad = some v) : (loadVar 3 ad).run Try.prog w = .ok v w := by
  have h3 : Try.prog.underlying 3 = some (.int .i64) := by kernel_rfl
  go_simp
theorem load_d {w : World} {b i : Nat} {r n : Int} (h0 : w.cell? ⟨b, i, none⟩ = some (.int .i64 r)) (h1 : w.cell? ⟨b, i + 1, none⟩ = some (.int .i64 n)) : (loadVar 34 ⟨b, i, none⟩).run Try.prog w = .ok (.agg #[.int .i64 r, .int .i64 n]) w := by
  go_simp
theorem index_r (w : World) {b off k m c : Nat} (hk : k < m) : (Instr.indexAt 27 (.slice (some ⟨b, off, none⟩) m c) (.int .i64 (k : Int))).run Try.prog w = .ok (.pointer (some ⟨b, off + k * 3, none⟩)) w := by
  have hk' : (k : Int) < (m : Int) := by omega
  go_simp
theorem index_t (w : World) {b k m c : Nat} (hk : k < m) : (Instr.indexAt 48 (.slice (some ⟨b, 0, none⟩) m c) (.int .i64 (k : Int))).run Try.prog w = .ok (.pointer (some ⟨b, k * 3, none⟩)) w := by
  have hk' : (k : Int) < (m : Int) := by omega
  go_simp
theorem field_r1 (w : World) (b i : Nat) : (Instr.fieldAt 64 (.pointer (some ⟨b, i, none⟩)) 1).run Try.prog w = .ok (.pointer (some ⟨b, i + 2, none⟩)) w := by go_simp
theorem field_r0 (w : World) (b i : Nat) : (Instr.fieldAt 64 (.pointer (some ⟨b, i, none⟩)) 0).run Try.prog w = .ok (.pointer (some ⟨b, i + 0, none⟩)) w := by go_simp
theorem field_t1 (w : World) (b i : Nat) : (Instr.fieldAt 60 (.pointer (some ⟨b, i, none⟩)) 1).run Try.prog w = .ok (.pointer (some ⟨b, i + 2, none⟩)) w := by go_simp
theorem field_t0 (w : World) (b i : Nat) : (Instr.fieldAt 60 (.pointer (some ⟨b, i, none⟩)) 0).run Try.prog w = .ok (.pointer (some ⟨b, i + 0, none⟩)) w := by go_simp
theorem enters_before (xs : Array Value) (w : World) : (callFunc 29 xs).run Try.prog w = .ok (.enter 29 xs) w := enters Try.func29 (by kernel_rfl) (by kernel_rfl) xs w
theorem enters_drop (xs : Array Value) (w : World) : (callFunc 26 xs).run Try.prog w = .ok (.enter 26 xs) w := enters Try.func26 (by kernel_rfl) (by kernel_rfl) xs w
end Go.Proofs.Yteihijejohgfpaa
