/-
  Laws for single operations: a vector or a dot is read, two are compared.
-/
import Derived.Test.YteanpepmncgagaaZer
import Derived.Test.YteanpepmncgagaaReg
import Derived.BigQuiet
namespace Go.Proofs.Yteanpepmncgagaa
set_option maxRecDepth 100000
open Go.RowKit

theorem load_run {w : World} {g : Nat} {l : List Int} (h : Lies w g l) (hl : l.length = 16) : (loadVar 35 ⟨g, 0, none⟩).run Try.prog w = .ok (.agg (vals l)) w :=
  run_loadVar_row w g 35 35 _ (0, 0) _ h Try.underlying35 rfl (size16 l hl)
theorem load_dot_run {w : World} {g : Nat} {r n : Int} (h : LiesD w g r n) : (loadVar 33 ⟨g, 0, none⟩).run Try.prog w = .ok (.agg (dotc r n)) w :=
  run_loadVar_row w g 33 33 _ (0, 0) _ h Try.underlying33 rfl (sizeD r n)
theorem run_eql_same (w : World) {a b : List Int} (h : a = b) (la : a.length = 16) (lb : b.length = 16) : (binOp .eql 35 (.agg (vals a)) (.agg (vals b))).run Try.prog w = .ok (.bool true) w := by
  rw [run_eql_vec w a b la lb, decide_eq_true h]
theorem run_neq_same (w : World) {a b : List Int} (h : a = b) (la : a.length = 16) (lb : b.length = 16) : (binOp .neq 35 (.agg (vals a)) (.agg (vals b))).run Try.prog w = .ok (.bool false) w := by
  rw [run_neq_vec w a b la lb, decide_eq_true h]; rfl
theorem run_eql_not (w : World) {a b : List Int} (h : a ≠ b) (la : a.length = 16) (lb : b.length = 16) : (binOp .eql 35 (.agg (vals a)) (.agg (vals b))).run Try.prog w = .ok (.bool false) w := by
  rw [run_eql_vec w a b la lb, decide_eq_false h]
theorem run_eql_dot_same (w : World) {r n r' n' : Int} (h : r = r' ∧ n = n') : (binOp .eql 33 (.agg (dotc r n)) (.agg (dotc r' n'))).run Try.prog w = .ok (.bool true) w := by
  rw [run_eql_dot, decide_eq_true h]
theorem eqGuard_bool (w : World) {op : BinOp} {x y : Operand} {a b : Bool} : (eqGuard op 4 x y (.bool a) (.bool b)).run Try.prog w = .ok () w := by
  cases op <;> simp [eqGuard]
theorem eqGuard_int (w : World) {op : BinOp} {x y : Operand} {a b : Int} : (eqGuard op 3 x y (.int .i64 a) (.int .i64 b)).run Try.prog w = .ok () w := by
  cases op <;> simp [eqGuard]
theorem eql_bool (w : World) {a b : Bool} : (binOp .eql 4 (.bool a) (.bool b)).run Try.prog w = .ok (.bool (a == b)) w := Go.run_eql_bool w 4 a b (by kernel_rfl)
theorem eql_bool_same (w : World) {a : Bool} : (binOp .eql 4 (.bool a) (.bool a)).run Try.prog w = .ok (.bool true) w := by rw [eql_bool]; simp
theorem neq_bool (w : World) {a b : Bool} : (binOp .neq 4 (.bool a) (.bool b)).run Try.prog w = .ok (.bool (!(a == b))) w := Go.run_neq_bool w 4 a b (by kernel_rfl)
theorem run_eql_int (w : World) (a b : Int) : (binOp .eql 3 (.int .i64 a) (.int .i64 b)).run Try.prog w = .ok (.bool (a == b)) w := by
  simp [binOp, Op.intCmp]
theorem run_eql_int_same (w : World) {a b : Int} (h : a = b) : (binOp .eql 3 (.int .i64 a) (.int .i64 b)).run Try.prog w = .ok (.bool true) w := by
  rw [run_eql_int]; simp [h]
theorem run_eql_int_not (w : World) {a b : Int} (h : a ≠ b) : (binOp .eql 3 (.int .i64 a) (.int .i64 b)).run Try.prog w = .ok (.bool false) w := by
  rw [run_eql_int]; simp [h]

theorem load_int_run {w : World} {ad : Addr} {v : Value} (h : w.cell? ad = some v) : (loadVar 3 ad).run Try.prog w = .ok v w := by
  have h3 : Try.prog.underlying 3 = some (.int .i64) := by kernel_rfl
  simp [loadVar, isAgg, run_underlying h3, Sem.run_bind, h]
theorem field0_run (w : World) (g : Nat) : (Instr.fieldAt 33 (.pointer (some ⟨g, 0, none⟩)) 0).run Try.prog w = .ok (.pointer (some ⟨g, 0, none⟩)) w := by kernel_rfl
theorem field1_run (w : World) (g : Nat) : (Instr.fieldAt 33 (.pointer (some ⟨g, 0, none⟩)) 1).run Try.prog w = .ok (.pointer (some ⟨g, 1, none⟩)) w := by kernel_rfl
theorem leq_run (w : World) (a b : Int) : (binOp .leq 3 (.int .i64 a) (.int .i64 b)).run Try.prog w = .ok (.bool (decide (a ≤ b))) w := by rw [binOp_leq]; rfl
theorem gtr_run (w : World) (a b : Int) : (binOp .gtr 3 (.int .i64 a) (.int .i64 b)).run Try.prog w = .ok (.bool (decide (b < a))) w := by rw [binOp_gtr]; rfl
theorem neq_run (w : World) (a b : Int) : (binOp .neq 3 (.int .i64 a) (.int .i64 b)).run Try.prog w = .ok (.bool (a != b)) w := by rw [binOp_neq]; rfl
theorem enters_rright (xs : Array Value) (w : World) : (callFunc 37 xs).run Try.prog w = .ok (.enter 37 xs) w := enters Try.func37 (by kernel_rfl) (by kernel_rfl) xs w
theorem enters_has (xs : Array Value) (w : World) : (callFunc 32 xs).run Try.prog w = .ok (.enter 32 xs) w := enters Try.func32 (by kernel_rfl) (by kernel_rfl) xs w
theorem enters_rhas (xs : Array Value) (w : World) : (callFunc 22 xs).run Try.prog w = .ok (.enter 22 xs) w := enters Try.func22 (by kernel_rfl) (by kernel_rfl) xs w
theorem enters_isreplica (xs : Array Value) (w : World) : (callFunc 46 xs).run Try.prog w = .ok (.enter 46 xs) w := enters Try.func46 (by kernel_rfl) (by kernel_rfl) xs w
theorem enters_rightdot (xs : Array Value) (w : World) : (callFunc 40 xs).run Try.prog w = .ok (.enter 40 xs) w := enters Try.func40 (by kernel_rfl) (by kernel_rfl) xs w
theorem enters_rdot (xs : Array Value) (w : World) : (callFunc 36 xs).run Try.prog w = .ok (.enter 36 xs) w := enters Try.func36 (by kernel_rfl) (by kernel_rfl) xs w

/-- A whole vector, a dot is read by a guarded operation whose guard holds. -/
theorem load_vec_w {ops : Array Oper} {rest : List Oper} {o : Oper} {a : Act} {w : World} {Q : Exit → Act → World → Prop} {x : Operand} {g : Nat} {l : List Int} (hw : Region.wanted o (yielded ops a.tmps) = true) (ho : o.op = .load 35 x)
    (hx : a.eval x = .pointer (some ⟨g, 0, none⟩)) (hg : Lies w g l) (hl : l.length = 16)
    (h : wpList Try.prog ops Q rest (a.put o.dst (.agg (vals l))) w) : wpList Try.prog ops Q (o :: rest) a w :=
  wpList_step fun K hK => by
    rw [if_pos hw]
    exact wp_load_row 35 x ho g hx 35 _ (0, 0) _ hg Try.underlying35 rfl (size16 l hl) (hK _ _ h)
theorem load_dot_w {ops : Array Oper} {rest : List Oper} {o : Oper} {a : Act} {w : World} {Q : Exit → Act → World → Prop} {x : Operand} {g : Nat} {r n : Int} (hw : Region.wanted o (yielded ops a.tmps) = true) (ho : o.op = .load 33 x)
    (hx : a.eval x = .pointer (some ⟨g, 0, none⟩)) (hg : LiesD w g r n)
    (h : wpList Try.prog ops Q rest (a.put o.dst (.agg (dotc r n))) w) : wpList Try.prog ops Q (o :: rest) a w :=
  wpList_step fun K hK => by
    rw [if_pos hw]
    exact wp_load_row 33 x ho g hx 33 _ (0, 0) _ hg Try.underlying33 rfl (sizeD r n) (hK _ _ h)

theorem Below.drewN {B : Nat} {a w : World} (h : Below B a w) (n : Nat) : Below B a (w.drewN n) := ⟨h.os, h.tape, h.output, h.size, h.block⟩
theorem Lies.drewN {w : World} {g : Nat} {l : List Int} (h : Lies w g l) (n : Nat) : Lies (w.drewN n) g l := h
theorem LiesD.drewN {w : World} {g : Nat} {r m : Int} (h : LiesD w g r m) (n : Nat) : LiesD (w.drewN n) g r m := h

theorem boxed3 (w : World) (a b c : List Int) :
    Lies (((w.alloc (.cells (vals a) 35)).alloc (.cells (vals b) 35)).alloc (.cells (vals c) 35)) w.heap.size a ∧
    Lies (((w.alloc (.cells (vals a) 35)).alloc (.cells (vals b) 35)).alloc (.cells (vals c) 35)) (w.heap.size + 1) b ∧
    Lies (((w.alloc (.cells (vals a) 35)).alloc (.cells (vals b) 35)).alloc (.cells (vals c) 35)) (w.heap.size + 1 + 1) c ∧
    Below w.heap.size w (((w.alloc (.cells (vals a) 35)).alloc (.cells (vals b) 35)).alloc (.cells (vals c) 35)) := by
  refine ⟨((lies_new w a).alloc _).alloc _, ?_, ?_, (((Below.refl _ _).alloc (Nat.le_refl _) _).alloc (by simp) _).alloc (by simp; omega) _⟩
  · have := (lies_new (w.alloc (.cells (vals a) 35)) b).alloc (.cells (vals c) 35)
    simpa using this
  · have := lies_new ((w.alloc (.cells (vals a) 35)).alloc (.cells (vals b) 35)) c
    simpa using this
theorem boxed2 (w : World) (a b : List Int) :
    Lies ((w.alloc (.cells (vals a) 35)).alloc (.cells (vals b) 35)) w.heap.size a ∧
    Lies ((w.alloc (.cells (vals a) 35)).alloc (.cells (vals b) 35)) (w.heap.size + 1) b ∧
    Below w.heap.size w ((w.alloc (.cells (vals a) 35)).alloc (.cells (vals b) 35)) := by
  refine ⟨(lies_new w a).alloc _, ?_, ((Below.refl _ _).alloc (Nat.le_refl _) _).alloc (by simp) _⟩
  have := lies_new (w.alloc (.cells (vals a) 35)) b
  simpa using this
end Go.Proofs.Yteanpepmncgagaa
