/-
  What rightOp comes to.
-/
import Derived.Test.YteanpepmncgagaaOpe
import Derived.Test.YteanpepmncgagaaOnl
import Derived.Test.YteanpepmncgagaaEqe
import Derived.Test.YteanpepmncgagaaHas
namespace Go.Proofs.Yteanpepmncgagaa
set_option maxRecDepth 100000
open Go.RowKit

theorem calls_below {f : FuncId} {as' : Array Value} {W : World} {b : Bool} (h : Calls Try.prog f as' W fun e w' => e = .returned (.bool b) ∧ w' = W) : Calls Try.prog f as' W fun e w' => e = .returned (.bool b) ∧ Below W.heap.size W w' :=
  h.mono fun _ _ ⟨h1, h2⟩ => ⟨h1, by rw [h2]; exact Below.refl _ _⟩
theorem fieldO0_run (w : World) (g : Nat) : (Instr.fieldAt 37 (.pointer (some ⟨g, 0, none⟩)) 0).run Try.prog w = .ok (.pointer (some ⟨g, 0, none⟩)) w := by kernel_rfl
theorem fieldO1_run (w : World) (g : Nat) : (Instr.fieldAt 37 (.pointer (some ⟨g, 0, none⟩)) 1).run Try.prog w = .ok (.pointer (some ⟨g, 1, none⟩)) w := by kernel_rfl
theorem fieldO4_run (w : World) (g : Nat) : (Instr.fieldAt 37 (.pointer (some ⟨g, 0, none⟩)) 4).run Try.prog w = .ok (.pointer (some ⟨g, 4, none⟩)) w := by kernel_rfl
theorem load_str_run {w : World} {ad : Addr} {v : Value} (h : w.cell? ad = some v) : (loadVar 9 ad).run Try.prog w = .ok v w := by
  have h3 : Try.prog.underlying 9 = some .string := by kernel_rfl
  simp [loadVar, isAgg, run_underlying h3, Sem.run_bind, h]
theorem load_op_run {w : World} {g : Nat} {e : Ev} (h : LiesO w g e) : (loadVar 37 ⟨g, 0, none⟩).run Try.prog w = .ok (.agg (opc e)) w :=
  run_loadVar_row w g 37 37 _ (0, 0) _ h Try.underlying37 rfl (size7 e)
/-- The same, its cells a letter. -/
def Is (O : Array Value) (e : Ev) : Prop := O = opc e
theorem is_any (e : Ev) : ∃ O, Is O e := ⟨_, rfl⟩
theorem load_op_is {w : World} {g : Nat} {e : Ev} {O : Array Value} (h : LiesO w g e) (i : Is O e) : (loadVar 37 ⟨g, 0, none⟩).run Try.prog w = .ok (.agg O) w := by
  rw [i]; exact load_op_run h
theorem run_eql_is (w : World) {e f : Ev} {O U : Array Value} (i : Is O e) (j : Is U f) : (binOp .eql 37 (.agg O) (.agg U)).run Try.prog w = .ok (.bool (sameO e f)) w := by
  rw [i, j]; exact run_eql_op w e f
theorem boxedI (w : World) {e : Ev} {O : Array Value} (i : Is O e) : LiesO (w.alloc (.cells O 37)) w.heap.size e ∧ Below w.heap.size w (w.alloc (.cells O 37)) := by
  rw [i]; exact boxedO w e
theorem eqGuard_str (w : World) {op : BinOp} {x y : Operand} {a b : ByteArray} : (eqGuard op 9 x y (.string a) (.string b)).run Try.prog w = .ok () w := by
  cases op <;> simp [eqGuard]
theorem neq_str_run (w : World) {s : List UInt8} {b : Bool} (h : decide (s ≠ []) = b) : (binOp .neq 9 (.string (sb s)) (.string ⟨#[]⟩)).run Try.prog w = .ok (.bool b) w := by
  subst h
  show (binOp .neq 9 (.string (sb s)) (.string (sb []))).run Try.prog w = _
  have h : ((sb s).toList == (sb []).toList) = decide (s = []) := by
    rw [ByteArray.toList_eq, ByteArray.toList_eq, data_sb, data_sb, Bool.eq_iff_iff]
    simp
  simp [binOp, Op.stringOp, h]
/-- Can the operation be? -/
def opE (e : Ev) : Bool := iskindE e.kind && (decide (e.key ≠ []) && (textsE e && (numE e.num && sameO e (used e))))

end Go.Proofs.Yteanpepmncgagaa
