/-
  Sixteen numbers in an array: how they lie in memory; read and laid whole; compared.
-/
import Derived.Test.YtojaphoonaoppaaVec
import Derived.Test.YtojaphoonaoppaaZer
namespace Go.Proofs.Ytojaphoonaoppaa
open Go.RowKit

/-- A vector lies in a block. -/
def LiesA (w : World) (g : Nat) (l : List Int) : Prop := w.heap[g]? = some (.cells (vals l) 24 (0, 0))
theorem LiesA.below {B g : Nat} {w w' : World} {l : List Int} (h : LiesA w g l) (hb : Below B w w') (hg : g < B) : LiesA w' g l := by
  rw [LiesA, hb.block g hg]; exact h
theorem LiesA.lt {w : World} {g : Nat} {l : List Int} (h : LiesA w g l) : g < w.heap.size := by
  rw [LiesA] at h
  exact (Array.getElem?_eq_some_iff.1 h).1
theorem LiesA.cell {w : World} {g k : Nat} {l : List Int} (h : LiesA w g l) (hk : k < l.length) : w.cell? ⟨g, k, none⟩ = some (.int .i64 (l.getD k 0)) := by
  rw [cell_of_row w g k _ _ _ h, vals_get l k hk]
theorem LiesA.frozen {w : World} {g k : Nat} {l : List Int} (h : LiesA w g l) : w.frozen? ⟨g, k, none⟩ = false := frozen_of_row w g k _ _ h
theorem LiesA.set {w : World} {g k : Nat} {l : List Int} (h : LiesA w g l) (x : Int) : LiesA (w.setCell ⟨g, k, none⟩ (.int .i64 x)) g (l.set k x) := by
  rw [LiesA, heap_setCell_same w g k _ _ _ h, vals_set]
theorem LiesA.other {w : World} {g : Nat} {ad : Addr} {l : List Int} (h : LiesA w g l) (v : Value) (hg : g ≠ ad.block) : LiesA (w.setCell ad v) g l := by
  rw [LiesA, heap_setCell_other w ad g v hg]; exact h
theorem LiesA.alloc {w : World} {g : Nat} {l : List Int} (h : LiesA w g l) (o : Obj) : LiesA (w.alloc o) g l := by
  rw [LiesA, Below.heap_alloc w o g h.lt]; exact h
theorem LiesA.drew {w : World} {g : Nat} {l : List Int} (h : LiesA w g l) : LiesA w.drew g l := h
theorem liesA_new (w : World) (l : List Int) : LiesA (w.alloc (.cells (vals l) 24)) w.heap.size l := heap_alloc_new w _

theorem size16A (l : List Int) (h : l.length = 16) : (Try.prog.info? 24).map (·.size) = some (vals l).size := by
  rw [vals_size, h]
  kernel_rfl

/-- A whole vector is read. -/
theorem load_arr {ops : Array Oper} {rest : List Oper} {o : Oper} {a : Act} {w : World} {Q : Exit → Act → World → Prop} {x : Operand} {g : Nat} {l : List Int} (hgd : o.guard = none) (ho : o.op = .load 24 x)
    (hx : a.eval x = .pointer (some ⟨g, 0, none⟩)) (hg : LiesA w g l) (hl : l.length = 16)
    (h : wpList Try.prog ops Q rest (a.put o.dst (.agg (vals l))) w) : wpList Try.prog ops Q (o :: rest) a w :=
  wpList_load_row hgd 24 x ho g hx 24 _ (0, 0) _ hg Try.underlying24 rfl (size16A l hl) h

/-- A whole vector is laid. -/
theorem store_arr {ops : Array Oper} {rest : List Oper} {o : Oper} {a : Act} {w : World} {Q : Exit → Act → World → Prop} {x y : Operand} {g : Nat} {l m : List Int} (hgd : o.guard = none) (ho : o.op = .store 24 x y)
    (hx : a.eval x = .pointer (some ⟨g, 0, none⟩)) (hy : a.eval y = .agg (vals l)) (hg : LiesA w g m) (hl : l.length = 16) (hm : m.length = 16)
    (h : wpList Try.prog ops Q rest (a.put o.dst undef) (w.setRow g (vals l))) : wpList Try.prog ops Q (o :: rest) a w :=
  wpList_store_row hgd 24 x y ho g (vals l) hx hy 24 _ hg (size16A l hl) (by rw [vals_size, vals_size, hl, hm]) (vals_one l) h
theorem LiesA.row {w : World} {g : Nat} {m : List Int} (h : LiesA w g m) (l : List Int) : LiesA (w.setRow g (vals l)) g l := setRow_heap w g _ _ _ _ h
theorem LiesA.rowOther {w : World} {g k : Nat} {m : List Int} (h : LiesA w k m) (cs : Array Value) (hk : k ≠ g) : LiesA (w.setRow g cs) k m := by
  rw [LiesA, setRow_other w g k cs hk]; exact h
/-- The address of an element. -/
theorem run_indexAt_arr (w : World) (g k : Nat) (hk : k < 16) : (Instr.indexAt 24 (.pointer (some ⟨g, 0, none⟩)) (.int .i64 (k : Int))).run Try.prog w = .ok (.pointer (some ⟨g, k, none⟩)) w := by
  have hu : Try.prog.underlying 24 = some (.array 16 3) := by kernel_rfl
  have e : (⟨g, 0, none⟩ : Addr).add k = ⟨g, k, none⟩ := by unfold Addr.add; split <;> simp_all
  simp [Instr.indexAt, asIntOf, run_underlying hu, Sem.run_bind, Instr.sureAddr, hk, e]


theorem run_equalIn_arr (w : World) (d : Nat) (a b : List Int) (la : a.length = 16) (lb : b.length = 16) :
    (Op.equalIn (d + 2) 24 (.agg (vals a)) (.agg (vals b))).run Try.prog w = .ok (decide (a = b)) w := by
  have hu : Try.prog.underlying 24 = some (.array 16 3) := by kernel_rfl
  have hs : (sizeOf 3).run Try.prog w = .ok 1 w := by kernel_rfl
  rw [Op.equalIn]
  simp only [Sem.run_bind, run_underlying hu, Result.andThen_ok, hs]
  rw [Std.Legacy.Range.forIn_eq_forIn_range', run_same_vec d a b la lb w _ (fun i hi => by simpa [Std.Legacy.Range.size] using hi)]
  by_cases h : a = b
  · subst h
    simp
  · rw [if_neg]
    · simp [h]
    · intro hall
      exact h (vec_ext a b la lb fun i hi => hall i (by simpa [Std.Legacy.Range.size] using hi))

theorem run_eql_arr (w : World) (a b : List Int) (la : a.length = 16) (lb : b.length = 16) : (binOp .eql 24 (.agg (vals a)) (.agg (vals b))).run Try.prog w = .ok (.bool (decide (a = b))) w := by
  rw [run_eql_struct, run_equalIn_arr w 9998 a b la lb, Result.andThen_ok]
theorem run_neq_arr (w : World) (a b : List Int) (la : a.length = 16) (lb : b.length = 16) : (binOp .neq 24 (.agg (vals a)) (.agg (vals b))).run Try.prog w = .ok (.bool (!decide (a = b))) w := by
  rw [run_neq_struct, run_equalIn_arr w 9998 a b la lb, Result.andThen_ok]
theorem plain_arr : Try.prog.eqGuardType Try.prog.depth 24 = false := by kernel_rfl

/-- A vector is the answer. -/
theorem ret_arr {fn : Func} {R : Ending → World → Prop} {a : Act} {w : World} {p : Tmp} {g : Nat} {l : List Int} (h : fn.results = #[.cell p 24]) (hp : a.tmps.getD p undef = .pointer (some ⟨g, 0, none⟩))
    (hd : a.defers = []) (hg : LiesA w g l) (hl : l.length = 16) (hR : R (.returned (.agg (vals l))) w) : bodyPost Try.prog fn R .ret a w :=
  bodyPost_ret (results_cell_row h a.tmps w g 24 _ (0, 0) _ hp hg Try.underlying24 rfl (size16A l hl)) hd hR
end Go.Proofs.Ytojaphoonaoppaa
