/-
  A call of the script in a block of its own; a bag of numbers beside a bag of texts.
-/
import Derived.Test.YteihijejohgfpaaBgn
import Derived.Test.YteihijejohgfpaaBdrs
import Derived.Deep.MidRow
import Derived.Laws.IdiomStrings
import Derived.Laws.MakeOwn
namespace Go.Proofs.Yteihijejohgfpaa
set_option maxRecDepth 100000
open Go.RowKit

def LiesC (w : World) (g : Nat) (o : Cl) : Prop := w.heap[g]? = some (.cells (clc o) 38 (0, 0))
theorem LiesC.lt {w : World} {g : Nat} {o : Cl} (h : LiesC w g o) : g < w.heap.size := (Array.getElem?_eq_some_iff.1 h).1
theorem LiesC.below {w w' : World} {g B : Nat} {o : Cl} (h : LiesC w g o) (hb : Below B w w') (hB : g < B) : LiesC w' g o := by
  rw [LiesC, hb.block g hB]; exact h
theorem LiesC.drew {w : World} {g : Nat} {o : Cl} (h : LiesC w g o) : LiesC w.drew g o := h
theorem LiesC.range {w : World} {g : Nat} {o : Cl} (h : LiesC w g o) : w.rangeAt g 0 (cll o) := fun j v hv => by
  rw [Nat.zero_add, cell_of_row w g j _ _ _ h]
  simpa [clc] using hv
theorem LiesC.cell {w : World} {g : Nat} {o : Cl} (h : LiesC w g o) {j : Nat} {v : Value} (hj : j < 4) (hv : (clh o)[j]? = some v) : w.cell? ⟨g, j, none⟩ = some v := by
  have := h.range j v (by rw [cll_head o j hj]; exact hv)
  rwa [Nat.zero_add] at this
theorem LiesC.c0 {w : World} {g : Nat} {o : Cl} (h : LiesC w g o) : w.cell? ⟨g, 0, none⟩ = some (.int .i64 o.kind) := h.cell (by decide) rfl
theorem LiesC.c1 {w : World} {g : Nat} {o : Cl} (h : LiesC w g o) : w.cell? ⟨g, 1, none⟩ = some (.int .i64 o.r) := h.cell (by decide) rfl
theorem LiesC.c2 {w : World} {g : Nat} {o : Cl} (h : LiesC w g o) : w.cell? ⟨g, 2, none⟩ = some (.int .i64 o.n) := h.cell (by decide) rfl
theorem LiesC.c3 {w : World} {g : Nat} {o : Cl} (h : LiesC w g o) : w.cell? ⟨g, 3, none⟩ = some (.int .i64 o.x) := h.cell (by decide) rfl
theorem LiesC.vec {w : World} {g : Nat} {o : Cl} (h : LiesC w g o) : w.rangeAt g 4 (o.v.map (Value.int .i64)) := fun j v hv => by
  have := h.range (4 + j) v (by rw [cll_tail]; exact hv)
  rwa [Nat.zero_add] at this
theorem load_vc {w : World} {g : Nat} {o : Cl} (h : LiesC w g o) (hv : o.v.length = 16) : (loadVar 36 ⟨g, 4, none⟩).run Try.prog w = .ok (.agg (vals o.v)) w := by
  have := run_loadVar_mid (P := Try.prog) w g 4 36 _ _ h.vec under_vv rfl (info_vv hv)
  rw [this]; rfl
theorem LiesC.turn {w w' : World} {g D : Nat} {m m' : Option Nat} {o : Cl} (h : LiesC w D o) (t : Turn g m m' w w') (h1 : g ≠ D) (h2 : ∀ k, m = some k → k ≠ D) : LiesC w' D o := by
  rw [LiesC, t.block D h.lt (fun e => h1 e.symm) (fun e => h2 D e rfl)]; exact h
theorem Lst.atC {w : World} {a : Option Addr} {len cap : Nat} {O : List Cl} (h : Lst cll 20 w a len cap O) {k : Nat} (hk : k < len) : ∃ b off o, a = some ⟨b, off, none⟩ ∧ O[k]? = some o ∧ b < w.heap.size ∧ w.rangeAt b (off + k * 20) (cll o) := by
  obtain ⟨h1, h2, h3, h4⟩ := h
  rcases h4 with h4 | ⟨b, off, ha, hlt, hE⟩
  · omega
  · obtain ⟨i, hi⟩ : ∃ i, O[k]? = some i := ⟨_, List.getElem?_eq_getElem (by omega)⟩
    exact ⟨b, off, i, ha, hi, hlt, hE k i hi⟩
theorem under_cl : Try.prog.underlying 38 = some (.struct (Try.prog.fieldsOf 38)) := by kernel_rfl
theorem info_cl {o : Cl} (h : o.v.length = 16) : (Try.prog.info? 38).map (·.size) = some (cll o).length := by
  rw [cll_length h]; kernel_rfl
theorem load_cl {ops : Array Oper} {rest : List Oper} {op : Oper} {a : Act} {w : World} {Q : Exit → Act → World → Prop} {x : Operand} {b i : Nat} {o : Cl} (hgd : op.guard = none) (ho : op.op = .load 38 x)
    (hx : a.eval x = .pointer (some ⟨b, i, none⟩)) (hc : w.rangeAt b i (cll o)) (hl : o.v.length = 16)
    (h : wpList Try.prog ops Q rest (a.put op.dst (.agg (clc o))) w) : wpList Try.prog ops Q (op :: rest) a w :=
  wpList_load_mid hgd 38 x ho b i hx (cll o) _ hc under_cl rfl (info_cl hl) h
theorem store_cl {ops : Array Oper} {rest : List Oper} {op : Oper} {a : Act} {w : World} {Q : Exit → Act → World → Prop} {x y : Operand} {g : Nat} {o : Cl} {z : Array Value} (hgd : op.guard = none) (ho : op.op = .store 38 x y)
    (hx : a.eval x = .pointer (some ⟨g, 0, none⟩)) (hy : a.eval y = .agg (clc o)) (hg : w.heap[g]? = some (.cells z 38 (0, 0))) (hz : z.size = 20) (hl : o.v.length = 16)
    (h : wpList Try.prog ops Q rest (a.put op.dst undef) (w.setRow g (clc o))) : wpList Try.prog ops Q (op :: rest) a w :=
  wpList_store_row hgd 38 x y ho g (clc o) hx hy 38 _ hg (by rw [show (clc o).size = (cll o).length from by simp [clc]]; exact info_cl hl) (by rw [show (clc o).size = (cll o).length from by simp [clc], cll_length hl, hz]) (clc_one o) h
theorem liesC_past (w : World) (z : Array Value) (o : Cl) : LiesC ((w.alloc (.cells z 38)).setRow w.heap.size (clc o)) w.heap.size o := setRow_heap _ _ _ _ _ _ (heap_alloc_new w _)
theorem below_past (w : World) (z : Array Value) (o : Cl) : Below w.heap.size w ((w.alloc (.cells z 38)).setRow w.heap.size (clc o)) := below_setRow ((Below.refl _ w).alloc (Nat.le_refl _) _) (Nat.le_refl _) _
theorem heap_new (w : World) (o : Obj) : (w.alloc o).heap[w.heap.size]? = some o := heap_alloc_new w o

section
variable {o : Oper} {a : Act} {w w' : World} {K : Act → World → Prop} {Q : Exit → Act → World → Prop} {x y : Operand} {v : Value}
theorem exec_neqb {m n b : Bool} (ho : o.op = .binOp .neq 4 x y 4) (hx : a.eval x = .bool m) (hy : a.eval y = .bool n) (hb : (m != n) = b) : (execOp a.eval o).run Try.prog w = .ok (.value (.bool b)) w := by
  subst hb
  have h3 : Try.prog.underlying 4 = some .bool := by kernel_rfl
  unfold execOp
  simp only [ho, hx, hy]
  go_simp
  cases m <;> cases n <;> rfl
theorem wp_make {t : TypeId} {p q : Value} (ho : o.op = .makeSlice t x y) (hx : a.eval x = p) (hy : a.eval y = q) (hr : (Instr.makeSlice t p q).run Try.prog w = .ok v w') (h : K (a.put o.dst v) w') : o.wp Try.prog a w K Q := by
  unfold Oper.wp execOp
  simp only [ho, hx, hy, Sem.run_bind, Sem.run_pure, Result.andThen_ok, hr]
  exact h
theorem wp_conv {t t' : TypeId} {p : Value} (ho : o.op = .convert t t' x) (hx : a.eval x = p) (hr : (convert t t' p).run Try.prog w = .ok v w) (h : K (a.put o.dst v) w) : o.wp Try.prog a w K Q := by
  unfold Oper.wp execOp
  simp only [ho, hx, Sem.run_bind, Sem.run_pure, Result.andThen_ok, hr]
  exact h
theorem exec_lens {s : ByteArray} {k : Int} (ho : o.op = .call { callee := .builtin .len, args := #[x], argTypes := #[9] }) (hx : a.eval x = .string s) (hk : (s.size : Int) = k) : (execOp a.eval o).run Try.prog w = .ok (.value (.int .i64 k)) w := by
  subst hk
  have h3 : Try.prog.underlying 9 = some .string := by kernel_rfl
  unfold execOp
  simp only [ho, resolve, invoke, builtin, Sem.run_bind, Sem.run_pure, Result.andThen_ok, List.map_toArray, List.map_cons, List.map_nil, hx]
  rw [run_len_string w 9 o.type s h3]
  rfl
end
theorem load_s {w : World} {ad : Addr} {v : Value} (h : w.cell? ad = some v) : (loadVar 9 ad).run Try.prog w = .ok v w := by
  have h3 : Try.prog.underlying 9 = some .string := by kernel_rfl
  go_simp
theorem index_t2 (w : World) {b k m c : Nat} (hk : k < m) : (Instr.indexAt 57 (.slice (some ⟨b, 0, none⟩) m c) (.int .i64 (k : Int))).run Try.prog w = .ok (.pointer (some ⟨b, k * 3, none⟩)) w := by
  have hk' : (k : Int) < (m : Int) := by omega
  go_simp
theorem field_o1 (w : World) (b i : Nat) : (Instr.fieldAt 38 (.pointer (some ⟨b, i, none⟩)) 1).run Try.prog w = .ok (.pointer (some ⟨b, i + 1, none⟩)) w := by go_simp
theorem field_o3 (w : World) (b i : Nat) : (Instr.fieldAt 38 (.pointer (some ⟨b, i, none⟩)) 3).run Try.prog w = .ok (.pointer (some ⟨b, i + 4, none⟩)) w := by go_simp
theorem field_s1 (w : World) (b i : Nat) : (Instr.fieldAt 62 (.pointer (some ⟨b, i, none⟩)) 1).run Try.prog w = .ok (.pointer (some ⟨b, i + 2, none⟩)) w := by go_simp
theorem field_s0 (w : World) (b i : Nat) : (Instr.fieldAt 62 (.pointer (some ⟨b, i, none⟩)) 0).run Try.prog w = .ok (.pointer (some ⟨b, i + 0, none⟩)) w := by go_simp
theorem enters_remove (xs : Array Value) (w : World) : (callFunc 15 xs).run Try.prog w = .ok (.enter 15 xs) w := enters Try.func15 (by kernel_rfl) (by kernel_rfl) xs w
theorem enters_remove2 (xs : Array Value) (w : World) : (callFunc 25 xs).run Try.prog w = .ok (.enter 25 xs) w := enters Try.func25 (by kernel_rfl) (by kernel_rfl) xs w
theorem enters_drop2 (xs : Array Value) (w : World) : (callFunc 27 xs).run Try.prog w = .ok (.enter 27 xs) w := enters Try.func27 (by kernel_rfl) (by kernel_rfl) xs w
theorem enters_put2 (xs : Array Value) (w : World) : (callFunc 24 xs).run Try.prog w = .ok (.enter 24 xs) w := enters Try.func24 (by kernel_rfl) (by kernel_rfl) xs w
end Go.Proofs.Yteihijejohgfpaa
