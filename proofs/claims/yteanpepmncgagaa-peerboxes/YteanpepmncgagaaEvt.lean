/-
  Events in memory: their cells, a whole event or a part of one read and laid; two compared.
-/
import Derived.Test.YteanpepmncgagaaEvm
import Derived.Test.YteanpepmncgagaaRvl
import Derived.Deep.MidRow
namespace Go.Proofs.Yteanpepmncgagaa
set_option maxRecDepth 100000
open Go.RowKit

/-- A text as the program has it. -/
def sb (s : List UInt8) : ByteArray := ⟨s.toArray⟩
theorem sb_size (s : List UInt8) : (sb s).size = s.length := by show s.toArray.size = _; simp
theorem sb_nil : sb [] = ⟨#[]⟩ := rfl
theorem sb_inj {s t : List UInt8} : sb s = sb t ↔ s = t := by
  constructor
  · intro h
    have := congrArg (fun b : ByteArray => b.data.toList) h
    simpa [sb] using this
  · rintro rfl; rfl
theorem sb_data (s : ByteArray) : sb s.data.toList = s := rfl
theorem data_sb (s : List UInt8) : (sb s).data.toList = s := rfl

/-- An operation's cells, an event's. -/
def opl (e : Ev) : List Value := [.int .i64 e.kind, .string (sb e.key), .string (sb e.field), .string (sb e.value), .int .i64 e.num, .int .i64 e.rr, .int .i64 e.rn]
def opc (e : Ev) : Array Value := (opl e).toArray
def evl (e : Ev) : List Value := [.int .i64 e.r, .int .i64 e.n, .int .i64 e.t] ++ (e.deps.map (Value.int .i64) ++ opl e)
def evc (e : Ev) : Array Value := (evl e).toArray
theorem evl_length (e : Ev) (h : e.deps.length = 16) : (evl e).length = 26 := by simp [evl, opl, h]
theorem evc_size (e : Ev) (h : e.deps.length = 16) : (evc e).size = 26 := by simp [evc, evl_length e h]
theorem evc_one (e : Ev) : (evc e).all (·.oneCell') = true := by
  simp [evc, evl, opl, Value.oneCell']
theorem opc_one (e : Ev) : (opc e).all (·.oneCell') = true := by
  simp [opc, opl, Value.oneCell']

/-- An event, an operation lies in a block. -/
def LiesE (w : World) (g : Nat) (e : Ev) : Prop := w.heap[g]? = some (.cells (evc e) 39 (0, 0))
def LiesO (w : World) (g : Nat) (e : Ev) : Prop := w.heap[g]? = some (.cells (opc e) 37 (0, 0))
theorem LiesE.below {B g : Nat} {w w' : World} {e : Ev} (h : LiesE w g e) (hb : Below B w w') (hg : g < B) : LiesE w' g e := by
  rw [LiesE, hb.block g hg]; exact h
theorem LiesO.below {B g : Nat} {w w' : World} {e : Ev} (h : LiesO w g e) (hb : Below B w w') (hg : g < B) : LiesO w' g e := by
  rw [LiesO, hb.block g hg]; exact h
theorem LiesE.lt {w : World} {g : Nat} {e : Ev} (h : LiesE w g e) : g < w.heap.size := by
  rw [LiesE] at h
  exact (Array.getElem?_eq_some_iff.1 h).1
theorem LiesO.lt {w : World} {g : Nat} {e : Ev} (h : LiesO w g e) : g < w.heap.size := by
  rw [LiesO] at h
  exact (Array.getElem?_eq_some_iff.1 h).1
theorem LiesE.alloc {w : World} {g : Nat} {e : Ev} (h : LiesE w g e) (o : Obj) : LiesE (w.alloc o) g e := by
  rw [LiesE, Below.heap_alloc w o g h.lt]; exact h
theorem LiesO.alloc {w : World} {g : Nat} {e : Ev} (h : LiesO w g e) (o : Obj) : LiesO (w.alloc o) g e := by
  rw [LiesO, Below.heap_alloc w o g h.lt]; exact h
theorem liesE_new (w : World) (e : Ev) : LiesE (w.alloc (.cells (evc e) 39)) w.heap.size e := heap_alloc_new w _
theorem liesO_new (w : World) (e : Ev) : LiesO (w.alloc (.cells (opc e) 37)) w.heap.size e := heap_alloc_new w _
theorem LiesE.frozen {w : World} {g k : Nat} {e : Ev} (h : LiesE w g e) : w.frozen? ⟨g, k, none⟩ = false := frozen_of_row w g k _ _ h
theorem LiesO.frozen {w : World} {g k : Nat} {e : Ev} (h : LiesO w g e) : w.frozen? ⟨g, k, none⟩ = false := frozen_of_row w g k _ _ h
theorem LiesE.row {w : World} {g : Nat} {e' : Ev} (h : LiesE w g e') (e : Ev) : LiesE (w.setRow g (evc e)) g e := setRow_heap w g _ _ _ _ h
theorem LiesO.row {w : World} {g : Nat} {e' : Ev} (h : LiesO w g e') (e : Ev) : LiesO (w.setRow g (opc e)) g e := setRow_heap w g _ _ _ _ h
theorem LiesE.rowOther {w : World} {g k : Nat} {e : Ev} (h : LiesE w k e) (cs : Array Value) (hk : k ≠ g) : LiesE (w.setRow g cs) k e := by
  rw [LiesE, setRow_other w g k cs hk]; exact h
theorem LiesO.rowOther {w : World} {g k : Nat} {e : Ev} (h : LiesO w k e) (cs : Array Value) (hk : k ≠ g) : LiesO (w.setRow g cs) k e := by
  rw [LiesO, setRow_other w g k cs hk]; exact h
theorem LiesE.drewN {w : World} {g : Nat} {e : Ev} (h : LiesE w g e) (n : Nat) : LiesE (w.drewN n) g e := h
theorem LiesO.drewN {w : World} {g : Nat} {e : Ev} (h : LiesO w g e) (n : Nat) : LiesO (w.drewN n) g e := h

/-- The parts of an event's cells. -/
theorem evc_get {e : Ev} (k : Nat) : (evc e)[k]? = (evl e)[k]? := by simp [evc]
theorem evl_hi {e : Ev} (h : e.deps.length = 16) (j : Nat) : (evl e)[19 + j]? = (opl e)[j]? := by
  rw [evl, List.getElem?_append_right (by simp; omega), List.getElem?_append_right (by simp [h]; omega)]
  simp [h]
  congr 1
  omega
theorem evl_mid {e : Ev} (h : e.deps.length = 16) (j : Nat) (hj : j < 16) : (evl e)[3 + j]? = some (.int .i64 (e.deps.getD j 0)) := by
  have hj' : j < e.deps.length := by omega
  rw [evl, List.getElem?_append_right (by simp), List.getElem?_append_left (by simp; omega)]
  simp [List.getD, hj']
theorem LiesE.c0 {w : World} {g : Nat} {e : Ev} (h : LiesE w g e) : w.cell? ⟨g, 0, none⟩ = some (.int .i64 e.r) := by rw [cell_of_row w g 0 _ _ _ h]; rfl
theorem LiesE.c1 {w : World} {g : Nat} {e : Ev} (h : LiesE w g e) : w.cell? ⟨g, 1, none⟩ = some (.int .i64 e.n) := by rw [cell_of_row w g 1 _ _ _ h]; rfl
theorem LiesE.c2 {w : World} {g : Nat} {e : Ev} (h : LiesE w g e) : w.cell? ⟨g, 2, none⟩ = some (.int .i64 e.t) := by rw [cell_of_row w g 2 _ _ _ h]; rfl
theorem LiesE.cd {w : World} {g : Nat} {e : Ev} (h : LiesE w g e) (hl : e.deps.length = 16) {j : Nat} (hj : j < 16) : w.cell? ⟨g, 3 + j, none⟩ = some (.int .i64 (e.deps.getD j 0)) := by
  rw [cell_of_row w g (3 + j) _ _ _ h, evc_get, evl_mid hl j hj]
theorem LiesE.co {w : World} {g : Nat} {e : Ev} (h : LiesE w g e) (hl : e.deps.length = 16) (j : Nat) : w.cell? ⟨g, 19 + j, none⟩ = (opl e)[j]? := by
  rw [cell_of_row w g (19 + j) _ _ _ h, evc_get, evl_hi hl]
theorem LiesE.c19 {w : World} {g : Nat} {e : Ev} (h : LiesE w g e) (hl : e.deps.length = 16) : w.cell? ⟨g, 19, none⟩ = some (.int .i64 e.kind) := h.co hl 0
theorem LiesO.co {w : World} {g : Nat} {e : Ev} (h : LiesO w g e) (j : Nat) : w.cell? ⟨g, j, none⟩ = (opl e)[j]? := by
  rw [cell_of_row w g j _ _ _ h, opc, List.getElem?_toArray]
theorem LiesO.c0 {w : World} {g : Nat} {e : Ev} (h : LiesO w g e) : w.cell? ⟨g, 0, none⟩ = some (.int .i64 e.kind) := h.co 0
theorem LiesO.c1 {w : World} {g : Nat} {e : Ev} (h : LiesO w g e) : w.cell? ⟨g, 1, none⟩ = some (.string (sb e.key)) := h.co 1
theorem LiesO.c2 {w : World} {g : Nat} {e : Ev} (h : LiesO w g e) : w.cell? ⟨g, 2, none⟩ = some (.string (sb e.field)) := h.co 2
theorem LiesO.c3 {w : World} {g : Nat} {e : Ev} (h : LiesO w g e) : w.cell? ⟨g, 3, none⟩ = some (.string (sb e.value)) := h.co 3
theorem LiesO.c4 {w : World} {g : Nat} {e : Ev} (h : LiesO w g e) : w.cell? ⟨g, 4, none⟩ = some (.int .i64 e.num) := h.co 4

/-- Parts, as ranges. -/
theorem LiesE.dot {w : World} {g : Nat} {e : Ev} (h : LiesE w g e) : w.rangeAt g 0 (dotc e.r e.n).toList := fun j v hv => by
  match j, hv with
  | 0, hv => obtain rfl := Option.some.inj hv; exact h.c0
  | 1, hv => obtain rfl := Option.some.inj hv; exact h.c1
theorem LiesE.deps {w : World} {g : Nat} {e : Ev} (h : LiesE w g e) (hl : e.deps.length = 16) : w.rangeAt g 3 (vals e.deps).toList := fun j v hv => by
  have hj : j < e.deps.length := by
    have := (List.getElem?_eq_some_iff.1 hv).1
    simpa [vals] using this
  rw [h.cd hl (by omega), ← hv]
  simp [vals, List.getD, hj]
theorem LiesE.op {w : World} {g : Nat} {e : Ev} (h : LiesE w g e) (hl : e.deps.length = 16) : w.rangeAt g 19 (opc e).toList := fun j v hv => by
  rw [h.co hl j]; exact hv
theorem LiesE.ref {w : World} {g : Nat} {e : Ev} (h : LiesE w g e) (hl : e.deps.length = 16) : w.rangeAt g 24 (dotc e.rr e.rn).toList := fun j v hv => by
  match j, hv with
  | 0, hv => obtain rfl := Option.some.inj hv; exact h.co hl 5
  | 1, hv => obtain rfl := Option.some.inj hv; exact h.co hl 6
theorem LiesO.ref {w : World} {g : Nat} {e : Ev} (h : LiesO w g e) : w.rangeAt g 5 (dotc e.rr e.rn).toList := fun j v hv => by
  match j, hv with
  | 0, hv => obtain rfl := Option.some.inj hv; exact h.co 5
  | 1, hv => obtain rfl := Option.some.inj hv; exact h.co 6

theorem size26 (e : Ev) (h : e.deps.length = 16) : (Try.prog.info? 39).map (·.size) = some (evc e).size := by
  rw [evc_size e h]
  kernel_rfl
theorem size7 (e : Ev) : (Try.prog.info? 37).map (·.size) = some (opc e).size := by
  show _ = some 7
  kernel_rfl

section
variable {ops : Array Oper} {rest : List Oper} {o : Oper} {a : Act} {w : World} {Q : Exit → Act → World → Prop} {x y : Operand} {g k : Nat} {e e' : Ev}
/-- A whole event, operation is read. -/
theorem load_ev (hw : Region.wanted o (yielded ops a.tmps) = true) (ho : o.op = .load 39 x) (hx : a.eval x = .pointer (some ⟨g, 0, none⟩)) (hg : LiesE w g e) (hl : e.deps.length = 16)
    (h : wpList Try.prog ops Q rest (a.put o.dst (.agg (evc e))) w) : wpList Try.prog ops Q (o :: rest) a w :=
  wpList_step fun K hK => by
    rw [if_pos hw]
    exact wp_load_row 39 x ho g hx 39 _ (0, 0) _ hg Try.underlying39 rfl (size26 e hl) (hK _ _ h)
theorem load_op (hw : Region.wanted o (yielded ops a.tmps) = true) (ho : o.op = .load 37 x) (hx : a.eval x = .pointer (some ⟨g, 0, none⟩)) (hg : LiesO w g e)
    (h : wpList Try.prog ops Q rest (a.put o.dst (.agg (opc e))) w) : wpList Try.prog ops Q (o :: rest) a w :=
  wpList_step fun K hK => by
    rw [if_pos hw]
    exact wp_load_row 37 x ho g hx 37 _ (0, 0) _ hg Try.underlying37 rfl (size7 e) (hK _ _ h)
/-- A part of one is read. -/
theorem load_op_at (hw : Region.wanted o (yielded ops a.tmps) = true) (ho : o.op = .load 37 x) (hx : a.eval x = .pointer (some ⟨g, k, none⟩)) (hg : w.rangeAt g k (opc e).toList)
    (h : wpList Try.prog ops Q rest (a.put o.dst (.agg (opc e))) w) : wpList Try.prog ops Q (o :: rest) a w :=
  wpList_step fun K hK => by
    rw [if_pos hw]
    exact wp_load_mid 37 x ho g k hx (opc e).toList _ hg Try.underlying37 rfl (size7 e) (hK _ _ h)
theorem load_vec_at {l : List Int} (hw : Region.wanted o (yielded ops a.tmps) = true) (ho : o.op = .load 35 x) (hx : a.eval x = .pointer (some ⟨g, k, none⟩)) (hg : w.rangeAt g k (vals l).toList) (hl : l.length = 16)
    (h : wpList Try.prog ops Q rest (a.put o.dst (.agg (vals l))) w) : wpList Try.prog ops Q (o :: rest) a w :=
  wpList_step fun K hK => by
    rw [if_pos hw]
    exact wp_load_mid 35 x ho g k hx (vals l).toList _ hg Try.underlying35 rfl (size16 l hl) (hK _ _ h)
theorem load_dot_at {r n : Int} (hw : Region.wanted o (yielded ops a.tmps) = true) (ho : o.op = .load 33 x) (hx : a.eval x = .pointer (some ⟨g, k, none⟩)) (hg : w.rangeAt g k (dotc r n).toList)
    (h : wpList Try.prog ops Q rest (a.put o.dst (.agg (dotc r n))) w) : wpList Try.prog ops Q (o :: rest) a w :=
  wpList_step fun K hK => by
    rw [if_pos hw]
    exact wp_load_mid 33 x ho g k hx (dotc r n).toList _ hg Try.underlying33 rfl (sizeD r n) (hK _ _ h)
/-- A whole event, operation is laid. -/
theorem store_ev (hgd : o.guard = none) (ho : o.op = .store 39 x y) (hx : a.eval x = .pointer (some ⟨g, 0, none⟩)) (hy : a.eval y = .agg (evc e)) (hg : LiesE w g e') (hl : e.deps.length = 16) (hl' : e'.deps.length = 16)
    (h : wpList Try.prog ops Q rest (a.put o.dst undef) (w.setRow g (evc e))) : wpList Try.prog ops Q (o :: rest) a w :=
  wpList_store_row hgd 39 x y ho g (evc e) hx hy 39 _ hg (size26 e hl) (by rw [evc_size e hl, evc_size e' hl']) (evc_one e) h
theorem store_op (hgd : o.guard = none) (ho : o.op = .store 37 x y) (hx : a.eval x = .pointer (some ⟨g, 0, none⟩)) (hy : a.eval y = .agg (opc e)) (hg : LiesO w g e')
    (h : wpList Try.prog ops Q rest (a.put o.dst undef) (w.setRow g (opc e))) : wpList Try.prog ops Q (o :: rest) a w :=
  wpList_store_row hgd 37 x y ho g (opc e) hx hy 37 _ hg (size7 e) rfl (opc_one e) h
end

/-- Later. -/
def laterE (b a : Ev) : Bool := if b.t ≠ a.t then decide (a.t < b.t) else if b.r ≠ a.r then decide (a.r < b.r) else decide (a.n < b.n)

theorem boxedEE (w : World) (b a : Ev) :
    LiesE ((w.alloc (.cells (evc b) 39)).alloc (.cells (evc a) 39)) w.heap.size b ∧
    LiesE ((w.alloc (.cells (evc b) 39)).alloc (.cells (evc a) 39)) (w.heap.size + 1) a ∧
    Below w.heap.size w ((w.alloc (.cells (evc b) 39)).alloc (.cells (evc a) 39)) := by
  refine ⟨(liesE_new w b).alloc _, ?_, ((Below.refl _ _).alloc (Nat.le_refl _) _).alloc (by simp) _⟩
  have := liesE_new (w.alloc (.cells (evc b) 39)) a
  simpa using this

end Go.Proofs.Yteanpepmncgagaa
