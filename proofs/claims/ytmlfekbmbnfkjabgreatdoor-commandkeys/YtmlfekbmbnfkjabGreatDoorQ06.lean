/-
  Events in memory: their cells, a whole event or a part of one read and laid; two compared.
-/
import Derived.Test.YtmlfekbmbnfkjabGreatDoorQ02
import Derived.Test.YtmlfekbmbnfkjabGreatDoorQ05
import Derived.Deep.MidRow
import Derived.Test.YtmlfekbmbnfkjabGreatDoorQ01
namespace Go.Proofs.YtmlfekbmbnfkjabGreatDoor
set_option maxRecDepth 100000
open Go.RowKit

/-- A text as the program has it. -/
def sb (s : List UInt8) : ByteArray := ⟨s.toArray⟩
theorem sb_size (s : List UInt8) : (sb s).size = s.length := by show s.toArray.size = _; simp
theorem sb_inj {s t : List UInt8} : sb s = sb t ↔ s = t := by
  constructor
  · intro h
    have := congrArg (fun b : ByteArray => b.data.toList) h
    simpa [sb] using this
  · rintro rfl; rfl
theorem data_sb (s : List UInt8) : (sb s).data.toList = s := rfl

/-- An operation's cells, an event's. -/
def opl (e : Ev) : List Value := [.int .i64 e.kind, .string (sb e.key), .string (sb e.field), .string (sb e.value), .int .i64 e.num, .int .i64 e.rr, .int .i64 e.rn]
def opc (e : Ev) : Array Value := (opl e).toArray
def evl (e : Ev) : List Value := [.int .i64 e.r, .int .i64 e.n, .int .i64 e.t] ++ (e.deps.map (Value.int .i64) ++ opl e)
def evc (e : Ev) : Array Value := (evl e).toArray
theorem evl_length (e : Ev) (h : e.deps.length = 16) : (evl e).length = 26 := by simp [evl, opl, h]
theorem evc_size (e : Ev) (h : e.deps.length = 16) : (evc e).size = 26 := by simp [evc, evl_length e h]
theorem evc_one (e : Ev) : (evc e).all (·.oneCell') = true := by
  simp [evc, evl, opl, Value.oneCell']
theorem opc_one (e : Ev) : (opc e).all (·.oneCell') = true := by
  simp [opc, opl, Value.oneCell']

/-- An event, an operation lies in a block. -/
def LiesE (w : World) (g : Nat) (e : Ev) : Prop := w.heap[g]? = some (.cells (evc e) 47 (0, 0))
def LiesO (w : World) (g : Nat) (e : Ev) : Prop := w.heap[g]? = some (.cells (opc e) 34 (0, 0))
theorem LiesE.below {B g : Nat} {w w' : World} {e : Ev} (h : LiesE w g e) (hb : Below B w w') (hg : g < B) : LiesE w' g e := by
  rw [LiesE, hb.block g hg]; exact h
theorem LiesO.below {B g : Nat} {w w' : World} {e : Ev} (h : LiesO w g e) (hb : Below B w w') (hg : g < B) : LiesO w' g e := by
  rw [LiesO, hb.block g hg]; exact h
theorem LiesE.lt {w : World} {g : Nat} {e : Ev} (h : LiesE w g e) : g < w.heap.size := by
  rw [LiesE] at h
  exact (Array.getElem?_eq_some_iff.1 h).1
theorem LiesO.lt {w : World} {g : Nat} {e : Ev} (h : LiesO w g e) : g < w.heap.size := by
  rw [LiesO] at h
  exact (Array.getElem?_eq_some_iff.1 h).1
theorem LiesE.alloc {w : World} {g : Nat} {e : Ev} (h : LiesE w g e) (o : Obj) : LiesE (w.alloc o) g e := by
  rw [LiesE, Below.heap_alloc w o g h.lt]; exact h
theorem LiesO.alloc {w : World} {g : Nat} {e : Ev} (h : LiesO w g e) (o : Obj) : LiesO (w.alloc o) g e := by
  rw [LiesO, Below.heap_alloc w o g h.lt]; exact h
theorem liesE_new (w : World) (e : Ev) : LiesE (w.alloc (.cells (evc e) 47)) w.heap.size e := heap_alloc_new w _
theorem liesO_new (w : World) (e : Ev) : LiesO (w.alloc (.cells (opc e) 34)) w.heap.size e := heap_alloc_new w _
theorem LiesE.frozen {w : World} {g k : Nat} {e : Ev} (h : LiesE w g e) : w.frozen? ⟨g, k, none⟩ = false := frozen_of_row w g k _ _ h
theorem LiesO.frozen {w : World} {g k : Nat} {e : Ev} (h : LiesO w g e) : w.frozen? ⟨g, k, none⟩ = false := frozen_of_row w g k _ _ h
theorem LiesE.row {w : World} {g : Nat} {e' : Ev} (h : LiesE w g e') (e : Ev) : LiesE (w.setRow g (evc e)) g e := setRow_heap w g _ _ _ _ h
theorem LiesO.row {w : World} {g : Nat} {e' : Ev} (h : LiesO w g e') (e : Ev) : LiesO (w.setRow g (opc e)) g e := setRow_heap w g _ _ _ _ h
theorem LiesE.rowOther {w : World} {g k : Nat} {e : Ev} (h : LiesE w k e) (cs : Array Value) (hk : k ≠ g) : LiesE (w.setRow g cs) k e := by
  rw [LiesE, setRow_other w g k cs hk]; exact h
theorem LiesO.rowOther {w : World} {g k : Nat} {e : Ev} (h : LiesO w k e) (cs : Array Value) (hk : k ≠ g) : LiesO (w.setRow g cs) k e := by
  rw [LiesO, setRow_other w g k cs hk]; exact h
theorem LiesE.drewN {w : World} {g : Nat} {e : Ev} (h : LiesE w g e) (n : Nat) : LiesE (w.drewN n) g e := h
theorem LiesO.drewN {w : World} {g : Nat} {e : Ev} (h : LiesO w g e) (n : Nat) : LiesO (w.drewN n) g e := h

/-- The parts of an event's cells. -/
theorem evc_get {e : Ev} (k : Nat) : (evc e)[k]? = (evl e)[k]? := by simp [evc]
theorem evl_hi {e : Ev} (h : e.deps.length = 16) (j : Nat) : (evl e)[19 + j]? = (opl e)[j]? := by
  rw [evl, List.getElem?_append_right (by simp; omega), List.getElem?_append_right (by simp [h]; omega)]
  simp [h]
  congr 1
  omega
theorem evl_mid {e : Ev} (h : e.deps.length = 16) (j : Nat) (hj : j < 16) : (evl e)[3 + j]? = some (.int .i64 (e.deps.getD j 0)) := by
  have hj' : j < e.deps.length := by omega
  rw [evl, List.getElem?_append_right (by simp), List.getElem?_append_left (by simp; omega)]
  simp [List.getD, hj']
theorem LiesE.c0 {w : World} {g : Nat} {e : Ev} (h : LiesE w g e) : w.cell? ⟨g, 0, none⟩ = some (.int .i64 e.r) := by rw [cell_of_row w g 0 _ _ _ h]; rfl
theorem LiesE.c1 {w : World} {g : Nat} {e : Ev} (h : LiesE w g e) : w.cell? ⟨g, 1, none⟩ = some (.int .i64 e.n) := by rw [cell_of_row w g 1 _ _ _ h]; rfl
theorem LiesE.c2 {w : World} {g : Nat} {e : Ev} (h : LiesE w g e) : w.cell? ⟨g, 2, none⟩ = some (.int .i64 e.t) := by rw [cell_of_row w g 2 _ _ _ h]; rfl
theorem LiesE.cd {w : World} {g : Nat} {e : Ev} (h : LiesE w g e) (hl : e.deps.length = 16) {j : Nat} (hj : j < 16) : w.cell? ⟨g, 3 + j, none⟩ = some (.int .i64 (e.deps.getD j 0)) := by
  rw [cell_of_row w g (3 + j) _ _ _ h, evc_get, evl_mid hl j hj]
theorem LiesE.co {w : World} {g : Nat} {e : Ev} (h : LiesE w g e) (hl : e.deps.length = 16) (j : Nat) : w.cell? ⟨g, 19 + j, none⟩ = (opl e)[j]? := by
  rw [cell_of_row w g (19 + j) _ _ _ h, evc_get, evl_hi hl]
theorem LiesE.c19 {w : World} {g : Nat} {e : Ev} (h : LiesE w g e) (hl : e.deps.length = 16) : w.cell? ⟨g, 19, none⟩ = some (.int .i64 e.kind) := h.co hl 0
theorem LiesO.co {w : World} {g : Nat} {e : Ev} (h : LiesO w g e) (j : Nat) : w.cell? ⟨g, j, none⟩ = (opl e)[j]? := by
  rw [cell_of_row w g j _ _ _ h, opc, List.getElem?_toArray]
theorem LiesO.c0 {w : World} {g : Nat} {e : Ev} (h : LiesO w g e) : w.cell? ⟨g, 0, none⟩ = some (.int .i64 e.kind) := h.co 0
theorem LiesO.c1 {w : World} {g : Nat} {e : Ev} (h : LiesO w g e) : w.cell? ⟨g, 1, none⟩ = some (.string (sb e.key)) := h.co 1
theorem LiesO.c2 {w : World} {g : Nat} {e : Ev} (h : LiesO w g e) : w.cell? ⟨g, 2, none⟩ = some (.string (sb e.field)) := h.co 2
theorem LiesO.c3 {w : World} {g : Nat} {e : Ev} (h : LiesO w g e) : w.cell? ⟨g, 3, none⟩ = some (.string (sb e.value)) := h.co 3
theorem LiesO.c4 {w : World} {g : Nat} {e : Ev} (h : LiesO w g e) : w.cell? ⟨g, 4, none⟩ = some (.int .i64 e.num) := h.co 4

/-- Parts, as ranges. -/
theorem LiesE.dot {w : World} {g : Nat} {e : Ev} (h : LiesE w g e) : w.rangeAt g 0 (dotc e.r e.n).toList := fun j v hv => by
  match j, hv with
  | 0, hv => obtain rfl := Option.some.inj hv; exact h.c0
  | 1, hv => obtain rfl := Option.some.inj hv; exact h.c1
theorem LiesE.deps {w : World} {g : Nat} {e : Ev} (h : LiesE w g e) (hl : e.deps.length = 16) : w.rangeAt g 3 (vals e.deps).toList := fun j v hv => by
  have hj : j < e.deps.length := by
    have := (List.getElem?_eq_some_iff.1 hv).1
    simpa [vals] using this
  rw [h.cd hl (by omega), ← hv]
  simp [vals, List.getD, hj]
theorem LiesE.op {w : World} {g : Nat} {e : Ev} (h : LiesE w g e) (hl : e.deps.length = 16) : w.rangeAt g 19 (opc e).toList := fun j v hv => by
  rw [h.co hl j]; exact hv
theorem LiesE.ref {w : World} {g : Nat} {e : Ev} (h : LiesE w g e) (hl : e.deps.length = 16) : w.rangeAt g 24 (dotc e.rr e.rn).toList := fun j v hv => by
  match j, hv with
  | 0, hv => obtain rfl := Option.some.inj hv; exact h.co hl 5
  | 1, hv => obtain rfl := Option.some.inj hv; exact h.co hl 6
theorem LiesO.ref {w : World} {g : Nat} {e : Ev} (h : LiesO w g e) : w.rangeAt g 5 (dotc e.rr e.rn).toList := fun j v hv => by
  match j, hv with
  | 0, hv => obtain rfl := Option.some.inj hv; exact h.co 5
  | 1, hv => obtain rfl := Option.some.inj hv; exact h.co 6

theorem size26 (e : Ev) (h : e.deps.length = 16) : (Tryz.prog.info? 47).map (·.size) = some (evc e).size := by
  rw [evc_size e h]
  kernel_rfl
theorem size7 (e : Ev) : (Tryz.prog.info? 34).map (·.size) = some (opc e).size := by
  show _ = some 7
  kernel_rfl

section
variable {ops : Array Oper} {rest : List Oper} {o : Oper} {a : Act} {w : World} {Q : Exit → Act → World → Prop} {x y : Operand} {g k : Nat} {e e' : Ev}
/-- A whole event, operation is read. -/
theorem load_ev (hw : Region.wanted o (yielded ops a.tmps) = true) (ho : o.op = .load 47 x) (hx : a.eval x = .pointer (some ⟨g, 0, none⟩)) (hg : LiesE w g e) (hl : e.deps.length = 16)
    (h : wpList Tryz.prog ops Q rest (a.put o.dst (.agg (evc e))) w) : wpList Tryz.prog ops Q (o :: rest) a w :=
  wpList_step fun K hK => by
    rw [if_pos hw]
    exact wp_load_row 47 x ho g hx 47 _ (0, 0) _ hg Tryz.underlying47 rfl (size26 e hl) (hK _ _ h)
theorem load_op (hw : Region.wanted o (yielded ops a.tmps) = true) (ho : o.op = .load 34 x) (hx : a.eval x = .pointer (some ⟨g, 0, none⟩)) (hg : LiesO w g e)
    (h : wpList Tryz.prog ops Q rest (a.put o.dst (.agg (opc e))) w) : wpList Tryz.prog ops Q (o :: rest) a w :=
  wpList_step fun K hK => by
    rw [if_pos hw]
    exact wp_load_row 34 x ho g hx 34 _ (0, 0) _ hg Tryz.underlying34 rfl (size7 e) (hK _ _ h)
/-- A part of one is read. -/
theorem load_op_at (hw : Region.wanted o (yielded ops a.tmps) = true) (ho : o.op = .load 34 x) (hx : a.eval x = .pointer (some ⟨g, k, none⟩)) (hg : w.rangeAt g k (opc e).toList)
    (h : wpList Tryz.prog ops Q rest (a.put o.dst (.agg (opc e))) w) : wpList Tryz.prog ops Q (o :: rest) a w :=
  wpList_step fun K hK => by
    rw [if_pos hw]
    exact wp_load_mid 34 x ho g k hx (opc e).toList _ hg Tryz.underlying34 rfl (size7 e) (hK _ _ h)
theorem load_vec_at {l : List Int} (hw : Region.wanted o (yielded ops a.tmps) = true) (ho : o.op = .load 41 x) (hx : a.eval x = .pointer (some ⟨g, k, none⟩)) (hg : w.rangeAt g k (vals l).toList) (hl : l.length = 16)
    (h : wpList Tryz.prog ops Q rest (a.put o.dst (.agg (vals l))) w) : wpList Tryz.prog ops Q (o :: rest) a w :=
  wpList_step fun K hK => by
    rw [if_pos hw]
    exact wp_load_mid 41 x ho g k hx (vals l).toList _ hg Tryz.underlying41 rfl (size16 l hl) (hK _ _ h)
theorem load_dot_at {r n : Int} (hw : Region.wanted o (yielded ops a.tmps) = true) (ho : o.op = .load 32 x) (hx : a.eval x = .pointer (some ⟨g, k, none⟩)) (hg : w.rangeAt g k (dotc r n).toList)
    (h : wpList Tryz.prog ops Q rest (a.put o.dst (.agg (dotc r n))) w) : wpList Tryz.prog ops Q (o :: rest) a w :=
  wpList_step fun K hK => by
    rw [if_pos hw]
    exact wp_load_mid 32 x ho g k hx (dotc r n).toList _ hg Tryz.underlying32 rfl (sizeD r n) (hK _ _ h)
/-- A whole event, operation is laid. -/
theorem store_ev (hgd : o.guard = none) (ho : o.op = .store 47 x y) (hx : a.eval x = .pointer (some ⟨g, 0, none⟩)) (hy : a.eval y = .agg (evc e)) (hg : LiesE w g e') (hl : e.deps.length = 16) (hl' : e'.deps.length = 16)
    (h : wpList Tryz.prog ops Q rest (a.put o.dst undef) (w.setRow g (evc e))) : wpList Tryz.prog ops Q (o :: rest) a w :=
  wpList_store_row hgd 47 x y ho g (evc e) hx hy 47 _ hg (size26 e hl) (by rw [evc_size e hl, evc_size e' hl']) (evc_one e) h
theorem store_op (hgd : o.guard = none) (ho : o.op = .store 34 x y) (hx : a.eval x = .pointer (some ⟨g, 0, none⟩)) (hy : a.eval y = .agg (opc e)) (hg : LiesO w g e')
    (h : wpList Tryz.prog ops Q rest (a.put o.dst undef) (w.setRow g (opc e))) : wpList Tryz.prog ops Q (o :: rest) a w :=
  wpList_store_row hgd 34 x y ho g (opc e) hx hy 34 _ hg (size7 e) rfl (opc_one e) h
end

/-- Later. -/
def laterE (b a : Ev) : Bool := if b.t ≠ a.t then decide (a.t < b.t) else if b.r ≠ a.r then decide (a.r < b.r) else decide (a.n < b.n)

theorem boxedEE (w : World) (b a : Ev) :
    LiesE ((w.alloc (.cells (evc b) 47)).alloc (.cells (evc a) 47)) w.heap.size b ∧
    LiesE ((w.alloc (.cells (evc b) 47)).alloc (.cells (evc a) 47)) (w.heap.size + 1) a ∧
    Below w.heap.size w ((w.alloc (.cells (evc b) 47)).alloc (.cells (evc a) 47)) := by
  refine ⟨(liesE_new w b).alloc _, ?_, ((Below.refl _ _).alloc (Nat.le_refl _) _).alloc (by simp) _⟩
  have := liesE_new (w.alloc (.cells (evc b) 47)) a
  simpa using this

end Go.Proofs.YtmlfekbmbnfkjabGreatDoor

/-
  Whether a kind adds, whether an event covers another one, which one is later: the program's answers and the reference's.
-/
namespace Go.Proofs.YtmlfekbmbnfkjabGreatDoor
set_option maxRecDepth 100000
set_option maxRecDepth 100000
open Go.RowKit

def coversE (b a : Ev) : Bool := hasv b.deps a.r a.n
set_option maxHeartbeats 400000 in
theorem adds_any (k : Int) (w : World) : Calls Tryz.prog 36 #[.int .i64 k] w fun e w' => e = .returned (.bool (addsE k)) ∧ w' = w := by
  go_enter Tryz.func36, Tryz.ntmps36
  go_wp2
  all_goals
    go_ret
    refine ⟨congrArg (fun b => Ending.returned (.bool b)) (?_ : _ = addsE k), rfl⟩
    simp only [beq_iff_eq, beq_eq_false_iff_ne, ne_eq] at *
    unfold addsE
    first
    | exact (decide_eq_true (by omega)).symm
    | exact (decide_eq_false (by omega)).symm
set_option maxHeartbeats 400000 in
theorem covers_any (b a : Ev) (hl : b.deps.length = 16) (w : World) : Calls Tryz.prog 100 #[.agg (evc b), .agg (evc a)] w fun e w' => e = .returned (.bool (coversE b a)) ∧ Below w.heap.size w w' := by
  obtain ⟨hb, ha, hB⟩ := boxedEE w b a
  have HB : Hid (Below w.heap.size w ((w.alloc (.cells (evc b) 47)).alloc (.cells (evc a) 47))) := hB
  clear hB
  have hd := hb.deps hl
  have hr := ha.dot
  clear hb ha
  go_enter Tryz.func100, Tryz.ntmps100
  go_wp2_with (first | refine load_vec_at rfl rfl rfl hd hl ?_ | refine load_dot_at rfl rfl rfl hr ?_)
  refine (has_any b.deps a.r a.n hl _).mono ?_
  rintro e w1 ⟨rfl, hb1⟩
  clear hd hr
  go_wp2
  go_ret
  exact ⟨rfl, HB.out.trans (hb1.mono HB.out.size)⟩
theorem later_iff (b a : Ev) : laterE b a = true ↔ a.t < b.t ∨ (a.t = b.t ∧ (a.r < b.r ∨ (a.r = b.r ∧ a.n < b.n))) := by
  unfold laterE
  split
  · rw [decide_eq_true_iff]; omega
  · split <;> rw [decide_eq_true_iff] <;> omega
theorem later_both {a b : Ev} (h1 : laterE b a = true) (h2 : laterE a b = true) : False := by
  rw [later_iff] at *; omega
end Go.Proofs.YtmlfekbmbnfkjabGreatDoor

/-
  Two operations, two events compared.
-/
namespace Go.Proofs.YtmlfekbmbnfkjabGreatDoor
set_option maxRecDepth 100000
open Go.RowKit

/-- A struct's fields, by name, type and offset, and whether each is the same. -/
def FieldsEq (P : Program) (w : World) (d : Nat) (xs ys : Array Value) : List (String × TypeId × Nat) → List Bool → Prop
  | [], [] => True
  | t :: ts, b :: bs => t.1 ≠ "_" ∧ (∃ x y, (part t.2.1 xs t.2.2).run P w = .ok x w ∧ (part t.2.1 ys t.2.2).run P w = .ok y w ∧ (Op.equalIn d t.2.1 x y).run P w = .ok b w) ∧ FieldsEq P w d xs ys ts bs
  | _, _ => False

theorem run_eqFields {P : Program} {w : World} {d : Nat} {xs ys : Array Value} : ∀ {fs : List Field} {ts : List (String × TypeId × Nat)} {bs : List Bool}, fs.map (fun f => (f.name, f.type, f.offset)) = ts → FieldsEq P w d xs ys ts bs →
    (Op.eqFields d xs ys fs).run P w = .ok (bs.all id) w
  | [], [], [], _, _ => by simp [Op.eqFields]
  | [], [], _ :: _, _, h => h.elim
  | [], _ :: _, _, h, _ => by simp at h
  | _ :: _, [], _, h, _ => by simp at h
  | _ :: _, _ :: _, [], _, h => h.elim
  | f :: fs, t :: ts, b :: bs, h, ⟨h1, ⟨x, y, h2, h3, h4⟩, h5⟩ => by
    simp only [List.map_cons, List.cons.injEq] at h
    obtain ⟨rfl, h⟩ := h
    have ih := run_eqFields h h5
    simp only at h1 h2 h3 h4
    simp only [Op.eqFields, ne_eq, h1, not_false_eq_true, if_true, Sem.run_bind, h2, h3, h4, Result.andThen_ok]
    cases b
    · simp
    · simp [ih]

section
variable (w : World) (d : Nat)
theorem part_int {cs : Array Value} {k : Nat} {v : Value} (h : cs[k]? = some v) : (part 3 cs k).run Tryz.prog w = .ok v w := by
  have h3 : Tryz.prog.underlying 3 = some (.int .i64) := by kernel_rfl
  simp [part, isAgg, run_underlying h3, Sem.run_bind, h]
theorem part_str {cs : Array Value} {k : Nat} {v : Value} (h : cs[k]? = some v) : (part 9 cs k).run Tryz.prog w = .ok v w := by
  have h3 : Tryz.prog.underlying 9 = some .string := by kernel_rfl
  simp [part, isAgg, run_underlying h3, Sem.run_bind, h]
theorem part_dot {cs ds : Array Value} {k : Nat} (h : cs.extract k (k + 2) = ds) : (part 32 cs k).run Tryz.prog w = .ok (.agg ds) w := by
  have ha : (isAgg 32).run Tryz.prog w = .ok true w := by kernel_rfl
  simp [part, Sem.run_bind, ha, h]
theorem equal_int (a b : Int) : (Op.equalIn (d + 1) 3 (.int .i64 a) (.int .i64 b)).run Tryz.prog w = .ok (decide (a = b)) w := by
  have h3 : Tryz.prog.underlying 3 = some (.int .i64) := by kernel_rfl
  rw [run_equalIn_int w d 3 .i64 .i64 a b h3]
  rfl
theorem equal_str (a b : List UInt8) : (Op.equalIn (d + 1) 9 (.string (sb a)) (.string (sb b))).run Tryz.prog w = .ok (decide (a = b)) w := by
  have h3 : Tryz.prog.underlying 9 = some .string := by kernel_rfl
  rw [run_equalIn_string w d 9 _ _ h3, ByteArray.toList_eq, ByteArray.toList_eq, data_sb, data_sb]
  congr 1
  rw [Bool.eq_iff_iff]
  simp
end

/-- Are the operations, the events the same? -/
def sameO (e f : Ev) : Bool := [decide (e.kind = f.kind), decide (e.key = f.key), decide (e.field = f.field), decide (e.value = f.value), decide (e.num = f.num), decide (e.rr = f.rr ∧ e.rn = f.rn)].all id
theorem run_equalIn_op (w : World) (d : Nat) (e f : Ev) : (Op.equalIn (d + 3) 34 (.agg (opc e)) (.agg (opc f))).run Tryz.prog w = .ok (sameO e f) w := by
  rw [run_equalIn_struct w (d + 2) 34 _ _ (by kernel_rfl) (by kernel_rfl)]
  have hm : (Tryz.prog.fieldsOf 34).toList.map (fun f => (f.name, f.type, f.offset)) = [("Kind", 3, 0), ("Key", 9, 1), ("Field", 9, 2), ("Value", 9, 3), ("Num", 3, 4), ("Ref", 32, 5)] := by kernel_rfl
  refine run_eqFields hm ⟨by decide, ⟨_, _, part_int w rfl, part_int w rfl, equal_int w _ _ _⟩, by decide, ⟨_, _, part_str w rfl, part_str w rfl, equal_str w _ _ _⟩, by decide, ⟨_, _, part_str w rfl, part_str w rfl, equal_str w _ _ _⟩,
    by decide, ⟨_, _, part_str w rfl, part_str w rfl, equal_str w _ _ _⟩, by decide, ⟨_, _, part_int w rfl, part_int w rfl, equal_int w _ _ _⟩, by decide, ⟨_, _, part_dot w (ds := dotc e.rr e.rn) rfl, part_dot w (ds := dotc f.rr f.rn) rfl, run_equalIn_dot w _ _ _ _ _⟩, trivial⟩

theorem run_eql_op (w : World) (e f : Ev) : (binOp .eql 34 (.agg (opc e)) (.agg (opc f))).run Tryz.prog w = .ok (.bool (sameO e f)) w := by
  rw [run_eql_struct, run_equalIn_op w 9997, Result.andThen_ok]
theorem plain_op : Tryz.prog.eqGuardType Tryz.prog.depth 34 = false := by kernel_rfl
end Go.Proofs.YtmlfekbmbnfkjabGreatDoor

/-
  Things of many cells under dots.
-/
namespace Go.Proofs.YtmlfekbmbnfkjabGreatDoor
set_option maxRecDepth 100000
open Go.RowKit

/-- A thing's cells. -/
structure Cx (k : Nat) where
  l : List Value
  len : l.length = k
  one : ∀ u ∈ l, u.oneCell' = true
theorem Cx.same {k : Nat} {a b : Cx k} (h : a.l = b.l) : a = b := by
  cases a; cases b; cases h; rfl
/-- An item's cells. -/
def xl {k : Nat} (i : It (Cx k)) : List Value := .int .i64 i.r :: .int .i64 i.n :: i.x.l
def xc {k : Nat} (i : It (Cx k)) : Array Value := (xl i).toArray
theorem xl_length {k : Nat} (i : It (Cx k)) : (xl i).length = k + 2 := by simp [xl, i.x.len]
theorem xc_size {k : Nat} (i : It (Cx k)) : (xc i).size = k + 2 := by rw [xc, List.size_toArray, xl_length]
theorem xl_one {k : Nat} (i : It (Cx k)) : ∀ u ∈ xl i, u.oneCell' = true := by
  intro u hu
  simp only [xl, List.mem_cons] at hu
  rcases hu with rfl | rfl | hu
  · rfl
  · rfl
  · exact i.x.one u hu
theorem xc_one {k : Nat} (i : It (Cx k)) : (xc i).all (·.oneCell') = true := by
  rw [Array.all_eq_true_iff_forall_mem]
  exact fun u hu => xl_one i u (by simpa [xc] using hu)
/-- The cells of many. -/
def xs {k : Nat} (S : List (It (Cx k))) : List Value := S.flatMap xl
theorem xs_cons {k : Nat} (i : It (Cx k)) (S : List (It (Cx k))) : xs (i :: S) = xl i ++ xs S := by simp [xs]
theorem xs_length {k : Nat} : ∀ S : List (It (Cx k)), (xs S).length = S.length * (k + 2)
  | [] => by simp [xs]
  | i :: S => by
    rw [xs_cons, List.length_append, xs_length S, xl_length, List.length_cons, Nat.succ_mul]; omega
theorem xs_append {k : Nat} (S T : List (It (Cx k))) : xs (S ++ T) = xs S ++ xs T := by simp [xs]
theorem xs_one {k : Nat} (S : List (It (Cx k))) : ∀ u ∈ xs S, u.oneCell' = true := by
  intro u hu
  obtain ⟨i, -, h⟩ := List.mem_flatMap.1 hu
  exact xl_one i u h
theorem xs_at {k : Nat} : ∀ {S : List (It (Cx k))} (p : Nat) (i : It (Cx k)), S[p]? = some i → ∀ (j : Nat) (v : Value), (xl i)[j]? = some v → (xs S)[p * (k + 2) + j]? = some v
  | [], p, i, hi, j, v, hv => by simp at hi
  | x :: S, p, i, hi, j, v, hv => by
    cases p with
    | zero =>
      have : x = i := by simpa using hi
      subst this
      have hj : j < k + 2 := by have := (List.getElem?_eq_some_iff.1 hv).1; rw [xl_length] at this; exact this
      rw [xs_cons, Nat.zero_mul, Nat.zero_add, List.getElem?_append_left (by rw [xl_length]; omega)]
      exact hv
    | succ p =>
      rw [xs_cons, List.getElem?_append_right (by rw [xl_length, Nat.succ_mul]; omega), xl_length, show (p + 1) * (k + 2) + j - (k + 2) = p * (k + 2) + j by rw [Nat.succ_mul]; omega]
      exact xs_at p i (by simpa using hi) j v hv
theorem xs_set {k : Nat} : ∀ (S : List (It (Cx k))) (p : Nat) (i : It (Cx k)), p < S.length → xs (S.set p i) = (xs S).take (p * (k + 2)) ++ (xl i ++ (xs S).drop ((p + 1) * (k + 2)))
  | [], p, i, h => by simp at h
  | a :: S, 0, i, h => by
    have hl := xl_length a
    rw [List.set_cons_zero, xs_cons, xs_cons, Nat.zero_mul, List.take_zero, List.nil_append, Nat.zero_add, Nat.one_mul, ← hl, List.drop_left]
  | a :: S, p + 1, i, h => by
    have ih := xs_set S p i (by simpa using h)
    have hl := xl_length a
    have e1 : (p + 1) * (k + 2) = (xl a).length + p * (k + 2) := by rw [hl, Nat.succ_mul]; omega
    have e2 : (p + 1 + 1) * (k + 2) = (xl a).length + (p + 1) * (k + 2) := by rw [hl, Nat.succ_mul (p + 1)]; omega
    have t1 : (xl a ++ xs S).take ((p + 1) * (k + 2)) = xl a ++ (xs S).take (p * (k + 2)) := by rw [e1, List.take_length_add_append]
    rw [List.set_cons_succ, xs_cons, xs_cons, ih, t1, e2, List.drop_length_add_append, List.append_assoc]
theorem take_mid {C X : List Value} {p q N : Nat} (hN : N ≤ C.length) (hp : p + q ≤ N) (hX : X.length = q) : (C.take p ++ X ++ C.drop (p + q)).take N = (C.take N).take p ++ (X ++ (C.take N).drop (p + q)) := by
  have h1 : (C.take p ++ X).length = p + q := by rw [List.length_append, List.length_take, hX]; omega
  rw [List.take_append, List.take_of_length_le (by omega), h1, List.drop_take, List.take_take, Nat.min_eq_left (by omega), List.append_assoc]
/-- What a call may have turned: a block and a map; the map is then the old one, or a new one. -/
structure Tn (g : Nat) (m m' : Option Nat) (w w' : World) : Prop where
  os : w'.os = w.os
  tape : w'.tape = w.tape
  output : w'.output = w.output
  size : w.heap.size ≤ w'.heap.size
  block : ∀ k, k < w.heap.size → k ≠ g → m ≠ some k → w'.heap[k]? = w.heap[k]?
  own : ∀ k, m' = some k → m = some k ∨ w.heap.size ≤ k
theorem Tn.refl (g : Nat) (m : Option Nat) (w : World) : Tn g m m w w := ⟨rfl, rfl, rfl, Nat.le_refl _, fun _ _ _ _ => rfl, fun _ h => .inl h⟩
theorem Tn.trans {g : Nat} {m m' m'' : Option Nat} {a b c : World} (h : Tn g m m' a b) (k : Tn g m' m'' b c) : Tn g m m'' a c :=
  ⟨k.os.trans h.os, k.tape.trans h.tape, k.output.trans h.output, Nat.le_trans h.size k.size,
   fun i hi hg hv => (k.block i (Nat.lt_of_lt_of_le hi h.size) hg (fun e => by rcases h.own i e with h1 | h1; · exact hv h1
                                                                               · omega)).trans (h.block i hi hg hv),
   fun i hi => by
    rcases k.own i hi with h1 | h1
    · exact h.own i h1
    · exact .inr (Nat.le_trans h.size h1)⟩
theorem Tn.of_below {g : Nat} (m : Option Nat) {w w' : World} (h : Below w.heap.size w w') : Tn g m m w w' :=
  ⟨h.os, h.tape, h.output, h.size, fun k hk _ _ => h.block k hk, fun _ e => .inl e⟩
theorem Tn.below {g B : Nat} {m m' : Option Nat} {w w' : World} (h : Tn g m m' w w') (hB : B ≤ w.heap.size) (hg : B ≤ g) (hv : ∀ k, m = some k → B ≤ k) : Below B w w' :=
  ⟨h.os, h.tape, h.output, h.size, fun k hk => h.block k (by omega) (by omega) (fun e => by have := hv k e; omega)⟩
/-- Blocks of cells are as they were, but for those of one type. -/
def Kpc (th : TypeId) (W w' : World) : Prop := W.heap.size ≤ w'.heap.size ∧ ∀ (k : Nat) (cur : Array Value) (t : TypeId), t ≠ th → W.heap[k]? = some (.cells cur t (0, 0)) → w'.heap[k]? = W.heap[k]?
theorem Kpc.trans {th : TypeId} {a b c : World} (h : Kpc th a b) (k : Kpc th b c) : Kpc th a c :=
  ⟨Nat.le_trans h.1 k.1, fun i cur t ht hi => (k.2 i cur t ht ((h.2 i cur t ht hi).trans hi)).trans (h.2 i cur t ht hi)⟩
theorem Kpc.of_below {th : TypeId} {a b : World} (h : Below a.heap.size a b) : Kpc th a b :=
  ⟨h.size, fun k _ _ _ hk => h.block k (Array.getElem?_eq_some_iff.1 hk).1⟩
theorem grown_of_below {a b : World} (h : Below a.heap.size a b) : a.grownBy b none := ⟨h.os, h.tape, h.output, h.size, fun k hk _ => h.block k hk⟩
end Go.Proofs.YtmlfekbmbnfkjabGreatDoor

