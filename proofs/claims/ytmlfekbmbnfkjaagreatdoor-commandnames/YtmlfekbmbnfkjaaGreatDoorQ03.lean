/-
  Vectors as lists of sixteen numbers: how they lie in memory; an element of one read; two of them compared.
-/
import Derived.Test.YtmlfekbmbnfkjaaGreatDoorProg
import Derived.Laws.StructEq
import Derived.Laws.Rows
import Derived.Laws.ResultCell
import Derived.WalkKit
namespace Go.Proofs.YtmlfekbmbnfkjaaGreatDoor
set_option maxRecDepth 100000
open Go.RowKit

/-- The cells of a vector. -/
def vals (l : List Int) : Array Value := (l.map (Value.int .i64)).toArray
theorem vals_size (l : List Int) : (vals l).size = l.length := by simp [vals]
theorem vals_get (l : List Int) (k : Nat) (h : k < l.length) : (vals l)[k]? = some (.int .i64 (l.getD k 0)) := by
  simp [vals, List.getD, h]
theorem vals_set (l : List Int) (k : Nat) (x : Int) : (vals l).setIfInBounds k (.int .i64 x) = vals (l.set k x) := by
  simp [vals, List.map_set]
theorem vals_inj (l m : List Int) (h : vals l = vals m) : l = m := by
  have := congrArg Array.toList h
  simp only [vals, List.toList_toArray] at this
  exact List.map_inj_right (fun x y e => by injection e) |>.1 this
theorem vals_one (l : List Int) : (vals l).all (·.oneCell') = true := by
  simp [vals, Value.oneCell']

/-- A vector lies in a block. -/
def Lies (w : World) (g : Nat) (l : List Int) : Prop := w.heap[g]? = some (.cells (vals l) 58 (0, 0))
theorem Lies.below {B g : Nat} {w w' : World} {l : List Int} (h : Lies w g l) (hb : Below B w w') (hg : g < B) : Lies w' g l := by
  rw [Lies, hb.block g hg]; exact h
theorem Lies.lt {w : World} {g : Nat} {l : List Int} (h : Lies w g l) : g < w.heap.size := by
  rw [Lies] at h
  exact (Array.getElem?_eq_some_iff.1 h).1
theorem Lies.cell {w : World} {g k : Nat} {l : List Int} (h : Lies w g l) (hk : k < l.length) : w.cell? ⟨g, k, none⟩ = some (.int .i64 (l.getD k 0)) := by
  rw [cell_of_row w g k _ _ _ h, vals_get l k hk]
theorem Lies.frozen {w : World} {g k : Nat} {l : List Int} (h : Lies w g l) : w.frozen? ⟨g, k, none⟩ = false := frozen_of_row w g k _ _ h
theorem Lies.set {w : World} {g k : Nat} {l : List Int} (h : Lies w g l) (x : Int) : Lies (w.setCell ⟨g, k, none⟩ (.int .i64 x)) g (l.set k x) := by
  rw [Lies, heap_setCell_same w g k _ _ _ h, vals_set]
theorem Lies.other {w : World} {g : Nat} {ad : Addr} {l : List Int} (h : Lies w g l) (v : Value) (hg : g ≠ ad.block) : Lies (w.setCell ad v) g l := by
  rw [Lies, heap_setCell_other w ad g v hg]; exact h
theorem Lies.alloc {w : World} {g : Nat} {l : List Int} (h : Lies w g l) (o : Obj) : Lies (w.alloc o) g l := by
  rw [Lies, Below.heap_alloc w o g h.lt]; exact h
theorem Lies.drew {w : World} {g : Nat} {l : List Int} (h : Lies w g l) : Lies w.drew g l := h
theorem lies_new (w : World) (l : List Int) : Lies (w.alloc (.cells (vals l) 58)) w.heap.size l := heap_alloc_new w _

theorem size16 (l : List Int) (h : l.length = 16) : (Tryz.prog.info? 58).map (·.size) = some (vals l).size := by
  rw [vals_size, h]
  kernel_rfl

/-- A whole vector is read. -/
theorem load_vec {ops : Array Oper} {rest : List Oper} {o : Oper} {a : Act} {w : World} {Q : Exit → Act → World → Prop} {x : Operand} {g : Nat} {l : List Int} (hgd : o.guard = none) (ho : o.op = .load 58 x)
    (hx : a.eval x = .pointer (some ⟨g, 0, none⟩)) (hg : Lies w g l) (hl : l.length = 16)
    (h : wpList Tryz.prog ops Q rest (a.put o.dst (.agg (vals l))) w) : wpList Tryz.prog ops Q (o :: rest) a w :=
  wpList_load_row hgd 58 x ho g hx 58 _ (0, 0) _ hg Tryz.underlying58 rfl (size16 l hl) h

/-- A whole vector is laid. -/
theorem store_vec {ops : Array Oper} {rest : List Oper} {o : Oper} {a : Act} {w : World} {Q : Exit → Act → World → Prop} {x y : Operand} {g : Nat} {l m : List Int} (hgd : o.guard = none) (ho : o.op = .store 58 x y)
    (hx : a.eval x = .pointer (some ⟨g, 0, none⟩)) (hy : a.eval y = .agg (vals l)) (hg : Lies w g m) (hl : l.length = 16) (hm : m.length = 16)
    (h : wpList Tryz.prog ops Q rest (a.put o.dst undef) (w.setRow g (vals l))) : wpList Tryz.prog ops Q (o :: rest) a w :=
  wpList_store_row hgd 58 x y ho g (vals l) hx hy 58 _ hg (size16 l hl) (by rw [vals_size, vals_size, hl, hm]) (vals_one l) h
theorem Lies.row {w : World} {g : Nat} {m : List Int} (h : Lies w g m) (l : List Int) : Lies (w.setRow g (vals l)) g l := setRow_heap w g _ _ _ _ h
theorem Lies.rowOther {w : World} {g k : Nat} {m : List Int} (h : Lies w k m) (cs : Array Value) (hk : k ≠ g) : Lies (w.setRow g cs) k m := by
  rw [Lies, setRow_other w g k cs hk]; exact h
theorem below_setRow {B g : Nat} {a w : World} (h : Below B a w) (hg : B ≤ g) (cs : Array Value) : Below B a (w.setRow g cs) :=
  h.trans ⟨rfl, rfl, rfl, by simp [World.setRow], fun k hk => setRow_other _ _ k _ (by omega)⟩

/-- An element of a vector that is no variable. -/
theorem run_index_vec (w : World) (l : List Int) (k : Nat) (hl : l.length = 16) (hk : k < 16) : (Instr.index 58 (.agg (vals l)) (.int .i64 (k : Int))).run Tryz.prog w = .ok (.int .i64 (l.getD k 0)) w := by
  have hu : Tryz.prog.underlying 58 = some (.array 16 3) := by kernel_rfl
  have h3 : Tryz.prog.underlying 3 = some (.int .i64) := by kernel_rfl
  have hs : (sizeOf 3).run Tryz.prog w = .ok 1 w := by kernel_rfl
  have hg := vals_get l k (by omega)
  simp [Instr.index, asIntOf, run_underlying hu, Sem.run_bind, hs, part, isAgg, run_underlying h3, hk, hg]

/-- The address of an element. -/
theorem run_indexAt_vec (w : World) (g k : Nat) (hk : k < 16) : (Instr.indexAt 58 (.pointer (some ⟨g, 0, none⟩)) (.int .i64 (k : Int))).run Tryz.prog w = .ok (.pointer (some ⟨g, k, none⟩)) w := by
  have hu : Tryz.prog.underlying 58 = some (.array 16 3) := by kernel_rfl
  have e : (⟨g, 0, none⟩ : Addr).add k = ⟨g, k, none⟩ := by unfold Addr.add; split <;> simp_all
  simp [Instr.indexAt, asIntOf, run_underlying hu, Sem.run_bind, Instr.sureAddr, hk, e]


theorem run_part_vec (w : World) (l : List Int) (k : Nat) (hl : l.length = 16) (hk : k < 16) : (part 3 (vals l) k).run Tryz.prog w = .ok (.int .i64 (l.getD k 0)) w := by
  have h3 : Tryz.prog.underlying 3 = some (.int .i64) := by kernel_rfl
  have hg := vals_get l k (by omega)
  simp [part, isAgg, run_underlying h3, Sem.run_bind, hg]

theorem run_same_vec (d : Nat) (a b : List Int) (la : a.length = 16) (lb : b.length = 16) (w : World) : ∀ is : List Nat, (∀ i ∈ is, i < 16) →
    Sem.run Tryz.prog (forIn is ((none : Option Bool), ()) fun i __s => do
            let __do_lift ← part 3 (vals a) (i * 1)
            let __do_lift_1 ← part 3 (vals b) (i * 1)
            let __do_lift ← Op.equalIn (d + 1) 3 __do_lift __do_lift_1
            if (!__do_lift) = true then pure (ForInStep.done (some false, ())) else pure (ForInStep.yield (none, ()))) w =
      .ok (if ∀ i ∈ is, a.getD i 0 = b.getD i 0 then ((none : Option Bool), ()) else (some false, ())) w
  | [], _ => by simp
  | i :: is, h => by
    have h3 : Tryz.prog.underlying 3 = some (.int .i64) := by kernel_rfl
    have hi := h i (by simp)
    rw [List.forIn_cons]
    simp only [Sem.run_bind, Nat.mul_one, run_part_vec w a i la hi, run_part_vec w b i lb hi, Result.andThen_ok, run_equalIn_int w d 3 .i64 .i64 _ _ h3]
    by_cases he : a.getD i 0 = b.getD i 0
    · have hb : (a.getD i 0 == b.getD i 0) = true := by simpa using he
      have ih := run_same_vec d a b la lb w is (fun j hj => h j (by simp [hj]))
      simp only [Nat.mul_one] at ih
      simp only [hb, Bool.not_true, Bool.false_eq_true, if_false, Sem.run_pure, Result.andThen_ok, ih]
      simp only [List.forall_mem_cons, he, true_and]
    · have hb : (a.getD i 0 == b.getD i 0) = false := by simpa using he
      simp only [hb, Bool.not_false, if_true, Sem.run_pure, Result.andThen_ok]
      rw [if_neg (fun hall => he (hall i (by simp)))]

theorem vec_ext (a b : List Int) (la : a.length = 16) (lb : b.length = 16) (h : ∀ i, i < 16 → a.getD i 0 = b.getD i 0) : a = b := by
  apply List.ext_getElem (by omega)
  intro i h1 h2
  have := h i (by omega)
  simpa [List.getD, h1, h2] using this

theorem run_equalIn_vec (w : World) (d : Nat) (a b : List Int) (la : a.length = 16) (lb : b.length = 16) :
    (Op.equalIn (d + 2) 58 (.agg (vals a)) (.agg (vals b))).run Tryz.prog w = .ok (decide (a = b)) w := by
  have hu : Tryz.prog.underlying 58 = some (.array 16 3) := by kernel_rfl
  have hs : (sizeOf 3).run Tryz.prog w = .ok 1 w := by kernel_rfl
  rw [Op.equalIn]
  simp only [Sem.run_bind, run_underlying hu, Result.andThen_ok, hs]
  rw [Std.Legacy.Range.forIn_eq_forIn_range', run_same_vec d a b la lb w _ (fun i hi => by simpa [Std.Legacy.Range.size] using hi)]
  by_cases h : a = b
  · subst h
    simp
  · rw [if_neg]
    · simp [h]
    · intro hall
      exact h (vec_ext a b la lb fun i hi => hall i (by simpa [Std.Legacy.Range.size] using hi))

theorem run_eql_vec (w : World) (a b : List Int) (la : a.length = 16) (lb : b.length = 16) : (binOp .eql 58 (.agg (vals a)) (.agg (vals b))).run Tryz.prog w = .ok (.bool (decide (a = b))) w := by
  rw [run_eql_struct, run_equalIn_vec w 9998 a b la lb, Result.andThen_ok]
theorem run_neq_vec (w : World) (a b : List Int) (la : a.length = 16) (lb : b.length = 16) : (binOp .neq 58 (.agg (vals a)) (.agg (vals b))).run Tryz.prog w = .ok (.bool (!decide (a = b))) w := by
  rw [run_neq_struct, run_equalIn_vec w 9998 a b la lb, Result.andThen_ok]
theorem plain_vec : Tryz.prog.eqGuardType Tryz.prog.depth 58 = false := by kernel_rfl

/-- A vector is the answer. -/
theorem ret_vec {fn : Func} {R : Ending → World → Prop} {a : Act} {w : World} {p : Tmp} {g : Nat} {l : List Int} (h : fn.results = #[.cell p 58]) (hp : a.tmps.getD p undef = .pointer (some ⟨g, 0, none⟩))
    (hd : a.defers = []) (hg : Lies w g l) (hl : l.length = 16) (hR : R (.returned (.agg (vals l))) w) : bodyPost Tryz.prog fn R .ret a w :=
  bodyPost_ret (results_cell_row h a.tmps w g 58 _ (0, 0) _ hp hg Tryz.underlying58 rfl (size16 l hl)) hd hR
/-- A vector and a number are the answer. -/
theorem ret_vec2 {fn : Func} {R : Ending → World → Prop} {a : Act} {w : World} {p u : Tmp} {g : Nat} {l : List Int} {v : Value} (h : fn.results = #[.cell p 58, .tmp u]) (hp : a.tmps.getD p undef = .pointer (some ⟨g, 0, none⟩))
    (hu : a.tmps.getD u undef = v) (hd : a.defers = []) (hg : Lies w g l) (hl : l.length = 16) (hR : R (.returned (.tuple #[.agg (vals l), v])) w) : bodyPost Tryz.prog fn R .ret a w := by
  refine bodyPost_ret ?_ hd hR
  rw [results_cell_tmp h, hp, hu]
  simp only [asAddr, Sem.run_pure, Result.andThen_ok, run_loadVar_row w g 58 58 _ (0, 0) _ hg Tryz.underlying58 rfl (size16 l hl)]

/-! Dots: a replica's number and a number. -/
def dotc (r n : Int) : Array Value := #[.int .i64 r, .int .i64 n]
def LiesD (w : World) (g : Nat) (r n : Int) : Prop := w.heap[g]? = some (.cells (dotc r n) 46 (0, 0))
theorem LiesD.below {B g : Nat} {w w' : World} {r n : Int} (h : LiesD w g r n) (hb : Below B w w') (hg : g < B) : LiesD w' g r n := by
  rw [LiesD, hb.block g hg]; exact h
theorem LiesD.lt {w : World} {g : Nat} {r n : Int} (h : LiesD w g r n) : g < w.heap.size := by
  rw [LiesD] at h
  exact (Array.getElem?_eq_some_iff.1 h).1
theorem LiesD.cell0 {w : World} {g : Nat} {r n : Int} (h : LiesD w g r n) : w.cell? ⟨g, 0, none⟩ = some (.int .i64 r) := cell_of_row w g 0 _ _ _ h
theorem LiesD.cell1 {w : World} {g : Nat} {r n : Int} (h : LiesD w g r n) : w.cell? ⟨g, 1, none⟩ = some (.int .i64 n) := cell_of_row w g 1 _ _ _ h
theorem LiesD.other {w : World} {g : Nat} {ad : Addr} {r n : Int} (h : LiesD w g r n) (v : Value) (hg : g ≠ ad.block) : LiesD (w.setCell ad v) g r n := by
  rw [LiesD, heap_setCell_other w ad g v hg]; exact h
theorem LiesD.alloc {w : World} {g : Nat} {r n : Int} (h : LiesD w g r n) (o : Obj) : LiesD (w.alloc o) g r n := by
  rw [LiesD, Below.heap_alloc w o g h.lt]; exact h
theorem LiesD.drew {w : World} {g : Nat} {r n : Int} (h : LiesD w g r n) : LiesD w.drew g r n := h
theorem liesD_new (w : World) (r n : Int) : LiesD (w.alloc (.cells (dotc r n) 46)) w.heap.size r n := heap_alloc_new w _
theorem LiesD.row {w : World} {g : Nat} {r' n' : Int} (h : LiesD w g r' n') (r n : Int) : LiesD (w.setRow g (dotc r n)) g r n := setRow_heap w g _ _ _ _ h
theorem LiesD.rowOther {w : World} {g k : Nat} {r n : Int} (h : LiesD w k r n) (cs : Array Value) (hk : k ≠ g) : LiesD (w.setRow g cs) k r n := by
  rw [LiesD, setRow_other w g k cs hk]; exact h
theorem sizeD (r n : Int) : (Tryz.prog.info? 46).map (·.size) = some (dotc r n).size := by
  show _ = some 2
  kernel_rfl
theorem load_dot {ops : Array Oper} {rest : List Oper} {o : Oper} {a : Act} {w : World} {Q : Exit → Act → World → Prop} {x : Operand} {g : Nat} {r n : Int} (hgd : o.guard = none) (ho : o.op = .load 46 x)
    (hx : a.eval x = .pointer (some ⟨g, 0, none⟩)) (hg : LiesD w g r n)
    (h : wpList Tryz.prog ops Q rest (a.put o.dst (.agg (dotc r n))) w) : wpList Tryz.prog ops Q (o :: rest) a w :=
  wpList_load_row hgd 46 x ho g hx 46 _ (0, 0) _ hg Tryz.underlying46 rfl (sizeD r n) h
theorem store_dot {ops : Array Oper} {rest : List Oper} {o : Oper} {a : Act} {w : World} {Q : Exit → Act → World → Prop} {x y : Operand} {g : Nat} {r n r' n' : Int} (hgd : o.guard = none) (ho : o.op = .store 46 x y)
    (hx : a.eval x = .pointer (some ⟨g, 0, none⟩)) (hy : a.eval y = .agg (dotc r n)) (hg : LiesD w g r' n')
    (h : wpList Tryz.prog ops Q rest (a.put o.dst undef) (w.setRow g (dotc r n))) : wpList Tryz.prog ops Q (o :: rest) a w :=
  wpList_store_row hgd 46 x y ho g (dotc r n) hx hy 46 _ hg (sizeD r n) rfl (by simp [dotc, Value.oneCell']) h
theorem ret_dot2 {fn : Func} {R : Ending → World → Prop} {a : Act} {w : World} {p u : Tmp} {g : Nat} {r n : Int} {v : Value} (h : fn.results = #[.cell p 46, .tmp u]) (hp : a.tmps.getD p undef = .pointer (some ⟨g, 0, none⟩))
    (hu : a.tmps.getD u undef = v) (hd : a.defers = []) (hg : LiesD w g r n) (hR : R (.returned (.tuple #[.agg (dotc r n), v])) w) : bodyPost Tryz.prog fn R .ret a w := by
  refine bodyPost_ret ?_ hd hR
  rw [results_cell_tmp h, hp, hu]
  simp only [asAddr, Sem.run_pure, Result.andThen_ok, run_loadVar_row w g 46 46 _ (0, 0) _ hg Tryz.underlying46 rfl (sizeD r n)]
theorem run_equalIn_dot (w : World) (d : Nat) (r n r' n' : Int) : (Op.equalIn (d + 2) 46 (.agg (dotc r n)) (.agg (dotc r' n'))).run Tryz.prog w = .ok (decide (r = r' ∧ n = n')) w := by
  have h3 : Tryz.prog.underlying 3 = some (.int .i64) := by kernel_rfl
  have hm : (Tryz.prog.fieldsOf 46).toList.map (fun f => (f.name, f.type, f.offset)) = [("R", 3, 0), ("N", 3, 1)] := by kernel_rfl
  have hf : ∃ f g : Field, (Tryz.prog.fieldsOf 46).toList = [f, g] ∧ f.name ≠ "_" ∧ g.name ≠ "_" ∧ f.type = 3 ∧ g.type = 3 ∧ f.offset = 0 ∧ g.offset = 1 := by
    obtain ⟨f, fs, h, hf, hfs⟩ := List.map_eq_cons_iff.1 hm
    obtain ⟨g, gs, h', hg, hgs⟩ := List.map_eq_cons_iff.1 hfs
    obtain rfl := List.map_eq_nil_iff.1 hgs
    simp only [Prod.mk.injEq] at hf hg
    exact ⟨f, g, by rw [h, h'], by rw [hf.1]; decide, by rw [hg.1]; decide, hf.2.1, hg.2.1, hf.2.2, hg.2.2⟩
  obtain ⟨f, g, h, hf1, hg1, hf2, hg2, hf3, hg3⟩ := hf
  rw [run_equalIn_struct w (d + 1) 46 _ _ (by kernel_rfl) (by kernel_rfl), h]
  have p0 : ∀ r n : Int, (part 3 (dotc r n) 0).run Tryz.prog w = .ok (.int .i64 r) w := fun r n => by simp [part, isAgg, run_underlying h3, Sem.run_bind, dotc]
  have p1 : ∀ r n : Int, (part 3 (dotc r n) 1).run Tryz.prog w = .ok (.int .i64 n) w := fun r n => by simp [part, isAgg, run_underlying h3, Sem.run_bind, dotc]
  simp only [Op.eqFields, ne_eq, hf1, hg1, not_false_eq_true, if_true, hf2, hg2, hf3, hg3, Sem.run_bind, p0, Result.andThen_ok, run_equalIn_int w d 3 .i64 .i64 _ _ h3]
  have he := fun x y : Int => run_equalIn_int (P := Tryz.prog) w d 3 .i64 .i64 x y h3
  by_cases hr : r = r' <;> by_cases hn : n = n' <;> simp [hr, hn, p1, he]
theorem run_eql_dot (w : World) (r n r' n' : Int) : (binOp .eql 46 (.agg (dotc r n)) (.agg (dotc r' n'))).run Tryz.prog w = .ok (.bool (decide (r = r' ∧ n = n'))) w := by
  rw [run_eql_struct, run_equalIn_dot w 9998, Result.andThen_ok]
theorem plain_dot : Tryz.prog.eqGuardType Tryz.prog.depth 46 = false := by kernel_rfl
end Go.Proofs.YtmlfekbmbnfkjaaGreatDoor

/-
  The vector of sixteen zeros.
-/
namespace Go.Proofs.YtmlfekbmbnfkjaaGreatDoor
set_option maxRecDepth 100000
open Go.RowKit
def zeros : List Int := List.replicate 16 0
theorem zeros_vals : vals zeros = #[.int .i64 0, .int .i64 0, .int .i64 0, .int .i64 0, .int .i64 0, .int .i64 0, .int .i64 0, .int .i64 0, .int .i64 0, .int .i64 0, .int .i64 0, .int .i64 0, .int .i64 0, .int .i64 0, .int .i64 0, .int .i64 0] := rfl
end Go.Proofs.YtmlfekbmbnfkjaaGreatDoor

