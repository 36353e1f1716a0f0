/-
  Vectors as lists of sixteen numbers: how they lie in memory; an element of one read; two of them compared.
-/
import Derived.Test.YtmlfekbmbnfkjabGreatDoorProg
import Derived.Laws.StructEq
import Derived.Laws.Rows
import Derived.Laws.ResultCell
import Derived.WalkKit
namespace Go.Proofs.YtmlfekbmbnfkjabGreatDoor
set_option maxRecDepth 100000
open Go.RowKit

/-- The cells of a vector. -/
def vals (l : List Int) : Array Value := (l.map (Value.int .i64)).toArray
theorem vals_size (l : List Int) : (vals l).size = l.length := by simp [vals]
theorem vals_get (l : List Int) (k : Nat) (h : k < l.length) : (vals l)[k]? = some (.int .i64 (l.getD k 0)) := by
  simp [vals, List.getD, h]
theorem vals_set (l : List Int) (k : Nat) (x : Int) : (vals l).setIfInBounds k (.int .i64 x) = vals (l.set k x) := by
  simp [vals, List.map_set]
theorem vals_one (l : List Int) : (vals l).all (·.oneCell') = true := by
  simp [vals, Value.oneCell']

/-- A vector lies in a block. -/
def Lies (w : World) (g : Nat) (l : List Int) : Prop := w.heap[g]? = some (.cells (vals l) 41 (0, 0))
theorem Lies.below {B g : Nat} {w w' : World} {l : List Int} (h : Lies w g l) (hb : Below B w w') (hg : g < B) : Lies w' g l := by
  rw [Lies, hb.block g hg]; exact h
theorem Lies.lt {w : World} {g : Nat} {l : List Int} (h : Lies w g l) : g < w.heap.size := by
  rw [Lies] at h
  exact (Array.getElem?_eq_some_iff.1 h).1
theorem Lies.cell {w : World} {g k : Nat} {l : List Int} (h : Lies w g l) (hk : k < l.length) : w.cell? ⟨g, k, none⟩ = some (.int .i64 (l.getD k 0)) := by
  rw [cell_of_row w g k _ _ _ h, vals_get l k hk]
theorem Lies.frozen {w : World} {g k : Nat} {l : List Int} (h : Lies w g l) : w.frozen? ⟨g, k, none⟩ = false := frozen_of_row w g k _ _ h
theorem Lies.set {w : World} {g k : Nat} {l : List Int} (h : Lies w g l) (x : Int) : Lies (w.setCell ⟨g, k, none⟩ (.int .i64 x)) g (l.set k x) := by
  rw [Lies, heap_setCell_same w g k _ _ _ h, vals_set]
theorem Lies.other {w : World} {g : Nat} {ad : Addr} {l : List Int} (h : Lies w g l) (v : Value) (hg : g ≠ ad.block) : Lies (w.setCell ad v) g l := by
  rw [Lies, heap_setCell_other w ad g v hg]; exact h
theorem Lies.alloc {w : World} {g : Nat} {l : List Int} (h : Lies w g l) (o : Obj) : Lies (w.alloc o) g l := by
  rw [Lies, Below.heap_alloc w o g h.lt]; exact h
theorem Lies.drew {w : World} {g : Nat} {l : List Int} (h : Lies w g l) : Lies w.drew g l := h
theorem lies_new (w : World) (l : List Int) : Lies (w.alloc (.cells (vals l) 41)) w.heap.size l := heap_alloc_new w _

theorem size16 (l : List Int) (h : l.length = 16) : (Tryz.prog.info? 41).map (·.size) = some (vals l).size := by
  rw [vals_size, h]
  kernel_rfl

/-- A whole vector is read. -/
theorem load_vec {ops : Array Oper} {rest : List Oper} {o : Oper} {a : Act} {w : World} {Q : Exit → Act → World → Prop} {x : Operand} {g : Nat} {l : List Int} (hgd : o.guard = none) (ho : o.op = .load 41 x)
    (hx : a.eval x = .pointer (some ⟨g, 0, none⟩)) (hg : Lies w g l) (hl : l.length = 16)
    (h : wpList Tryz.prog ops Q rest (a.put o.dst (.agg (vals l))) w) : wpList Tryz.prog ops Q (o :: rest) a w :=
  wpList_load_row hgd 41 x ho g hx 41 _ (0, 0) _ hg Tryz.underlying41 rfl (size16 l hl) h

/-- A whole vector is laid. -/
theorem store_vec {ops : Array Oper} {rest : List Oper} {o : Oper} {a : Act} {w : World} {Q : Exit → Act → World → Prop} {x y : Operand} {g : Nat} {l m : List Int} (hgd : o.guard = none) (ho : o.op = .store 41 x y)
    (hx : a.eval x = .pointer (some ⟨g, 0, none⟩)) (hy : a.eval y = .agg (vals l)) (hg : Lies w g m) (hl : l.length = 16) (hm : m.length = 16)
    (h : wpList Tryz.prog ops Q rest (a.put o.dst undef) (w.setRow g (vals l))) : wpList Tryz.prog ops Q (o :: rest) a w :=
  wpList_store_row hgd 41 x y ho g (vals l) hx hy 41 _ hg (size16 l hl) (by rw [vals_size, vals_size, hl, hm]) (vals_one l) h
theorem Lies.row {w : World} {g : Nat} {m : List Int} (h : Lies w g m) (l : List Int) : Lies (w.setRow g (vals l)) g l := setRow_heap w g _ _ _ _ h
theorem Lies.rowOther {w : World} {g k : Nat} {m : List Int} (h : Lies w k m) (cs : Array Value) (hk : k ≠ g) : Lies (w.setRow g cs) k m := by
  rw [Lies, setRow_other w g k cs hk]; exact h
theorem below_setRow {B g : Nat} {a w : World} (h : Below B a w) (hg : B ≤ g) (cs : Array Value) : Below B a (w.setRow g cs) :=
  h.trans ⟨rfl, rfl, rfl, by simp [World.setRow], fun k hk => setRow_other _ _ k _ (by omega)⟩

/-- An element of a vector that is no variable. -/
theorem run_index_vec (w : World) (l : List Int) (k : Nat) (hl : l.length = 16) (hk : k < 16) : (Instr.index 41 (.agg (vals l)) (.int .i64 (k : Int))).run Tryz.prog w = .ok (.int .i64 (l.getD k 0)) w := by
  have hu : Tryz.prog.underlying 41 = some (.array 16 3) := by kernel_rfl
  have h3 : Tryz.prog.underlying 3 = some (.int .i64) := by kernel_rfl
  have hs : (sizeOf 3).run Tryz.prog w = .ok 1 w := by kernel_rfl
  have hg := vals_get l k (by omega)
  simp [Instr.index, asIntOf, run_underlying hu, Sem.run_bind, hs, part, isAgg, run_underlying h3, hk, hg]

/-- The address of an element. -/
theorem run_indexAt_vec (w : World) (g k : Nat) (hk : k < 16) : (Instr.indexAt 41 (.pointer (some ⟨g, 0, none⟩)) (.int .i64 (k : Int))).run Tryz.prog w = .ok (.pointer (some ⟨g, k, none⟩)) w := by
  have hu : Tryz.prog.underlying 41 = some (.array 16 3) := by kernel_rfl
  have e : (⟨g, 0, none⟩ : Addr).add k = ⟨g, k, none⟩ := by unfold Addr.add; split <;> simp_all
  simp [Instr.indexAt, asIntOf, run_underlying hu, Sem.run_bind, Instr.sureAddr, hk, e]


theorem run_part_vec (w : World) (l : List Int) (k : Nat) (hl : l.length = 16) (hk : k < 16) : (part 3 (vals l) k).run Tryz.prog w = .ok (.int .i64 (l.getD k 0)) w := by
  have h3 : Tryz.prog.underlying 3 = some (.int .i64) := by kernel_rfl
  have hg := vals_get l k (by omega)
  simp [part, isAgg, run_underlying h3, Sem.run_bind, hg]

theorem run_same_vec (d : Nat) (a b : List Int) (la : a.length = 16) (lb : b.length = 16) (w : World) : ∀ is : List Nat, (∀ i ∈ is, i < 16) →
    Sem.run Tryz.prog (forIn is ((none : Option Bool), ()) fun i __s => do
            let __do_lift ← part 3 (vals a) (i * 1)
            let __do_lift_1 ← part 3 (vals b) (i * 1)
            let __do_lift ← Op.equalIn (d + 1) 3 __do_lift __do_lift_1
            if (!__do_lift) = true then pure (ForInStep.done (some false, ())) else pure (ForInStep.yield (none, ()))) w =
      .ok (if ∀ i ∈ is, a.getD i 0 = b.getD i 0 then ((none : Option Bool), ()) else (some false, ())) w
  | [], _ => by simp
  | i :: is, h => by
    have h3 : Tryz.prog.underlying 3 = some (.int .i64) := by kernel_rfl
    have hi := h i (by simp)
    rw [List.forIn_cons]
    simp only [Sem.run_bind, Nat.mul_one, run_part_vec w a i la hi, run_part_vec w b i lb hi, Result.andThen_ok, run_equalIn_int w d 3 .i64 .i64 _ _ h3]
    by_cases he : a.getD i 0 = b.getD i 0
    · have hb : (a.getD i 0 == b.getD i 0) = true := by simpa using he
      have ih := run_same_vec d a b la lb w is (fun j hj => h j (by simp [hj]))
      simp only [Nat.mul_one] at ih
      simp only [hb, Bool.not_true, Bool.false_eq_true, if_false, Sem.run_pure, Result.andThen_ok, ih]
      simp only [List.forall_mem_cons, he, true_and]
    · have hb : (a.getD i 0 == b.getD i 0) = false := by simpa using he
      simp only [hb, Bool.not_false, if_true, Sem.run_pure, Result.andThen_ok]
      rw [if_neg (fun hall => he (hall i (by simp)))]

theorem vec_ext (a b : List Int) (la : a.length = 16) (lb : b.length = 16) (h : ∀ i, i < 16 → a.getD i 0 = b.getD i 0) : a = b := by
  apply List.ext_getElem (by omega)
  intro i h1 h2
  have := h i (by omega)
  simpa [List.getD, h1, h2] using this

theorem run_equalIn_vec (w : World) (d : Nat) (a b : List Int) (la : a.length = 16) (lb : b.length = 16) :
    (Op.equalIn (d + 2) 41 (.agg (vals a)) (.agg (vals b))).run Tryz.prog w = .ok (decide (a = b)) w := by
  have hu : Tryz.prog.underlying 41 = some (.array 16 3) := by kernel_rfl
  have hs : (sizeOf 3).run Tryz.prog w = .ok 1 w := by kernel_rfl
  rw [Op.equalIn]
  simp only [Sem.run_bind, run_underlying hu, Result.andThen_ok, hs]
  rw [Std.Legacy.Range.forIn_eq_forIn_range', run_same_vec d a b la lb w _ (fun i hi => by simpa [Std.Legacy.Range.size] using hi)]
  by_cases h : a = b
  · subst h
    simp
  · rw [if_neg]
    · simp [h]
    · intro hall
      exact h (vec_ext a b la lb fun i hi => hall i (by simpa [Std.Legacy.Range.size] using hi))

theorem run_eql_vec (w : World) (a b : List Int) (la : a.length = 16) (lb : b.length = 16) : (binOp .eql 41 (.agg (vals a)) (.agg (vals b))).run Tryz.prog w = .ok (.bool (decide (a = b))) w := by
  rw [run_eql_struct, run_equalIn_vec w 9998 a b la lb, Result.andThen_ok]
theorem plain_vec : Tryz.prog.eqGuardType Tryz.prog.depth 41 = false := by kernel_rfl

/-- A vector is the answer. -/
theorem ret_vec {fn : Func} {R : Ending → World → Prop} {a : Act} {w : World} {p : Tmp} {g : Nat} {l : List Int} (h : fn.results = #[.cell p 41]) (hp : a.tmps.getD p undef = .pointer (some ⟨g, 0, none⟩))
    (hd : a.defers = []) (hg : Lies w g l) (hl : l.length = 16) (hR : R (.returned (.agg (vals l))) w) : bodyPost Tryz.prog fn R .ret a w :=
  bodyPost_ret (results_cell_row h a.tmps w g 41 _ (0, 0) _ hp hg Tryz.underlying41 rfl (size16 l hl)) hd hR
/-- A vector and a number are the answer. -/
theorem ret_vec2 {fn : Func} {R : Ending → World → Prop} {a : Act} {w : World} {p u : Tmp} {g : Nat} {l : List Int} {v : Value} (h : fn.results = #[.cell p 41, .tmp u]) (hp : a.tmps.getD p undef = .pointer (some ⟨g, 0, none⟩))
    (hu : a.tmps.getD u undef = v) (hd : a.defers = []) (hg : Lies w g l) (hl : l.length = 16) (hR : R (.returned (.tuple #[.agg (vals l), v])) w) : bodyPost Tryz.prog fn R .ret a w := by
  refine bodyPost_ret ?_ hd hR
  rw [results_cell_tmp h, hp, hu]
  simp only [asAddr, Sem.run_pure, Result.andThen_ok, run_loadVar_row w g 41 41 _ (0, 0) _ hg Tryz.underlying41 rfl (size16 l hl)]

/-! Dots: a replica's number and a number. -/
def dotc (r n : Int) : Array Value := #[.int .i64 r, .int .i64 n]
def LiesD (w : World) (g : Nat) (r n : Int) : Prop := w.heap[g]? = some (.cells (dotc r n) 32 (0, 0))
theorem LiesD.below {B g : Nat} {w w' : World} {r n : Int} (h : LiesD w g r n) (hb : Below B w w') (hg : g < B) : LiesD w' g r n := by
  rw [LiesD, hb.block g hg]; exact h
theorem LiesD.lt {w : World} {g : Nat} {r n : Int} (h : LiesD w g r n) : g < w.heap.size := by
  rw [LiesD] at h
  exact (Array.getElem?_eq_some_iff.1 h).1
theorem LiesD.cell0 {w : World} {g : Nat} {r n : Int} (h : LiesD w g r n) : w.cell? ⟨g, 0, none⟩ = some (.int .i64 r) := cell_of_row w g 0 _ _ _ h
theorem LiesD.cell1 {w : World} {g : Nat} {r n : Int} (h : LiesD w g r n) : w.cell? ⟨g, 1, none⟩ = some (.int .i64 n) := cell_of_row w g 1 _ _ _ h
theorem LiesD.other {w : World} {g : Nat} {ad : Addr} {r n : Int} (h : LiesD w g r n) (v : Value) (hg : g ≠ ad.block) : LiesD (w.setCell ad v) g r n := by
  rw [LiesD, heap_setCell_other w ad g v hg]; exact h
theorem LiesD.alloc {w : World} {g : Nat} {r n : Int} (h : LiesD w g r n) (o : Obj) : LiesD (w.alloc o) g r n := by
  rw [LiesD, Below.heap_alloc w o g h.lt]; exact h
theorem LiesD.drew {w : World} {g : Nat} {r n : Int} (h : LiesD w g r n) : LiesD w.drew g r n := h
theorem liesD_new (w : World) (r n : Int) : LiesD (w.alloc (.cells (dotc r n) 32)) w.heap.size r n := heap_alloc_new w _
theorem LiesD.row {w : World} {g : Nat} {r' n' : Int} (h : LiesD w g r' n') (r n : Int) : LiesD (w.setRow g (dotc r n)) g r n := setRow_heap w g _ _ _ _ h
theorem LiesD.rowOther {w : World} {g k : Nat} {r n : Int} (h : LiesD w k r n) (cs : Array Value) (hk : k ≠ g) : LiesD (w.setRow g cs) k r n := by
  rw [LiesD, setRow_other w g k cs hk]; exact h
theorem sizeD (r n : Int) : (Tryz.prog.info? 32).map (·.size) = some (dotc r n).size := by
  show _ = some 2
  kernel_rfl
theorem run_equalIn_dot (w : World) (d : Nat) (r n r' n' : Int) : (Op.equalIn (d + 2) 32 (.agg (dotc r n)) (.agg (dotc r' n'))).run Tryz.prog w = .ok (decide (r = r' ∧ n = n')) w := by
  have h3 : Tryz.prog.underlying 3 = some (.int .i64) := by kernel_rfl
  have hm : (Tryz.prog.fieldsOf 32).toList.map (fun f => (f.name, f.type, f.offset)) = [("R", 3, 0), ("N", 3, 1)] := by kernel_rfl
  have hf : ∃ f g : Field, (Tryz.prog.fieldsOf 32).toList = [f, g] ∧ f.name ≠ "_" ∧ g.name ≠ "_" ∧ f.type = 3 ∧ g.type = 3 ∧ f.offset = 0 ∧ g.offset = 1 := by
    obtain ⟨f, fs, h, hf, hfs⟩ := List.map_eq_cons_iff.1 hm
    obtain ⟨g, gs, h', hg, hgs⟩ := List.map_eq_cons_iff.1 hfs
    obtain rfl := List.map_eq_nil_iff.1 hgs
    simp only [Prod.mk.injEq] at hf hg
    exact ⟨f, g, by rw [h, h'], by rw [hf.1]; decide, by rw [hg.1]; decide, hf.2.1, hg.2.1, hf.2.2, hg.2.2⟩
  obtain ⟨f, g, h, hf1, hg1, hf2, hg2, hf3, hg3⟩ := hf
  rw [run_equalIn_struct w (d + 1) 32 _ _ (by kernel_rfl) (by kernel_rfl), h]
  have p0 : ∀ r n : Int, (part 3 (dotc r n) 0).run Tryz.prog w = .ok (.int .i64 r) w := fun r n => by simp [part, isAgg, run_underlying h3, Sem.run_bind, dotc]
  have p1 : ∀ r n : Int, (part 3 (dotc r n) 1).run Tryz.prog w = .ok (.int .i64 n) w := fun r n => by simp [part, isAgg, run_underlying h3, Sem.run_bind, dotc]
  simp only [Op.eqFields, ne_eq, hf1, hg1, not_false_eq_true, if_true, hf2, hg2, hf3, hg3, Sem.run_bind, p0, Result.andThen_ok, run_equalIn_int w d 3 .i64 .i64 _ _ h3]
  have he := fun x y : Int => run_equalIn_int (P := Tryz.prog) w d 3 .i64 .i64 x y h3
  by_cases hr : r = r' <;> by_cases hn : n = n' <;> simp [hr, hn, p1, he]
theorem plain_dot : Tryz.prog.eqGuardType Tryz.prog.depth 32 = false := by kernel_rfl
end Go.Proofs.YtmlfekbmbnfkjabGreatDoor

/-
  The vector of sixteen zeros.
-/
namespace Go.Proofs.YtmlfekbmbnfkjabGreatDoor
set_option maxRecDepth 100000
open Go.RowKit
def zeros : List Int := List.replicate 16 0
theorem zeros_vals : vals zeros = #[.int .i64 0, .int .i64 0, .int .i64 0, .int .i64 0, .int .i64 0, .int .i64 0, .int .i64 0, .int .i64 0, .int .i64 0, .int .i64 0, .int .i64 0, .int .i64 0, .int .i64 0, .int .i64 0, .int .i64 0, .int .i64 0] := rfl
end Go.Proofs.YtmlfekbmbnfkjabGreatDoor

/-
  What vec.Join and vec.Meet come to: the greater, the smaller one of each number.
-/
namespace Go.Proofs.YtmlfekbmbnfkjabGreatDoor
set_option maxRecDepth 100000
open Go.RowKit

/-- Number by number. -/
def each (f : Int → Int → Int) (a b : List Int) : List Int := List.zipWith f a b
theorem each_length (f : Int → Int → Int) (a b : List Int) (la : a.length = 16) (lb : b.length = 16) : (each f a b).length = 16 := by
  rw [each, List.length_zipWith]; omega
/-- What the loop has laid behind k rounds. -/
def mixed (f : Int → Int → Int) (a b : List Int) (k : Nat) : List Int := (each f a b).take k ++ a.drop k
theorem mixed_zero (f : Int → Int → Int) (a b : List Int) : mixed f a b 0 = a := by simp [mixed]
theorem mixed_end (f : Int → Int → Int) (a b : List Int) (la : a.length = 16) (lb : b.length = 16) : mixed f a b 16 = each f a b := by
  have := each_length f a b la lb
  rw [mixed, List.take_of_length_le (by omega), List.drop_of_length_le (by omega), List.append_nil]
theorem mixed_length (f : Int → Int → Int) (a b : List Int) (k : Nat) (la : a.length = 16) (lb : b.length = 16) (hk : k ≤ 16) : (mixed f a b k).length = 16 := by
  have := each_length f a b la lb
  rw [mixed, List.length_append, List.length_take, List.length_drop]; omega
theorem mixed_get (f : Int → Int → Int) (a b : List Int) (k : Nat) (la : a.length = 16) (lb : b.length = 16) (hk : k < 16) : (mixed f a b k).getD k 0 = a.getD k 0 := by
  have := each_length f a b la lb
  rw [mixed, List.getD, List.getElem?_append_right (by rw [List.length_take]; omega), List.length_take, List.getElem?_drop, List.getD]
  congr 2
  omega
theorem mixed_step (f : Int → Int → Int) (a b : List Int) (k : Nat) (la : a.length = 16) (lb : b.length = 16) (hk : k < 16) :
    (mixed f a b k).set k (f (a.getD k 0) (b.getD k 0)) = mixed f a b (k + 1) := by
  have h := each_length f a b la lb
  have hka : k < a.length := by omega
  have hkb : k < b.length := by omega
  have hl : ((each f a b).take k).length = k := by rw [List.length_take]; omega
  have hg : (each f a b)[k]? = some (f (a.getD k 0) (b.getD k 0)) := by
    rw [each, List.getElem?_zipWith, List.getElem?_eq_getElem hka, List.getElem?_eq_getElem hkb]
    simp [List.getD, hka, hkb]
  have hd : (a.drop k).set 0 (f (a.getD k 0) (b.getD k 0)) = f (a.getD k 0) (b.getD k 0) :: a.drop (k + 1) := by
    rw [List.drop_eq_getElem_cons hka, List.set_cons_zero]
  rw [mixed, mixed, List.set_append_right _ _ (by omega), hl, Nat.sub_self, List.take_add_one, hg, hd]
  simp

theorem if_max (x y : Int) : (if x < y then y else x) = max x y := by
  split <;> omega
set_option maxHeartbeats 400000 in
theorem join_any (a b : List Int) (la : a.length = 16) (lb : b.length = 16) (w : World) :
    Calls Tryz.prog 33 #[.agg (vals a), .agg (vals b)] w fun e w' => e = .returned (.agg (vals (each max a b))) ∧ Below w.heap.size w w' := by
  have hA : Lies (((w.alloc (.cells (vals a) 41)).alloc (.cells (vals b) 41)).alloc (.cells (vals zeros) 41)) w.heap.size a := ((lies_new w a).alloc _).alloc _
  have hB : Lies (((w.alloc (.cells (vals a) 41)).alloc (.cells (vals b) 41)).alloc (.cells (vals zeros) 41)) (w.heap.size + 1) b := by
    have := (lies_new (w.alloc (.cells (vals a) 41)) b).alloc (.cells (vals zeros) 41)
    simpa using this
  have hZ : Lies (((w.alloc (.cells (vals a) 41)).alloc (.cells (vals b) 41)).alloc (.cells (vals zeros) 41)) (w.heap.size + 1 + 1) zeros := by
    have := lies_new ((w.alloc (.cells (vals a) 41)).alloc (.cells (vals b) 41)) zeros
    simpa using this
  go_enter Tryz.func33, Tryz.ntmps33
  go_wp2_with (refine load_vec rfl rfl rfl hB lb ?_)
  go_loopw [8] (fun i wr => ∃ k : Nat, k ≤ 16 ∧ i = .int .i64 (k : Int) ∧ Lies wr w.heap.size (mixed max a b k) ∧ Lies wr (w.heap.size + 1 + 1) zeros ∧ Below w.heap.size w wr) (fun i _ => 16 - (intOf i).toNat)
  case atStart =>
    refine ⟨0, by omega, rfl, ?_, hZ, (((Below.refl _ _).alloc (Nat.le_refl _) _).alloc (by simp) _).alloc (by simp; omega) _⟩
    rw [mixed_zero]
    exact hA
  case round =>
    obtain ⟨k, hk, rfl, hM, hZ', hb⟩ := hrel
    by_cases h : k < 16
    · have hc := hM.cell (k := k) (by rw [mixed_length max a b k la lb hk]; exact h)
      rw [mixed_get max a b k la lb h] at hc
      have hf := hM.frozen (k := k)
      have hi := run_index_vec wr b k lb h
      have hia := run_indexAt_vec wr w.heap.size k h
      have Hs : Hid _ := hM.set (k := k) (max (a.getD k 0) (b.getD k 0))
      rw [mixed_step max a b k la lb h] at Hs
      have Hz : Hid _ := hZ'.other (ad := ⟨w.heap.size, k, none⟩) (.int .i64 (max (a.getD k 0) (b.getD k 0))) (by simp; omega)
      generalize a.getD k 0 = x at *
      generalize b.getD k 0 = y at *
      go_wp2
      go_roundw
      case rel => rw [if_max]; exact ⟨k + 1, by omega, by go_num, Hs.out, Hz.out, hb.setCell (Nat.le_refl _) _⟩
      case measure => simp [intOf]; omega
    · obtain rfl : k = 16 := by omega
      rw [mixed_end max a b la lb] at hM
      go_wp2_with (first | refine load_vec rfl rfl rfl hM (each_length max a b la lb) ?_ | refine store_vec rfl rfl rfl rfl hZ' (each_length max a b la lb) rfl ?_)
      exact ret_vec rfl rfl rfl (hZ'.row _) (each_length max a b la lb) ⟨rfl, below_setRow hb (by omega) _⟩

end Go.Proofs.YtmlfekbmbnfkjabGreatDoor

