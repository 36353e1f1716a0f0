/-
  Two operations, two events compared.
-/
import Derived.Test.YteanpepmncgagaaEvt
namespace Go.Proofs.Yteanpepmncgagaa
set_option maxRecDepth 100000
open Go.RowKit

/-- A struct's fields, by name, type and offset, and whether each is the same. -/
def FieldsEq (P : Program) (w : World) (d : Nat) (xs ys : Array Value) : List (String × TypeId × Nat) → List Bool → Prop
  | [], [] => True
  | t :: ts, b :: bs => t.1 ≠ "_" ∧ (∃ x y, (part t.2.1 xs t.2.2).run P w = .ok x w ∧ (part t.2.1 ys t.2.2).run P w = .ok y w ∧ (Op.equalIn d t.2.1 x y).run P w = .ok b w) ∧ FieldsEq P w d xs ys ts bs
  | _, _ => False

theorem run_eqFields {P : Program} {w : World} {d : Nat} {xs ys : Array Value} : ∀ {fs : List Field} {ts : List (String × TypeId × Nat)} {bs : List Bool}, fs.map (fun f => (f.name, f.type, f.offset)) = ts → FieldsEq P w d xs ys ts bs →
    (Op.eqFields d xs ys fs).run P w = .ok (bs.all id) w
  | [], [], [], _, _ => by simp [Op.eqFields]
  | [], [], _ :: _, _, h => h.elim
  | [], _ :: _, _, h, _ => by simp at h
  | _ :: _, [], _, h, _ => by simp at h
  | _ :: _, _ :: _, [], _, h => h.elim
  | f :: fs, t :: ts, b :: bs, h, ⟨h1, ⟨x, y, h2, h3, h4⟩, h5⟩ => by
    simp only [List.map_cons, List.cons.injEq] at h
    obtain ⟨rfl, h⟩ := h
    have ih := run_eqFields h h5
    simp only at h1 h2 h3 h4
    simp only [Op.eqFields, ne_eq, h1, not_false_eq_true, if_true, Sem.run_bind, h2, h3, h4, Result.andThen_ok]
    cases b
    · simp
    · simp [ih]

section
variable (w : World) (d : Nat)
theorem part_int {cs : Array Value} {k : Nat} {v : Value} (h : cs[k]? = some v) : (part 3 cs k).run Try.prog w = .ok v w := by
  have h3 : Try.prog.underlying 3 = some (.int .i64) := by kernel_rfl
  simp [part, isAgg, run_underlying h3, Sem.run_bind, h]
theorem part_str {cs : Array Value} {k : Nat} {v : Value} (h : cs[k]? = some v) : (part 9 cs k).run Try.prog w = .ok v w := by
  have h3 : Try.prog.underlying 9 = some .string := by kernel_rfl
  simp [part, isAgg, run_underlying h3, Sem.run_bind, h]
theorem part_dot {cs ds : Array Value} {k : Nat} (h : cs.extract k (k + 2) = ds) : (part 33 cs k).run Try.prog w = .ok (.agg ds) w := by
  have ha : (isAgg 33).run Try.prog w = .ok true w := by kernel_rfl
  simp [part, Sem.run_bind, ha, h]
theorem part_vec {cs ds : Array Value} {k : Nat} (h : cs.extract k (k + 16) = ds) : (part 35 cs k).run Try.prog w = .ok (.agg ds) w := by
  have ha : (isAgg 35).run Try.prog w = .ok true w := by kernel_rfl
  simp [part, Sem.run_bind, ha, h]
theorem part_op {cs ds : Array Value} {k : Nat} (h : cs.extract k (k + 7) = ds) : (part 37 cs k).run Try.prog w = .ok (.agg ds) w := by
  have ha : (isAgg 37).run Try.prog w = .ok true w := by kernel_rfl
  simp [part, Sem.run_bind, ha, h]
theorem equal_int (a b : Int) : (Op.equalIn (d + 1) 3 (.int .i64 a) (.int .i64 b)).run Try.prog w = .ok (decide (a = b)) w := by
  have h3 : Try.prog.underlying 3 = some (.int .i64) := by kernel_rfl
  rw [run_equalIn_int w d 3 .i64 .i64 a b h3]
  rfl
theorem equal_str (a b : List UInt8) : (Op.equalIn (d + 1) 9 (.string (sb a)) (.string (sb b))).run Try.prog w = .ok (decide (a = b)) w := by
  have h3 : Try.prog.underlying 9 = some .string := by kernel_rfl
  rw [run_equalIn_string w d 9 _ _ h3, ByteArray.toList_eq, ByteArray.toList_eq, data_sb, data_sb]
  congr 1
  rw [Bool.eq_iff_iff]
  simp
end

/-- Are the operations, the events the same? -/
def sameO (e f : Ev) : Bool := [decide (e.kind = f.kind), decide (e.key = f.key), decide (e.field = f.field), decide (e.value = f.value), decide (e.num = f.num), decide (e.rr = f.rr ∧ e.rn = f.rn)].all id
def sameE (e f : Ev) : Bool := [decide (e.r = f.r ∧ e.n = f.n), decide (e.t = f.t), decide (e.deps = f.deps), sameO e f].all id
theorem sameO_iff (e f : Ev) : sameO e f = true ↔ e.kind = f.kind ∧ e.key = f.key ∧ e.field = f.field ∧ e.value = f.value ∧ e.num = f.num ∧ e.rr = f.rr ∧ e.rn = f.rn := by
  simp [sameO]
theorem sameE_iff (e f : Ev) : sameE e f = true ↔ e = f := by
  have h := sameO_iff e f
  cases e; cases f
  simp only [sameE, List.all_cons, List.all_nil, id, Bool.and_eq_true, decide_eq_true_eq, h, Ev.mk.injEq, and_true]
  simp only at *
  constructor
  · rintro ⟨⟨h1, h2⟩, h3, h4, h5⟩; exact ⟨h1, h2, h3, h4, h5⟩
  · rintro ⟨h1, h2, h3, h4, h5⟩; exact ⟨⟨h1, h2⟩, h3, h4, h5⟩

theorem run_equalIn_op (w : World) (d : Nat) (e f : Ev) : (Op.equalIn (d + 3) 37 (.agg (opc e)) (.agg (opc f))).run Try.prog w = .ok (sameO e f) w := by
  rw [run_equalIn_struct w (d + 2) 37 _ _ (by kernel_rfl) (by kernel_rfl)]
  have hm : (Try.prog.fieldsOf 37).toList.map (fun f => (f.name, f.type, f.offset)) = [("Kind", 3, 0), ("Key", 9, 1), ("Field", 9, 2), ("Value", 9, 3), ("Num", 3, 4), ("Ref", 33, 5)] := by kernel_rfl
  refine run_eqFields hm ⟨by decide, ⟨_, _, part_int w rfl, part_int w rfl, equal_int w _ _ _⟩, by decide, ⟨_, _, part_str w rfl, part_str w rfl, equal_str w _ _ _⟩, by decide, ⟨_, _, part_str w rfl, part_str w rfl, equal_str w _ _ _⟩,
    by decide, ⟨_, _, part_str w rfl, part_str w rfl, equal_str w _ _ _⟩, by decide, ⟨_, _, part_int w rfl, part_int w rfl, equal_int w _ _ _⟩, by decide, ⟨_, _, part_dot w (ds := dotc e.rr e.rn) rfl, part_dot w (ds := dotc f.rr f.rn) rfl, run_equalIn_dot w _ _ _ _ _⟩, trivial⟩

theorem evc_dot (e : Ev) : (evc e).extract 0 (0 + 2) = dotc e.r e.n := by
  simp [evc, evl, dotc]
theorem evc_deps (e : Ev) (h : e.deps.length = 16) : (evc e).extract 3 (3 + 16) = vals e.deps := by
  simp [evc, evl, vals, h]
theorem evc_op (e : Ev) (h : e.deps.length = 16) : (evc e).extract 19 (19 + 7) = opc e := by
  simp [evc, evl, opc, opl, h]
theorem run_equalIn_ev (w : World) (d : Nat) (e f : Ev) (he : e.deps.length = 16) (hf : f.deps.length = 16) : (Op.equalIn (d + 4) 39 (.agg (evc e)) (.agg (evc f))).run Try.prog w = .ok (sameE e f) w := by
  rw [run_equalIn_struct w (d + 3) 39 _ _ (by kernel_rfl) (by kernel_rfl)]
  have hm : (Try.prog.fieldsOf 39).toList.map (fun f => (f.name, f.type, f.offset)) = [("Dot", 33, 0), ("Time", 3, 2), ("Deps", 35, 3), ("Op", 37, 19)] := by kernel_rfl
  exact run_eqFields hm ⟨by decide, ⟨_, _, part_dot w (evc_dot e), part_dot w (evc_dot f), run_equalIn_dot w _ _ _ _ _⟩, by decide, ⟨_, _, part_int w rfl, part_int w rfl, equal_int w _ _ _⟩,
    by decide, ⟨_, _, part_vec w (evc_deps e he), part_vec w (evc_deps f hf), run_equalIn_vec w _ _ _ he hf⟩, by decide, ⟨_, _, part_op w (evc_op e he), part_op w (evc_op f hf), run_equalIn_op w _ _ _⟩, trivial⟩
theorem run_eql_op (w : World) (e f : Ev) : (binOp .eql 37 (.agg (opc e)) (.agg (opc f))).run Try.prog w = .ok (.bool (sameO e f)) w := by
  rw [run_eql_struct, run_equalIn_op w 9997, Result.andThen_ok]
theorem run_eql_ev (w : World) (e f : Ev) (he : e.deps.length = 16) (hf : f.deps.length = 16) : (binOp .eql 39 (.agg (evc e)) (.agg (evc f))).run Try.prog w = .ok (.bool (sameE e f)) w := by
  rw [run_eql_struct, run_equalIn_ev w 9996 _ _ he hf, Result.andThen_ok]
theorem plain_op : Try.prog.eqGuardType Try.prog.depth 37 = false := by kernel_rfl
theorem plain_ev : Try.prog.eqGuardType Try.prog.depth 39 = false := by kernel_rfl
end Go.Proofs.Yteanpepmncgagaa
