/-
  Lists of calls (a number and whether it is seen) and of numbers, as arguments: how they lie in memory.
-/
import Derived.Test.YtaelhjmoiinbiaaTik
import Derived.Deep.MidRow
import Derived.Deep.SlicePairs
import Derived.OpenShut
import Derived.ChangeOld
namespace Go.Proofs.Ytaelhjmoiinbiaa
open Go.RowKit Go.ChangeShapes Go.WideShapes

/-- A call's cells. -/
def opc (n : Int) (s : Bool) : Array Value := #[.int .i64 n, .bool s]
theorem opc_zero : opc 0 false = #[.int .i64 0, .bool false] := rfl
def LiesO (w : World) (g : Nat) (n : Int) (s : Bool) : Prop := w.heap[g]? = some (.cells (opc n s) 28 (0, 0))
theorem LiesO.below {B g : Nat} {w w' : World} {n : Int} {s : Bool} (h : LiesO w g n s) (hb : Below B w w') (hg : g < B) : LiesO w' g n s := by
  rw [LiesO, hb.block g hg]; exact h
theorem LiesO.lt {w : World} {g : Nat} {n : Int} {s : Bool} (h : LiesO w g n s) : g < w.heap.size := by
  rw [LiesO] at h
  exact (Array.getElem?_eq_some_iff.1 h).1
theorem LiesO.cell0 {w : World} {g : Nat} {n : Int} {s : Bool} (h : LiesO w g n s) : w.cell? ⟨g, 0, none⟩ = some (.int .i64 n) := cell_of_row w g 0 _ _ _ h
theorem LiesO.cell1 {w : World} {g : Nat} {n : Int} {s : Bool} (h : LiesO w g n s) : w.cell? ⟨g, 1, none⟩ = some (.bool s) := cell_of_row w g 1 _ _ _ h
theorem LiesO.turned {g k : Nat} {w w' : World} {n : Int} {s : Bool} (h : LiesO w k n s) (ht : Turns g w w') (hk : k ≠ g) : LiesO w' k n s := by
  rw [LiesO, ht.block k hk]; exact h
theorem liesO_new (w : World) : LiesO (w.alloc (.cells (opc 0 false) 28)) w.heap.size 0 false := heap_alloc_new w _
theorem LiesO.row {w : World} {g : Nat} {n' : Int} {s' : Bool} (h : LiesO w g n' s') (n : Int) (s : Bool) : LiesO (w.setRow g (opc n s)) g n s := setRow_heap w g _ _ _ _ h
theorem laidO (w : World) (n : Int) (s : Bool) : LiesO ((w.alloc (.cells (opc 0 false) 28)).setRow w.heap.size (opc n s)) w.heap.size n s := (liesO_new w).row n s
theorem Clk.past {w : World} {g : Nat} {t : Int} (h : Clk w g t) (o : Obj) (cs : Array Value) : Clk ((w.alloc o).setRow w.heap.size cs) g t := by
  rw [Clk, setRow_other _ _ g cs (Nat.ne_of_lt h.lt)]
  exact h.alloc o
theorem below_setRow {B g : Nat} {a w : World} (h : Below B a w) (hg : B ≤ g) (cs : Array Value) : Below B a (w.setRow g cs) :=
  h.trans ⟨rfl, rfl, rfl, by simp [World.setRow], fun k hk => setRow_other _ _ k _ (by omega)⟩
theorem Below.past {B : Nat} {a w : World} (h : Below B a w) (hB : B ≤ w.heap.size) (o : Obj) (cs : Array Value) : Below B a ((w.alloc o).setRow w.heap.size cs) := below_setRow (h.alloc hB o) hB cs
theorem sizeO (n : Int) (s : Bool) : (Try.prog.info? 28).map (·.size) = some (opc n s).size := by
  show _ = some 2
  kernel_rfl
theorem store_op {ops : Array Oper} {rest : List Oper} {o : Oper} {a : Act} {w : World} {Q : Exit → Act → World → Prop} {x y : Operand} {g : Nat} {n n' : Int} {s s' : Bool} (hgd : o.guard = none) (ho : o.op = .store 28 x y)
    (hx : a.eval x = .pointer (some ⟨g, 0, none⟩)) (hy : a.eval y = .agg (opc n s)) (hg : LiesO w g n' s')
    (h : wpList Try.prog ops Q rest (a.put o.dst undef) (w.setRow g (opc n s))) : wpList Try.prog ops Q (o :: rest) a w :=
  wpList_store_row hgd 28 x y ho g (opc n s) hx hy 28 _ hg (sizeO n s) rfl (by simp [opc, Value.oneCell']) h
/-- One call of the list is read. -/
theorem load_op {ops : Array Oper} {rest : List Oper} {o : Oper} {a : Act} {w : World} {Q : Exit → Act → World → Prop} {x : Operand} {b i : Nat} {n : Int} {s : Bool} (hgd : o.guard = none) (ho : o.op = .load 28 x)
    (hx : a.eval x = .pointer (some ⟨b, i, none⟩)) (h0 : w.cell? ⟨b, i, none⟩ = some (.int .i64 n)) (h1 : w.cell? ⟨b, i + 1, none⟩ = some (.bool s))
    (h : wpList Try.prog ops Q rest (a.put o.dst (.agg (opc n s))) w) : wpList Try.prog ops Q (o :: rest) a w :=
  wpList_load_mid hgd 28 x ho b i hx [.int .i64 n, .bool s] _ (fun j v hv => by
    match j, hv with
    | 0, hv => obtain rfl := Option.some.inj hv; exact h0
    | 1, hv => obtain rfl := Option.some.inj hv; exact h1) Try.underlying28 rfl (sizeO n s) h

/-- A list of calls that came in: none of them, or a row of pairs. -/
def IsOps (w : World) (a : Option Addr) (len : Nat) (N : Nat → Int) (S : Nat → Bool) : Prop :=
  len = 0 ∨ ∃ b off, a = some ⟨b, off, none⟩ ∧ len ≤ maxLen ∧ b < w.heap.size ∧ ∀ i, i < len → w.cell? ⟨b, off + i * 2, none⟩ = some (.int .i64 (N i)) ∧ w.cell? ⟨b, off + i * 2 + 1, none⟩ = some (.bool (S i)) ∧ (Lit.int .i64 (N i)).wf = true
/-- A list of numbers that came in. -/
def IsInts (w : World) (a : Option Addr) (len : Nat) (N : Nat → Int) : Prop :=
  len = 0 ∨ ∃ b off, a = some ⟨b, off, none⟩ ∧ len ≤ maxLen ∧ b < w.heap.size ∧ ∀ i, i < len → w.cell? ⟨b, off + i, none⟩ = some (.int .i64 (N i)) ∧ (Lit.int .i64 (N i)).wf = true

section
variable {H : Type} {enc : TypeId × Value → H}
theorem open_ops {w : World} {a : Option Addr} {len cap : Nat} {d : DataW H} {ps : List MemPlace} (h : DataW.Trod enc Try.prog w 0 (fun _ => true) true 22 (.slice a len cap) d ps) (lt : ∀ x ∈ ps, x.block < w.heap.size) :
    ∃ N S, IsOps w a len N S := by
  obtain ⟨fuel, hf⟩ := h
  rcases Go.Deep.open_slice_pairs Try.underlying22 Try.underlying28 (by kernel_rfl) rfl rfl (by kernel_rfl) (by kernel_rfl) hf with ⟨hcs, _⟩ | ⟨x, l, c, m, n, V0, V1, D0, D1, P0, P1, hcs, _, hl, hm, hmm, hx, hall⟩
  · simp [Value.cells] at hcs
    exact ⟨fun _ => 0, fun _ => false, .inl hcs.2.1⟩
  · simp [Value.cells] at hcs
    obtain ⟨rfl, rfl, rfl⟩ := hcs
    simp only [if_true] at hmm
    subst hmm
    have h3 : Try.prog.underlying 3 = some (.int .i64) := by kernel_rfl
    have h4 : Try.prog.underlying 4 = some .bool := by kernel_rfl
    have key : ∀ i, i < m → ∃ q : Int × Bool, w.cell? (x.add (i * 2)) = some (.int .i64 q.1) ∧ w.cell? (x.add (i * 2 + 1)) = some (.bool q.2) ∧ (Lit.int .i64 q.1).wf = true := by
      intro i hi
      obtain ⟨c0, c1, t0, t1⟩ := hall i hi
      obtain ⟨n0, e0, -, wn⟩ := DataW.trod_int h3 t0
      obtain ⟨s0, e1, -⟩ := DataW.trod_bool h4 t1
      simp only [List.cons.injEq, and_true] at e0 e1
      exact ⟨(n0, s0), by rw [c0, e0], by rw [c1, e1], wn⟩
    obtain ⟨q, hq⟩ := Go.Deep.choose_lt key
    refine ⟨fun i => (q i).1, fun i => (q i).2, ?_⟩
    by_cases h0 : len = 0
    · exact .inl h0
    · right
      obtain ⟨b, off, spot⟩ := x
      have hs : spot = none := by simpa [Addr.add] using World.cell?_spot (hq 0 (by omega)).1
      subst hs
      simp only [Prod.mk.injEq] at hx
      refine ⟨b, off, rfl, by omega, ?_, fun i hi => ?_⟩
      · have := lt (.cell b (off + 0)) (by
          rw [hx.2]
          refine List.mem_append_left _ ?_
          simp only [MemPlace.row, List.mem_map, List.mem_range]
          exact ⟨0, by omega, rfl⟩)
        exact this
      · have := hq i (by omega)
        rw [Addr.add_mid, Addr.add_mid, ← Nat.add_assoc] at this
        exact this

theorem open_row {w : World} {a : Option Addr} {len cap : Nat} {d : DataW H} {ps : List MemPlace} (h : DataW.Trod enc Try.prog w 0 (fun _ => true) true 39 (.slice a len cap) d ps) (lt : ∀ x ∈ ps, x.block < w.heap.size) :
    ∃ N, IsInts w a len N := by
  obtain ⟨fuel, hf⟩ := h
  rcases open_ints Try.underlying39 Try.underlying3 (by kernel_rfl) hf with ⟨hcs, _⟩ | ⟨x, l, c, zs, hcs, _, hl, hm, hz, hx, hcell, hwz⟩
  · simp [Value.cells] at hcs
    exact ⟨fun _ => 0, .inl hcs.2.1⟩
  · simp [Value.cells] at hcs
    obtain ⟨rfl, rfl, rfl⟩ := hcs
    simp only [if_true] at hz
    refine ⟨fun i => zs.getD i 0, ?_⟩
    by_cases h0 : len = 0
    · exact .inl h0
    · right
      obtain ⟨b, off, spot⟩ := x
      have hs : spot = none := by simpa [Addr.add] using World.cell?_spot (hcell 0 (by omega))
      subst hs
      simp only [Prod.mk.injEq] at hx
      refine ⟨b, off, rfl, by omega, ?_, fun i hi => ?_⟩
      · have := lt (.cell b (off + 0)) (by
          rw [hx.2]
          simp only [MemPlace.row, List.mem_map, List.mem_range]
          exact ⟨0, by omega, rfl⟩)
        exact this
      · have h := hcell i (by omega)
        rw [Addr.add_mid] at h
        have hi' : i < zs.length := by omega
        refine ⟨h, hwz _ ?_⟩
        simp [List.getD, hi']
end
end Go.Proofs.Ytaelhjmoiinbiaa
