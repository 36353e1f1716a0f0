/-
  A call of the script in memory: laid, read, its parts; a list of one.
-/
import Derived.Test.YthdhnilfkpbmpaaLbg
namespace Go.Proofs.Ythdhnilfkpbmpaa
set_option maxRecDepth 100000
set_option linter.unusedVariables false
open Go.RowKit

def LiesC (w : World) (g : Nat) (o : Cl) : Prop := w.heap[g]? = some (.cells (clc o) 39 (0, 0))
theorem LiesC.lt {w : World} {g : Nat} {o : Cl} (h : LiesC w g o) : g < w.heap.size := by
  rw [LiesC] at h
  exact (Array.getElem?_eq_some_iff.1 h).1
theorem LiesC.below {B g : Nat} {w w' : World} {o : Cl} (h : LiesC w g o) (hb : Below B w w') (hg : g < B) : LiesC w' g o := by
  rw [LiesC, hb.block g hg]; exact h
theorem liesC_new (w : World) (o : Cl) : LiesC (w.alloc (.cells (clc o) 39)) w.heap.size o := heap_alloc_new w _
theorem LiesC.row {w : World} {g : Nat} {o' : Cl} (h : LiesC w g o') (o : Cl) : LiesC (w.setRow g (clc o)) g o := setRow_heap w g _ _ _ _ h
theorem LiesC.range {w : World} {g : Nat} {o : Cl} (h : LiesC w g o) : w.rangeAt g 0 (cll o) := fun j v hv => by
  rw [Nat.zero_add, cell_of_row w g j _ _ _ h]
  simpa [clc] using hv
theorem LiesC.ev {w : World} {g : Nat} {o : Cl} (h : LiesC w g o) (hw : Wide o.e) : w.rangeAt g 4 (evl o.e) := fun j v hv => by
  have hj : j < 26 := by have := (List.getElem?_eq_some_iff.1 hv).1; rw [evl_length _ hw.1] at this; exact this
  have := h.range (4 + j) v (by rw [cll_mid hw j hj]; exact hv)
  rw [Nat.zero_add] at this
  exact this
theorem range_ev {w : World} {b k : Nat} {o : Cl} (h : w.rangeAt b k (cll o)) (hw : Wide o.e) : w.rangeAt b (k + 4) (evl o.e) := fun j v hv => by
  have hj : j < 26 := by have := (List.getElem?_eq_some_iff.1 hv).1; rw [evl_length _ hw.1] at this; exact this
  have := h (4 + j) v (by rw [cll_mid hw j hj]; exact hv)
  rw [← Nat.add_assoc] at this
  exact this
theorem LiesC.k {w : World} {g : Nat} {o : Cl} (h : LiesC w g o) : w.cell? ⟨g, 0, none⟩ = some (.int .i64 o.kind) := h.range 0 _ rfl
theorem LiesC.s {w : World} {g : Nat} {o : Cl} (h : LiesC w g o) (hw : Wide o.e) : w.cell? ⟨g, 30, none⟩ = some (.string (sb o.s)) := by
  have := h.range 30 _ (cll_tail hw 0)
  exact this
theorem LiesC.l {w : World} {g : Nat} {o : Cl} (h : LiesC w g o) (hw : Wide o.e) : w.cell? ⟨g, 31, none⟩ = some (.slice o.la o.lm o.lc) := by
  have := h.range 31 _ (cll_tail hw 1)
  exact this
theorem sizeC (o : Cl) (h : Wide o.e) : (Try.prog.info? 39).map (·.size) = some (clc o).size := by
  have : (clc o).size = 32 := by rw [clc, List.size_toArray, cll_length h]
  exact (by kernel_rfl : (Try.prog.info? 39).map (·.size) = some 32).trans (by rw [this])
theorem none_wide : Wide Cl.none.e := ⟨rfl, ⟨by simp [Cl.none, zv], by simp [Cl.none, zv], by simp [Cl.none, zv]⟩⟩
theorem none_cells : clc Cl.none = #[.int .i64 0, .int .i64 0, .int .i64 0, .int .i64 0, .int .i64 0, .int .i64 0, .int .i64 0, .int .i64 0, .int .i64 0, .int .i64 0, .int .i64 0, .int .i64 0, .int .i64 0, .int .i64 0, .int .i64 0, .int .i64 0, .int .i64 0, .int .i64 0, .int .i64 0, .int .i64 0, .int .i64 0, .int .i64 0, .int .i64 0, .int .i64 0, .string ⟨#[]⟩, .string ⟨#[]⟩, .string ⟨#[]⟩, .int .i64 0, .int .i64 0, .int .i64 0, .string ⟨#[]⟩, .slice none 0 0] := rfl
section
variable {ops : Array Oper} {rest : List Oper} {o : Oper} {a : Act} {w : World} {Q : Exit → Act → World → Prop} {x y : Operand} {g k : Nat} {c c' : Cl}
theorem load_cl (hw : Region.wanted o (yielded ops a.tmps) = true) (ho : o.op = .load 39 x) (hx : a.eval x = .pointer (some ⟨g, k, none⟩)) (hg : w.rangeAt g k (cll c)) (hc : Wide c.e)
    (h : wpList Try.prog ops Q rest (a.put o.dst (.agg (clc c))) w) : wpList Try.prog ops Q (o :: rest) a w :=
  wpList_step fun K hK => by
    rw [if_pos hw]
    exact wp_load_mid 39 x ho g k hx (cll c) _ hg Try.underlying39 rfl (sizeC c hc) (hK _ _ h)
theorem store_cl (hgd : o.guard = none) (ho : o.op = .store 39 x y) (hx : a.eval x = .pointer (some ⟨g, 0, none⟩)) (hy : a.eval y = .agg (clc c)) (hg : LiesC w g c') (hc : Wide c.e) (hc' : Wide c'.e)
    (h : wpList Try.prog ops Q rest (a.put o.dst undef) (w.setRow g (clc c))) : wpList Try.prog ops Q (o :: rest) a w :=
  wpList_store_row hgd 39 x y ho g (clc c) hx hy 39 _ hg (sizeC c hc) (by simp [clc, cll_length hc, cll_length hc']) (clc_one c) h
theorem run_buildC (w : World) (c : Cl) (h : Wide c.e) : (Instr.buildSlice 22 1 #[(0, .agg (clc c))]).run Try.prog w = .ok (.slice (some ⟨w.heap.size, 0, none⟩) 1 1) (w.alloc (.cells (clc c) 39)) := by
  have hz : (Try.prog.info? 39).map (fun i => (i.zero, i.size)) = some (some (.agg (clc Cl.none)), 32) := by kernel_rfl
  cases hi : Try.prog.info? 39 with
  | none => rw [hi] at hz; cases hz
  | some i0 =>
    rw [hi] at hz
    simp only [Option.map_some, Option.some.injEq, Prod.mk.injEq] at hz
    obtain ⟨hz0, hz1⟩ := hz
    refine run_buildSlice w 22 39 1 _ (clc c) i0 _ Try.underlying22 hi hz0 (by rw [hz1]; decide) (by rw [hz1]; decide) ?_
    rw [hz1]
    have := Great.fill_whole (s := 32) (by omega) [.agg (clc c)] ((Array.range (1 * 32)).map ((Value.agg (clc Cl.none)).cells[· % (Value.agg (clc Cl.none)).cells.size]!)) (by
      intro v hv
      rw [List.mem_singleton.1 hv]
      show (clc c).size = 32
      simp [clc, cll_length h]) (by simp)
    refine Eq.trans this ?_
    simp [Value.cells]
theorem build_cl (hw : Region.wanted o (yielded ops a.tmps) = true) (ho : o.op = .buildSlice 22 1 #[(0, x)]) (hx : a.eval x = .agg (clc c)) (hc : Wide c.e)
    (h : wpList Try.prog ops Q rest (a.put o.dst (.slice (some ⟨w.heap.size, 0, none⟩) 1 1)) (w.alloc (.cells (clc c) 39))) : wpList Try.prog ops Q (o :: rest) a w :=
  wpList_step fun K hK => by
    rw [if_pos hw]
    exact wp_buildS ho hx (run_buildC w c hc) (hK _ _ h)
end
theorem cls_one {w : World} {g : Nat} {o : Cl} (h : LiesC w g o) (hc : IsCl w o) : IsCls w (some ⟨g, 0, none⟩) 1 (fun _ => o) :=
  ⟨by unfold maxLen; omega, .inr ⟨g, 0, rfl, h.lt, fun i hi => by
    obtain rfl : i = 0 := by omega
    exact ⟨h.range, hc⟩⟩⟩
theorem IsCl.below {w w' : World} {o : Cl} {B : Nat} (h : IsCl w o) (hb : Below B w w') (hB : w.heap.size ≤ B) : IsCl w' o := ⟨h.e, h.s, h.L.below hb hB⟩
theorem IsCls.below {w w' : World} {a : Option Addr} {m B : Nat} {O : Nat → Cl} (h : IsCls w a m O) (hb : Below B w w') (hB : w.heap.size ≤ B) : IsCls w' a m O := by
  refine ⟨h.1, ?_⟩
  rcases h.2 with h0 | ⟨b, off, rfl, hlt, hall⟩
  · exact .inl h0
  · refine .inr ⟨b, off, rfl, Nat.lt_of_lt_of_le hlt hb.size, fun i hi => ⟨fun j u hu => ?_, (hall i hi).2.below hb hB⟩⟩
    have := (hall i hi).1 j u hu
    exact (hb.cell (Nat.lt_of_lt_of_le (World.block_lt_of_cell? w _ this) hB)).trans this
end Go.Proofs.Ythdhnilfkpbmpaa
