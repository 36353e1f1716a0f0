/-
  Lists of events that are built: of none, of two.
-/
import Derived.Test.YtmacebekodndjaaGba
namespace Go.Proofs.Ytmacebekodndjaa
set_option maxRecDepth 100000
open Go.RowKit

/-- A list of two events. -/
theorem run_build2 (w : World) (e f : Ev) (he : e.deps.length = 16) (hf : f.deps.length = 16) : (Instr.buildSlice 22 2 #[(0, .agg (evc e)), (1, .agg (evc f))]).run Try.prog w = .ok (.slice (some ⟨w.heap.size, 0, none⟩) 2 2) (w.alloc (.cells (evc e ++ evc f) 43)) := by
  obtain ⟨i0, hi, hz0, hz1, hz2⟩ := info_parts infoE
  refine run_buildSlice w 22 43 2 _ (evc e ++ evc f) i0 _ Try.underlying22 hi hz0 (by rw [hz1]; decide) (by rw [hz1]; decide) ?_
  rw [hz1]
  have := Great.fill_whole (s := 26) (by omega) [.agg (evc e), .agg (evc f)] ((Array.range (2 * 26)).map ((Value.agg (evc zv)).cells[· % (Value.agg (evc zv)).cells.size]!)) (by
    intro v hv
    rcases List.mem_cons.1 hv with rfl | hv
    · exact evc_size e he
    · rw [List.mem_singleton.1 hv]; exact evc_size f hf) (by simp)
  refine Eq.trans this ?_
  simp [Value.cells]
theorem build_ev2 {ops : Array Oper} {rest : List Oper} {o : Oper} {a : Act} {w : World} {Q : Exit → Act → World → Prop} {x y : Operand} {u v : Ev} (hw : Region.wanted o (yielded ops a.tmps) = true) (ho : o.op = .buildSlice 22 2 #[(0, x), (1, y)]) (hx : a.eval x = .agg (evc u)) (hy : a.eval y = .agg (evc v)) (hu : u.deps.length = 16) (hv : v.deps.length = 16)
    (h : wpList Try.prog ops Q rest (a.put o.dst (.slice (some ⟨w.heap.size, 0, none⟩) 2 2)) (w.alloc (.cells (evc u ++ evc v) 43))) : wpList Try.prog ops Q (o :: rest) a w :=
  wpList_step fun K hK => by
    rw [if_pos hw]
    have hr := run_build2 w u v hu hv
    unfold Oper.wp execOp
    simp only [ho, List.map_toArray, List.map_cons, List.map_nil, hx, hy, Sem.run_bind, Sem.run_pure, Result.andThen_ok, hr]
    exact hK _ _ h
theorem evs_double (w : World) (u v : Ev) (hu : Wide u) (hv : Wide v) : Evs (w.alloc (.cells (evc u ++ evc v) 43)) (some ⟨w.heap.size, 0, none⟩) 2 2 [u, v] :=
  ⟨rfl, Nat.le_refl _, by unfold maxLen; omega, (fun h => by cases h), fun ad ha j x hx => by
    obtain rfl := Option.some.inj ha
    have e1 : evs [u, v] = evl u ++ evl v := by simp [evs]
    rw [e1] at hx
    rw [Addr.add_mid, Nat.zero_add, cell_of_row _ _ j _ _ _ (heap_alloc_new w (.cells (evc u ++ evc v) 43))]
    show (evc u ++ evc v)[j]? = some x
    rw [← hx, ← Array.getElem?_toList]
    simp [evc], fun x hx => by
    rcases List.mem_cons.1 hx with rfl | hx
    · exact hu
    · rw [List.mem_singleton.1 hx]; exact hv⟩
theorem wide_one {x : Ev} (hx : Wide x) : ∀ e ∈ [x], Wide e := fun e he => by rw [List.mem_singleton.1 he]; exact hx
theorem wide_two {x y : Ev} (hx : Wide x) (hy : Wide y) : ∀ e ∈ [x, y], Wide e := fun e he => by
  rcases List.mem_cons.1 he with rfl | he
  · exact hx
  · exact wide_one hy e he
theorem run_build0 (w : World) : (Instr.buildSlice 22 0 #[]).run Try.prog w = .ok (.slice (some ⟨w.heap.size, 0, none⟩) 0 0) (w.alloc (.cells #[] 43)) := by
  obtain ⟨i0, hi, hz0, hz1, hz2⟩ := info_parts infoE
  have ht : Try.prog.underlying 22 = some (.slice 43) := Try.underlying22
  simp [Instr.buildSlice, run_underlying ht, sizeOf, typeInfo, hi, Instr.fill, newRow]
  have h0 : Array.range 0 = #[] := by apply Array.eq_empty_of_size_eq_zero; simp
  rw [h0, Array.map_empty]
theorem build_ev0 {ops : Array Oper} {rest : List Oper} {o : Oper} {a : Act} {w : World} {Q : Exit → Act → World → Prop} (hw : Region.wanted o (yielded ops a.tmps) = true) (ho : o.op = .buildSlice 22 0 #[])
    (h : wpList Try.prog ops Q rest (a.put o.dst (.slice (some ⟨w.heap.size, 0, none⟩) 0 0)) (w.alloc (.cells #[] 43))) : wpList Try.prog ops Q (o :: rest) a w :=
  wpList_step fun K hK => by
    rw [if_pos hw]
    unfold Oper.wp execOp
    simp only [ho, List.map_toArray, List.map_nil, Sem.run_bind, Sem.run_pure, Result.andThen_ok, run_build0 w]
    exact hK _ _ h
end Go.Proofs.Ytmacebekodndjaa
