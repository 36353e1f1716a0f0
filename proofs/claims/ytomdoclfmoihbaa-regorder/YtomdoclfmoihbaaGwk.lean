/-
  What the laws' awake comes to.
-/
import Derived.Test.YtomdoclfmoihbaaGrf
namespace Go.Proofs.Ytomdoclfmoihbaa
set_option maxRecDepth 100000
open Go.RowKit

/-- A list of two events. -/
theorem run_build2 (w : World) (e f : Ev) (he : e.deps.length = 16) (hf : f.deps.length = 16) : (Instr.buildSlice 22 2 #[(0, .agg (evc e)), (1, .agg (evc f))]).run Try.prog w = .ok (.slice (some ⟨w.heap.size, 0, none⟩) 2 2) (w.alloc (.cells (evc e ++ evc f) 31)) := by
  obtain ⟨i0, hi, hz0, hz1, hz2⟩ := info_parts infoE
  refine run_buildSlice w 22 31 2 _ (evc e ++ evc f) i0 _ Try.underlying22 hi hz0 (by rw [hz1]; decide) (by rw [hz1]; decide) ?_
  rw [hz1]
  have := Great.fill_whole (s := 26) (by omega) [.agg (evc e), .agg (evc f)] ((Array.range (2 * 26)).map ((Value.agg (evc zv)).cells[· % (Value.agg (evc zv)).cells.size]!)) (by
    intro v hv
    rcases List.mem_cons.1 hv with rfl | hv
    · exact evc_size e he
    · rw [List.mem_singleton.1 hv]; exact evc_size f hf) (by simp)
  refine Eq.trans this ?_
  simp [Value.cells]
theorem build_ev2 {ops : Array Oper} {rest : List Oper} {o : Oper} {a : Act} {w : World} {Q : Exit → Act → World → Prop} {x y : Operand} {u v : Ev} (hw : Region.wanted o (yielded ops a.tmps) = true) (ho : o.op = .buildSlice 22 2 #[(0, x), (1, y)]) (hx : a.eval x = .agg (evc u)) (hy : a.eval y = .agg (evc v)) (hu : u.deps.length = 16) (hv : v.deps.length = 16)
    (h : wpList Try.prog ops Q rest (a.put o.dst (.slice (some ⟨w.heap.size, 0, none⟩) 2 2)) (w.alloc (.cells (evc u ++ evc v) 31))) : wpList Try.prog ops Q (o :: rest) a w :=
  wpList_step fun K hK => by
    rw [if_pos hw]
    have hr := run_build2 w u v hu hv
    unfold Oper.wp execOp
    simp only [ho, List.map_toArray, List.map_cons, List.map_nil, hx, hy, Sem.run_bind, Sem.run_pure, Result.andThen_ok, hr]
    exact hK _ _ h
theorem evs_double (w : World) (u v : Ev) (hu : Wide u) (hv : Wide v) : Evs (w.alloc (.cells (evc u ++ evc v) 31)) (some ⟨w.heap.size, 0, none⟩) 2 2 [u, v] :=
  ⟨rfl, Nat.le_refl _, by unfold maxLen; omega, (fun h => by cases h), fun ad ha j x hx => by
    obtain rfl := Option.some.inj ha
    have e1 : evs [u, v] = evl u ++ evl v := by simp [evs]
    rw [e1] at hx
    rw [Addr.add_mid, Nat.zero_add, cell_of_row _ _ j _ _ _ (heap_alloc_new w (.cells (evc u ++ evc v) 31))]
    show (evc u ++ evc v)[j]? = some x
    rw [← hx, ← Array.getElem?_toList]
    simp [evc], fun x hx => by
    rcases List.mem_cons.1 hx with rfl | hx
    · exact hu
    · rw [List.mem_singleton.1 hx]; exact hv⟩

def aw1 : Ev := ⟨0, 0, 5, zeros, 1, [], [], [97], 0, 0, 0⟩
def aw2 : Ev := ⟨0, 0, 6, zeros, 1, [], [], [98], 0, 0, 0⟩
theorem aw1_wide : Wide aw1 := ⟨rfl, ⟨by simp [aw1], by simp [aw1], by simp [aw1]⟩⟩
theorem aw2_wide : Wide aw2 := ⟨rfl, ⟨by simp [aw2], by simp [aw2], by simp [aw2]⟩⟩
theorem aw_value : (orz (latL setE [aw1, aw2])).value = [98] := by decide +kernel
theorem aw_some : (latL setE [aw1, aw2]).isSome = true := by decide +kernel
theorem zv_some : (latL anyE [zv]).isSome = true := by decide +kernel
theorem zv_lat : orz (latL anyE [zv]) = zv := by decide +kernel
set_option maxHeartbeats 1000000 in
theorem awake_any (w : World) : Calls Try.prog 7 #[] w fun e w' => e = .returned (.bool true) ∧ Below w.heap.size w w' := by
  go_enter Try.func7, Try.ntmps7
  go_wp2_with (refine build_ev2 (u := aw1) (v := aw2) rfl rfl rfl rfl rfl rfl ?_)
  refine (gvalue_any (some ⟨w.heap.size, 0, none⟩) 2 2 [aw1, aw2] _ (evs_double w aw1 aw2 aw1_wide aw2_wide) (by omega)).mono ?_
  rintro e w1 ⟨rfl, hb1⟩
  have HB1 : Hid (Below w.heap.size w w1) := ((Below.refl _ w).alloc (Nat.le_refl _) (.cells (evc aw1 ++ evc aw2) 31)).trans (hb1.mono (by simp))
  rw [aw_value, aw_some]
  clear hb1
  go_wp2_with (refine build_ev1 (u := zv) rfl rfl rfl rfl ?_)
  refine (glatest_any (some ⟨w1.heap.size, 0, none⟩) 1 1 [zv] _ (evs_single _ _ zv zv_wide (liesE_new w1 zv)) (by omega)).mono ?_
  rintro e w2 ⟨rfl, hb2⟩
  have hb2' : Below w1.heap.size w1 w2 := ((Below.refl _ w1).alloc (Nat.le_refl _) (.cells (evc zv) 31)).trans (hb2.mono (by simp))
  have hB2 : Below w.heap.size w w2 := HB1.out.trans (hb2'.mono HB1.out.size)
  have hz := liesE_new w2 zv
  have HB3 : Hid (Below w.heap.size w ((w2.alloc (.cells (evc zv) 31)).setRow w2.heap.size (evc zv))) := below_setRow (hB2.alloc hB2.size _) hB2.size _
  rw [zv_some, zv_lat]
  have h98 : (sb [98]).toList = [98] := by rw [ByteArray.toList_eq, data_sb]
  clear hb2 hb2' hB2 HB1
  go_wp2_with (refine store_ev (e := zv) rfl rfl rfl rfl hz rfl rfl ?_)
  go_ret
  exact ⟨rfl, HB3.out⟩
end Go.Proofs.Ytomdoclfmoihbaa
