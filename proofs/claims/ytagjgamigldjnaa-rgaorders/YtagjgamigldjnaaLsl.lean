/-
  Pieces of lists, and lists that are laid anew.
-/
import Derived.Test.YtagjgamigldjnaaLhd
namespace Go.Proofs.Ytagjgamigldjnaa
set_option maxRecDepth 100000
open Go.RowKit

/-- From a place on. -/
def dropA (ao : Option Addr) (c k : Nat) : Option Addr := if c = k then ao else ao.map (·.add (k * 26))
theorem slice_from (w : World) {ao : Option Addr} {m c k : Nat} (hk : k ≤ m) : (Instr.sliceAt 22 (.slice ao m c) (some (.int .i64 (k : Int))) none none).run Try.prog w = .ok (.slice (dropA ao c k) (m - k) (c - k)) w := by
  have h2 : (k : Int) ≤ (m : Int) := by omega
  have hs : (sizeOf 41).run Try.prog w = .ok 26 w := Try.sizeOf41 w
  have ht : Try.prog.underlying 22 = some (.slice 41) := Try.underlying22
  have he : Try.prog.elem 22 = 41 := by kernel_rfl
  rw [run_sliceAt_slice w 22 _ _ _ _ (by rw [he]; exact ht), run_slice_l w 22 ao m c (by rw [he]; exact ht) .i64 (k : Int) (by omega) h2, he, hs, Result.andThen_ok]
  unfold sliced dropA
  simp
theorem Evs.drop {w : World} {ao : Option Addr} {m c : Nat} {E : List Ev} (h : Evs w ao m c E) {k : Nat} (hk : k ≤ m) : Evs w (dropA ao c k) (m - k) (c - k) (E.drop k) := by
  have hl := h.len
  have hr := h.room
  have ht := h.top
  refine ⟨by rw [List.length_drop]; omega, by omega, by omega, fun e => ?_, fun ad ha j u hu => ?_, fun e he => h.wide e (List.mem_of_mem_drop he)⟩
  · have : ao = none := by
      unfold dropA at e
      split at e
      · exact e
      · cases ao with
        | none => rfl
        | some _ => cases e
    have := h.zero this
    omega
  · have hlen : (evs (E.take k)).length = k * 26 := by
      rw [evs_length (fun e he => h.wide e (List.mem_of_mem_take he)), List.length_take]
      congr 1
      omega
    have e1 : evs E = evs (E.take k) ++ evs (E.drop k) := by rw [← evs_append, List.take_append_drop]
    have hjl := (List.getElem?_eq_some_iff.1 hu).1
    have hu2 : (evs E)[k * 26 + j]? = some u := by
      rw [e1, List.getElem?_append_right (by omega), hlen, show k * 26 + j - k * 26 = j by omega]
      exact hu
    by_cases hck : c = k
    · have : E.drop k = [] := List.drop_eq_nil_of_le (by omega)
      rw [this] at hu
      cases hu
    · unfold dropA at ha
      rw [if_neg hck] at ha
      cases ao with
      | none => cases ha
      | some a0 =>
        have ha' : a0.add (k * 26) = ad := by simpa using ha
        rw [← ha', Go.Deep.add_add]
        exact h.cells a0 rfl _ _ hu2
theorem exec_slicef {o : Oper} {a : Act} {w : World} {x y : Operand} {t : TypeId} {vx vy v : Value} (ho : o.op = .slice t x (some y) none none) (hx : a.eval x = vx) (hy : a.eval y = vy) (hr : (Instr.sliceAt t vx (some vy) none none).run Try.prog w = .ok v w) : (execOp a.eval o).run Try.prog w = .ok (.value v) w := by
  unfold execOp
  simp only [ho, hx, hy, Option.map_some, Option.map_none, Sem.run_bind, Sem.run_pure, hr]
  rfl
theorem run_build0 (w : World) : (Instr.buildSlice 22 0 #[]).run Try.prog w = .ok (.slice (some ⟨w.heap.size, 0, none⟩) 0 0) (w.alloc (.cells #[] 41)) := by
  obtain ⟨i0, hi, hz0, hz1, hz2⟩ := info_parts infoE
  have ht : Try.prog.underlying 22 = some (.slice 41) := Try.underlying22
  simp [Instr.buildSlice, run_underlying ht, sizeOf, typeInfo, hi, Instr.fill, newRow]
  have h0 : Array.range 0 = #[] := by apply Array.eq_empty_of_size_eq_zero; simp
  rw [h0, Array.map_empty]
theorem wp_build0 {o : Oper} {a : Act} {w w' : World} {K : Act → World → Prop} {Q : Exit → Act → World → Prop} {ty : TypeId} {n : Nat} {v : Value} (ho : o.op = .buildSlice ty n #[]) (hr : (Instr.buildSlice ty n #[]).run Try.prog w = .ok v w') (h : K (a.put o.dst v) w') : o.wp Try.prog a w K Q := by
  unfold Oper.wp execOp
  simp only [ho, List.map_toArray, List.map_nil, Sem.run_bind, Sem.run_pure, Result.andThen_ok, hr]
  exact h
end Go.Proofs.Ytagjgamigldjnaa
