/-
  Single operations over events and vectors.
-/
import Derived.Test.YthpkpmcccpfabaaQpl
import Derived.Test.YthpkpmcccpfabaaYex
import Derived.Test.YthpkpmcccpfabaaHas
import Derived.Test.YthpkpmcccpfabaaGba
namespace Go.Proofs.Ythpkpmcccpfabaa
set_option maxRecDepth 100000
open Go.RowKit

theorem LiesE.dotAt {w : World} {g : Nat} {e : Ev} (h : LiesE w g e) : (loadVar 38 ⟨g, 0, none⟩).run Try.prog w = .ok (.agg (dotc e.r e.n)) w := by
  have hr : w.rangeAt g 0 (dotc e.r e.n).toList := fun j u hu => by
    rw [Nat.zero_add, cell_of_row w _ j _ _ _ h]
    rcases j with _ | _ | j
    · simpa [dotc, evc, evl] using hu
    · simpa [dotc, evc, evl] using hu
    · simp [dotc] at hu
  exact run_loadVar_mid (P := Try.prog) w g 0 38 _ _ hr Try.underlying38 rfl (by kernel_rfl)
theorem field_ev0 (w : World) (g : Nat) : (Instr.fieldAt 44 (.pointer (some ⟨g, 0, none⟩)) 0).run Try.prog w = .ok (.pointer (some ⟨g, 0, none⟩)) w := by kernel_rfl
theorem field_ev2 (w : World) (g : Nat) : (Instr.fieldAt 44 (.pointer (some ⟨g, 0, none⟩)) 2).run Try.prog w = .ok (.pointer (some ⟨g, 3, none⟩)) w := by kernel_rfl
theorem index_vv (w : World) (g n k : Nat) (hk : k < 16) : (Instr.indexAt 40 (.pointer (some ⟨g, n, none⟩)) (.int .i64 (k : Int))).run Try.prog w = .ok (.pointer (some ⟨g, n + k, none⟩)) w := by
  have hu : Try.prog.underlying 40 = some (.array 16 3) := by kernel_rfl
  have e : (⟨g, n, none⟩ : Addr).add k = ⟨g, n + k, none⟩ := by unfold Addr.add; split <;> simp_all
  simp [Instr.indexAt, asIntOf, run_underlying hu, Sem.run_bind, Instr.sureAddr, hk, e]
theorem field_d0 (w : World) (g : Nat) : (Instr.fieldAt 38 (.pointer (some ⟨g, 0, none⟩)) 0).run Try.prog w = .ok (.pointer (some ⟨g, 0, none⟩)) w := by kernel_rfl
theorem field_d1 (w : World) (g : Nat) : (Instr.fieldAt 38 (.pointer (some ⟨g, 0, none⟩)) 1).run Try.prog w = .ok (.pointer (some ⟨g, 1, none⟩)) w := by kernel_rfl
theorem field_ev1 (w : World) (g : Nat) : (Instr.fieldAt 44 (.pointer (some ⟨g, 0, none⟩)) 1).run Try.prog w = .ok (.pointer (some ⟨g, 2, none⟩)) w := by kernel_rfl
theorem load_int {w : World} {ad : Addr} {v : Value} (h : w.cell? ad = some v) : (loadVar 3 ad).run Try.prog w = .ok v w := by
  have h3 : Try.prog.underlying 3 = some (.int .i64) := by kernel_rfl
  go_simp
theorem eqGuard_vv (w : World) {op : BinOp} {x y : Operand} (a b : List Int) : (eqGuard op 40 x y (.agg (vals a)) (.agg (vals b))).run Try.prog w = .ok () w := by
  have := plain_vec
  go_simp
theorem y_alloc {o : Oper} {a : Act} {w w' : World} {K : Act → World → Prop} {Q : Exit → Act → World → Prop} {ty : TypeId} {v : Value} (ho : o.op = .alloc ty) (hr : (Instr.alloc ty true (.tuple #[])).run Try.prog w = .ok v w') (h : K (a.put o.dst v) w') : o.wp Try.prog a w K Q := by
  unfold Oper.wp execOp
  simp only [ho, Sem.run_bind, Sem.run_pure, Result.andThen_ok, hr]
  exact h
theorem alloc_vv (w : World) : (Instr.alloc 40 true (.tuple #[])).run Try.prog w = .ok (.pointer (some ⟨w.heap.size, 0, none⟩)) (w.alloc (.cells (vals zeros) 40)) := by
  rw [zeros_vals]
  simp [go_sem]
theorem store_vv {w : World} {g : Nat} {z v : List Int} (hg : Lies w g z) (hz : z.length = 16) (hv : v.length = 16) : (storeVar 40 ⟨g, 0, none⟩ (.agg (vals v))).run Try.prog w = .ok () (w.setRow g (vals v)) :=
  run_storeVar_row (P := Try.prog) w g 40 40 (vals z) (vals v) hg (by rw [vals_size, hv]; kernel_rfl) (by rw [vals_size, vals_size, hz, hv]) (vals_one v)
theorem enters_join (xs : Array Value) (w : World) : (callFunc 52 xs).run Try.prog w = .ok (.enter 52 xs) w := enters Try.func52 (by kernel_rfl) (by kernel_rfl) xs w
theorem each_len {a b : List Int} (la : a.length = 16) (lb : b.length = 16) : (each max a b).length = 16 := each_length max a b la lb
theorem load_dp3 {w : World} {g : Nat} {e : Ev} (h : LiesE w g e) (hl : e.deps.length = 16) : (loadVar 40 ⟨g, 3, none⟩).run Try.prog w = .ok (.agg (vals e.deps)) w :=
  run_loadVar_mid (P := Try.prog) w g 3 40 _ _ (h.deps hl) Try.underlying40 rfl (size16 _ hl)
end Go.Proofs.Ythpkpmcccpfabaa
