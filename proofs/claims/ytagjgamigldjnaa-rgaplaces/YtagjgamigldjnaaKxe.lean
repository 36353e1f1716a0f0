/-
  An event more: how it is built, laid and copied.
-/
import Derived.Test.YtagjgamigldjnaaKwk
import Derived.Test.YtagjgamigldjnaaLun
import Derived.Test.YtagjgamigldjnaaKpx
import Derived.Test.YtagjgamigldjnaaKvb
namespace Go.Proofs.Ytagjgamigldjnaa
set_option maxRecDepth 100000
open Go.RowKit

theorem LiesE.setL {w : World} {g : Nat} {e : Ev} (h : LiesE w g e) (j : Nat) (v : Value) : (w.setCell ⟨g, j, none⟩ v).heap[g]? = some (.cells ((evl e).set j v).toArray 41 (0, 0)) := by
  rw [heap_setCell_same w g j _ _ _ h, evc, List.setIfInBounds_toArray]
theorem LiesE.setT {w : World} {g : Nat} {e : Ev} (h : LiesE w g e) (t : Int) : LiesE (w.setCell ⟨g, 2, none⟩ (.int .i64 t)) g { e with t := t } := h.setL 2 _
theorem LiesE.setDep {w : World} {g : Nat} {e : Ev} (h : LiesE w g e) (j : Nat) (hl : e.deps.length = 16) (hj : j < 16) (x : Int) : LiesE (w.setCell ⟨g, 3 + j, none⟩ (.int .i64 x)) g { e with deps := e.deps.set j x } := by
  rw [LiesE, h.setL]
  congr 2
  rw [evc]
  congr 1
  rw [evl, List.set_append_right _ _ (by simp), List.set_append_left _ _ (by simp; omega), evl]
  simp only [List.length_cons, List.length_nil]
  rw [show 3 + j - (0 + 1 + 1 + 1) = j by omega, List.map_set]
  rfl
theorem run_indexAt_dep (w : World) (g n k : Nat) (hk : k < 16) : (Instr.indexAt 37 (.pointer (some ⟨g, n, none⟩)) (.int .i64 (k : Int))).run Try.prog w = .ok (.pointer (some ⟨g, n + k, none⟩)) w := by
  have hu : Try.prog.underlying 37 = some (.array 16 3) := by kernel_rfl
  have e : (⟨g, n, none⟩ : Addr).add k = ⟨g, n + k, none⟩ := by unfold Addr.add; split <;> simp_all
  simp [Instr.indexAt, asIntOf, run_underlying hu, Sem.run_bind, Instr.sureAddr, hk, e]
theorem enters_items (xs : Array Value) (w : World) : (callFunc 16 xs).run Try.prog w = .ok (.enter 16 xs) w := enters Try.func16 (by kernel_rfl) (by kernel_rfl) xs w
theorem enters_same (xs : Array Value) (w : World) : (callFunc 13 xs).run Try.prog w = .ok (.enter 13 xs) w := enters Try.func13 (by kernel_rfl) (by kernel_rfl) xs w
section
variable {o : Oper} {a : Act} {w : World} {x y z u : Operand} {p q r s v : Value} {ty : TypeId} {i j k l : Nat}
theorem exec_b1 (ho : o.op = .build ty #[(i, x)]) (hx : a.eval x = p) (hr : (Instr.build ty #[(i, p)]).run Try.prog w = .ok v w) : (execOp a.eval o).run Try.prog w = .ok (.value v) w := by
  unfold execOp
  simp only [ho, List.map_toArray, List.map_cons, List.map_nil, hx, Sem.run_bind, Sem.run_pure, Result.andThen_ok, hr]
theorem exec_b2 (ho : o.op = .build ty #[(i, x), (j, y)]) (hx : a.eval x = p) (hy : a.eval y = q) (hr : (Instr.build ty #[(i, p), (j, q)]).run Try.prog w = .ok v w) : (execOp a.eval o).run Try.prog w = .ok (.value v) w := by
  unfold execOp
  simp only [ho, List.map_toArray, List.map_cons, List.map_nil, hx, hy, Sem.run_bind, Sem.run_pure, Result.andThen_ok, hr]
theorem exec_b3 (ho : o.op = .build ty #[(i, x), (j, y), (k, z)]) (hx : a.eval x = p) (hy : a.eval y = q) (hz : a.eval z = r) (hr : (Instr.build ty #[(i, p), (j, q), (k, r)]).run Try.prog w = .ok v w) : (execOp a.eval o).run Try.prog w = .ok (.value v) w := by
  unfold execOp
  simp only [ho, List.map_toArray, List.map_cons, List.map_nil, hx, hy, hz, Sem.run_bind, Sem.run_pure, Result.andThen_ok, hr]
theorem exec_b4 (ho : o.op = .build ty #[(i, x), (j, y), (k, z), (l, u)]) (hx : a.eval x = p) (hy : a.eval y = q) (hz : a.eval z = r) (hu : a.eval u = s) (hr : (Instr.build ty #[(i, p), (j, q), (k, r), (l, s)]).run Try.prog w = .ok v w) : (execOp a.eval o).run Try.prog w = .ok (.value v) w := by
  unfold execOp
  simp only [ho, List.map_toArray, List.map_cons, List.map_nil, hx, hy, hz, hu, Sem.run_bind, Sem.run_pure, Result.andThen_ok, hr]
end
/-- What takes a node away. -/
def remv (key : List UInt8) (r n : Int) (v : List Int) : Ev := ⟨0, 0, 0, v, 10, key, [], [], 0, r, n⟩
theorem build_rop (key : List UInt8) (r n : Int) (w : World) : (Instr.build 39 #[(0, .int .i64 10), (1, .string (sb key)), (5, .agg (dotc r n))]).run Try.prog w = .ok (.agg (opc (remv key r n zeros))) w := by kernel_rfl
theorem build_rev (key : List UInt8) (r n : Int) (w : World) : (Instr.build 41 #[(3, .agg (opc (remv key r n zeros)))]).run Try.prog w = .ok (.agg (evc (remv key r n zeros))) w := by kernel_rfl
/-- What is pushed. -/
def pushv (r n t : Int) (key value : List UInt8) (rr rn : Int) : Ev := ⟨r, n, t, zeros, 9, key, [], value, 0, rr, rn⟩
theorem build_pop (r n : Int) (key value : List UInt8) (rr rn : Int) (w : World) : (Instr.build 39 #[(0, .int .i64 9), (1, .string (sb key)), (3, .string (sb value)), (5, .agg (dotc rr rn))]).run Try.prog w = .ok (.agg (opc (pushv r n 0 key value rr rn))) w := by kernel_rfl
theorem build_pev (r n : Int) (key value : List UInt8) (rr rn : Int) (w : World) : (Instr.build 41 #[(0, .agg (dotc r n)), (3, .agg (opc (pushv r n 0 key value rr rn)))]).run Try.prog w = .ok (.agg (evc (pushv r n 0 key value rr rn))) w := by kernel_rfl
theorem cut_rem' (cut : Int) (m : Nat) (hm : 0 < m) (h : (Lit.int .u64 cut).wf = true) : ∃ k : Nat, cut.tmod (m : Int) = (k : Int) ∧ k < m := by
  have h0 : 0 ≤ cut := by
    simp [Lit.wf, IntKind.min, IntKind.max, IntKind.signed] at h
    omega
  rw [Int.tmod_eq_emod_of_nonneg h0]
  have h1 := Int.emod_nonneg cut (show (m : Int) ≠ 0 by omega)
  have h2 := Int.emod_lt_of_pos cut (show (0 : Int) < (m : Int) by omega)
  exact ⟨(cut % (m : Int)).toNat, by omega, by omega⟩
def depTo (i : Nat) : List Int := List.replicate i 1048576 ++ List.replicate (16 - i) 0
theorem depTo_len {i : Nat} (h : i ≤ 16) : (depTo i).length = 16 := by simp [depTo]; omega
theorem depTo_set {i : Nat} (h : i < 16) : (depTo i).set i 1048576 = depTo (i + 1) := by
  unfold depTo
  obtain ⟨n, hn⟩ : ∃ n, 16 - i = n + 1 := ⟨15 - i, by omega⟩
  rw [hn, show 16 - (i + 1) = n by omega, List.set_append_right _ _ (by simp), List.length_replicate, Nat.sub_self, List.replicate_succ, List.set_cons_zero, List.replicate_succ', List.append_assoc]
  rfl
theorem depTo_all (r : Nat) (hr : r < 16) : (depTo 16).getD r 0 = 1048576 := by
  unfold depTo
  rw [List.getD_eq_getElem?_getD, List.getElem?_append_left (by simpa using hr), List.getElem?_replicate]
  simp [hr]
theorem rem_covers {key : List UInt8} {p : Ev} (h : 0 ≤ p.r ∧ p.r < 16 ∧ 1 ≤ p.n ∧ p.n ≤ 1048576) : coversE (remv key p.r p.n (depTo 16)) p = true := by
  unfold coversE hasv okdot remv
  rw [depTo_all _ (by omega)]
  simp
  omega
theorem rem_wide {key : List UInt8} {r n : Int} {v : List Int} (hv : v.length = 16) (hk : key.length ≤ 9223372036854775807) : Wide (remv key r n v) := ⟨hv, hk, by simp [remv], by simp [remv]⟩
theorem push_wide {key value : List UInt8} {r n t rr rn : Int} (hk : key.length ≤ 9223372036854775807) (hv : value.length ≤ 9223372036854775807) : Wide (pushv r n t key value rr rn) := ⟨rfl, hk, by simp [pushv], hv⟩
end Go.Proofs.Ytagjgamigldjnaa
