/-
  What the laws' walks share.
-/
import Derived.Test.YteanpepmncgagaaPaw
import Derived.Test.YteanpepmncgagaaRjo
namespace Go.Proofs.Yteanpepmncgagaa
set_option maxRecDepth 100000
open Go.RowKit

theorem three_vv (w : World) (a b c : List Int) :
    Lies (((w.alloc (.cells (vals a) 35)).alloc (.cells (vals b) 35)).alloc (.cells (vals c) 35)) w.heap.size a ∧
    Lies (((w.alloc (.cells (vals a) 35)).alloc (.cells (vals b) 35)).alloc (.cells (vals c) 35)) (w.heap.size + 1) b ∧
    Lies (((w.alloc (.cells (vals a) 35)).alloc (.cells (vals b) 35)).alloc (.cells (vals c) 35)) (w.heap.size + 1 + 1) c ∧
    Below w.heap.size w (((w.alloc (.cells (vals a) 35)).alloc (.cells (vals b) 35)).alloc (.cells (vals c) 35)) := by
  obtain ⟨h1, h2, h3⟩ := two_vv w a b
  refine ⟨h1.alloc _, h2.alloc _, ?_, h3.alloc h3.size _⟩
  have := lies_new ((w.alloc (.cells (vals a) 35)).alloc (.cells (vals b) 35)) c
  simpa using this
theorem y_conv {o : Oper} {a : Act} {w : World} {x : Operand} {t t' : TypeId} {v u : Value} (ho : o.op = .convert t t' x) (hx : a.eval x = v) (hv : (convert t t' v).run Try.prog w = .ok u w) : (execOp a.eval o).run Try.prog w = .ok (.value u) w := by
  unfold execOp
  simp only [ho, hx, Sem.run_bind, Sem.run_pure, Result.andThen_ok, hv]
theorem conv_u8 (w : World) {m : Int} (h : 0 ≤ m ∧ m ≤ 255) : (convert 5 3 (.int .u8 m)).run Try.prog w = .ok (.int .i64 m) w := by
  have hw : IntKind.i64.wrap m = m := by simp [IntKind.wrap, IntKind.signed, IntKind.bits]; omega
  have h5 : Try.prog.underlying 5 = some (.int .u8) := by kernel_rfl
  have h3 : Try.prog.underlying 3 = some (.int .i64) := by kernel_rfl
  go_simp
theorem wf_u8 {m : Int} (h : (Lit.int .u8 m).wf = true) : 0 ≤ m ∧ m ≤ 255 := by
  have h1 : IntKind.u8.min = 0 := by decide
  have h2 : IntKind.u8.max = 255 := by decide
  simp only [Lit.wf, h1, h2, Bool.and_eq_true, decide_eq_true_eq] at h
  exact h
theorem each_getP (f : Int → Int → Int) (a b : List Int) (i : Nat) (la : a.length = 16) (lb : b.length = 16) (hi : i < 16) : (each f a b).getD i 0 = f (a.getD i 0) (b.getD i 0) := by
  have h1 : i < a.length := by omega
  have h2 : i < b.length := by omega
  rw [each, List.getD, List.getElem?_zipWith, List.getElem?_eq_getElem h1, List.getElem?_eq_getElem h2]
  simp [List.getD, h1, h2]
theorem hasv_join {a b : List Int} {r n : Int} (la : a.length = 16) (lb : b.length = 16) (h : hasv b r n = true) : hasv (each max a b) r n = true := by
  unfold hasv at *
  rw [Bool.and_eq_true] at h ⊢
  obtain ⟨h1, h2⟩ := h
  obtain ⟨h3, h4, -, -⟩ := of_decide_eq_true h1
  have := of_decide_eq_true h2
  refine ⟨h1, decide_eq_true ?_⟩
  rw [each_getP max a b _ la lb (by omega)]
  omega
theorem trim_twice (E : List Ev) (v : List Int) : trimE (trimE E v) v = trimE E v := by
  unfold trimE
  rw [List.filter_filter]
  congr 1
  funext e
  cases hasv v e.r e.n <;> rfl
theorem for_trim (E : List Ev) (cut v t : List Int) (lv : v.length = 16) (lc : cut.length = 16) (m : Int) : forE (trimE E cut) (each max v cut) t m = forE E (each max v cut) t m := by
  unfold forE trimE
  rw [List.filter_filter]
  congr 2
  funext e
  unfold tellE
  cases h : hasv cut e.r e.n
  · simp
  · rw [hasv_join lv lc h]; simp

theorem vv_store {F : Nat} {w0 w : World} {g : Nat} {z v : List Int} (hg : Lies w g z) (hv : v.length = 16) (hz : z.length = 16) (hb : Below F w0 w) (hF : F ≤ g) : ∃ W', (storeVar 35 ⟨g, 0, none⟩ (.agg (vals v))).run Try.prog w = .ok () W' ∧ Lies W' g v ∧ Below F w0 W' ∧ ∀ (E : Nat) (l : List Int), E ≠ g → Lies w E l → Lies W' E l :=
  ⟨_, run_storeVar_row w g 35 35 _ (vals v) hg (size16 v hv) (by rw [vals_size, vals_size, hv, hz]) (vals_one v), hg.row v, below_setRow hb hF _, fun _ _ he hl => hl.rowOther _ he⟩
theorem Evs.take {w : World} {ao : Option Addr} {m c : Nat} {E : List Ev} (h : Evs w ao m c E) {i : Nat} (hi : i ≤ m) : Evs w ao i c (E.take i) := by
  have hl := h.len
  have hr := h.room
  refine ⟨by rw [List.length_take]; omega, by omega, h.top, fun e => ⟨by have := (h.zero e).1; omega, (h.zero e).2⟩, fun ad ha j u hu => ?_, fun e he => h.wide e (List.mem_of_mem_take he)⟩
  refine h.cells ad ha j u ?_
  have e1 : evs E = evs (E.take i) ++ evs (E.drop i) := by rw [← evs_append, List.take_append_drop]
  rw [e1, List.getElem?_append_left ((List.getElem?_eq_some_iff.1 hu).1)]
  exact hu
theorem y_len {o : Oper} {a : Act} {w : World} {x : Operand} {ao : Option Addr} {n c : Nat} (ho : o.op = .call { callee := .builtin .len, args := #[x], argTypes := #[27] }) (hx : a.eval x = .slice ao n c) : (execOp a.eval o).run Try.prog w = .ok (.value (.int .i64 (n : Int))) w := by
  unfold execOp
  simp only [ho, resolve, invoke, builtin, Sem.run_bind, Sem.run_pure, Result.andThen_ok, List.map_toArray, List.map_cons, List.map_nil, hx]
  simp [go_sem]
theorem yields_ex {o : Oper} {E : Act} {w : World} {v : Value} (h : (execOp E.eval o).run Try.prog w = .ok (.value v) w) : Yields Try.prog v w ((execOp E.eval o).run Try.prog w) := by
  rw [h]; exact ⟨rfl, Below.refl _ _⟩
theorem neq_evd (w : World) {e f : Ev} {t : Bool} (he : e.deps.length = 16) (hf : f.deps.length = 16) (h : decide (e = f) = !t) : (binOp .neq 39 (.agg (evc e)) (.agg (evc f))).run Try.prog w = .ok (.bool t) w := by
  have h1 := run_equalIn_ev w 9996 e f he hf
  rw [same_dec, h] at h1
  simp only [binOp]
  simp [Op.equal, Op.maxDepth, h1]
theorem Evs.range {w : World} {b off m c : Nat} {E : List Ev} (h : Evs w (some ⟨b, off, none⟩) m c E) {i : Nat} {e : Ev} (hi : E[i]? = some e) : w.rangeAt b (off + i * 26) (evl e) ∧ b < w.heap.size := by
  have hl : i < m := by rw [← h.len]; exact (List.getElem?_eq_some_iff.1 hi).1
  obtain ⟨b', off', e', h1, h2, -, h3, h4⟩ := h.at hl
  simp only [Option.some.injEq, Addr.mk.injEq, and_true] at h1
  obtain ⟨rfl, rfl⟩ := h1
  obtain rfl : e = e' := by rw [hi] at h2; exact Option.some.inj h2
  exact ⟨h3, h4⟩
end Go.Proofs.Yteanpepmncgagaa
