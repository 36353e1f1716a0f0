/-
  What the reference's Right comes to.
-/
import Derived.Test.YteanpepmncgagaaRor
namespace Go.Proofs.Yteanpepmncgagaa
set_option maxRecDepth 100000
open Go.RowKit

theorem run_indexAt_at (w : World) (g o k : Nat) (hk : k < 16) : (Instr.indexAt 35 (.pointer (some ⟨g, o, none⟩)) (.int .i64 (k : Int))).run Try.prog w = .ok (.pointer (some ⟨g, o + k, none⟩)) w := by
  have hu : Try.prog.underlying 35 = some (.array 16 3) := by kernel_rfl
  have e : (⟨g, o, none⟩ : Addr).add k = ⟨g, o + k, none⟩ := by unfold Addr.add; split <;> simp_all
  simp [Instr.indexAt, asIntOf, run_underlying hu, Sem.run_bind, Instr.sureAddr, hk, e]
theorem place_parts {e : Ev} (h : placeE e = true) : fine e.deps = true ∧ okdot e.r e.n = true ∧ e.n = e.deps.getD e.r.toNat 0 + 1 := by
  have h' : withE e.deps e.r e.n = 0 := of_decide_eq_true h
  unfold withE at h'
  split at h'
  · rename_i hh
    rw [Bool.and_eq_true] at hh
    split at h'
    · rename_i h3
      exact ⟨hh.1, hh.2, h3⟩
    · omega
  · omega
theorem enters_rop (xs : Array Value) (w : World) : (callFunc 38 xs).run Try.prog w = .ok (.enter 38 xs) w := enters Try.func38 (by kernel_rfl) (by kernel_rfl) xs w
theorem fieldE0_run (w : World) (g : Nat) : (Instr.fieldAt 39 (.pointer (some ⟨g, 0, none⟩)) 0).run Try.prog w = .ok (.pointer (some ⟨g, 0, none⟩)) w := by kernel_rfl
theorem fieldE1_run (w : World) (g : Nat) : (Instr.fieldAt 39 (.pointer (some ⟨g, 0, none⟩)) 1).run Try.prog w = .ok (.pointer (some ⟨g, 2, none⟩)) w := by kernel_rfl
theorem fieldE2_run (w : World) (g : Nat) : (Instr.fieldAt 39 (.pointer (some ⟨g, 0, none⟩)) 2).run Try.prog w = .ok (.pointer (some ⟨g, 3, none⟩)) w := by kernel_rfl
theorem fieldE3_run (w : World) (g : Nat) : (Instr.fieldAt 39 (.pointer (some ⟨g, 0, none⟩)) 3).run Try.prog w = .ok (.pointer (some ⟨g, 19, none⟩)) w := by kernel_rfl
theorem not_run (w : World) (b : Bool) : (Op.unary .not (.bool b)).run Try.prog w = .ok (.bool (!b)) w := rfl
theorem lss_is (w : World) {a b : Int} {c : Bool} (h : decide (a < b) = c) : (binOp .lss 3 (.int .i64 a) (.int .i64 b)).run Try.prog w = .ok (.bool c) w := by rw [binOp_lss, ← h]; rfl
theorem gtr_is (w : World) {a b : Int} {c : Bool} (h : decide (b < a) = c) : (binOp .gtr 3 (.int .i64 a) (.int .i64 b)).run Try.prog w = .ok (.bool c) w := by rw [binOp_gtr, ← h]; rfl
theorem neq_is (w : World) {a b : Int} {c : Bool} (h : (a != b) = c) : (binOp .neq 3 (.int .i64 a) (.int .i64 b)).run Try.prog w = .ok (.bool c) w := by rw [binOp_neq, ← h]; rfl
theorem sub_run (w : World) {a : Int} (h0 : 1 ≤ a) (h1 : a ≤ 1048576) : (binOp .sub 3 (.int .i64 a) (.int .i64 1)).run Try.prog w = .ok (.int .i64 (a - 1)) w := by
  go_simp
  rw [IntKind.wrap_i64]
  omega
theorem load_dotE_run {w : World} {g : Nat} {e : Ev} (h : LiesE w g e) : (loadVar 33 ⟨g, 0, none⟩).run Try.prog w = .ok (.agg (dotc e.r e.n)) w :=
  run_loadVar_mid w g 0 33 (dotc e.r e.n).toList _ h.dot Try.underlying33 rfl (sizeD _ _)
theorem load_dotE_run2 {w : World} {g k : Nat} {e : Ev} (h : LiesE w g e) (hr : e.r = (k : Int)) : (loadVar 33 ⟨g, 0, none⟩).run Try.prog w = .ok (.agg (dotc (k : Int) e.n)) w := by
  rw [← hr]; exact load_dotE_run h
theorem load_depsE_run {w : World} {g : Nat} {e : Ev} (h : LiesE w g e) (hl : e.deps.length = 16) : (loadVar 35 ⟨g, 3, none⟩).run Try.prog w = .ok (.agg (vals e.deps)) w :=
  run_loadVar_mid w g 3 35 (vals e.deps).toList _ (h.deps hl) Try.underlying35 rfl (size16 _ hl)
theorem load_opE_run {w : World} {g : Nat} {e : Ev} {O : Array Value} (h : LiesE w g e) (hl : e.deps.length = 16) (i : Is O e) : (loadVar 37 ⟨g, 19, none⟩).run Try.prog w = .ok (.agg O) w := by
  rw [i]
  exact run_loadVar_mid w g 19 37 (opc e).toList _ (h.op hl) Try.underlying37 rfl (size7 e)
theorem rop_is {e : Ev} {O : Array Value} (i : Is O e) (w : World) : Calls Try.prog 38 #[.agg O] w fun e' w' => e' = .returned (.bool (opE e)) ∧ Below w.heap.size w w' := by
  rw [i]; exact rop_any e w

set_option maxHeartbeats 1000000 in
theorem reright_A (e : Ev) (w : World) (_hl : e.deps.length = 16) (hd : okdot e.r e.n = false) : Calls Try.prog 19 #[.agg (evc e)] w fun e' w' => e' = .returned (.bool false) ∧ Below w.heap.size w w' := by
  obtain ⟨hE, hB⟩ := boxedE w e
  have H0 : Hid (Below w.heap.size w (w.alloc (.cells (evc e) 39))) := hB
  clear hB
  go_enter Try.func19, Try.ntmps19
  go_wp2_with fail
  refine region_vals [3, 4, 5, 6, 7, 8, 9, 10, 11, 12, 13, 14, 15, 16, 17, 18, 19, 20, 21, 22, 23, 24, 25, 26, 27, 28, 29, 30, 31, 32, 33, 34, 35, 36, 37, 38, 39, 40, 41] [.pointer (some ⟨w.heap.size, 0, none⟩), .agg (dotc (e.r) (e.n)), .bool false, .bool true, .bool true, undef, undef, undef, .bool true, .bool true, undef, undef, undef, .bool true, .bool true, undef, undef, undef, undef, .bool true, .bool true, undef, undef, undef, undef, undef, undef, undef, undef, undef, undef, undef, .bool true, .bool true, undef, undef, undef, undef, .bool true] _ (by kernel_rfl) (by kernel_rfl) (by rfl) (by decide) (by kernel_rfl) (by simp only [lay, Act.put, List.setIfInBounds_toArray, List.set_cons_zero, List.set_cons_succ, List.getD_cons_zero, List.getD_cons_succ, Nat.reduceAdd]; rfl) ⟨?_, ?_, ?_, ?_, ?_, ?_, ?_, ?_, ?_, ?_, ?_, ?_, ?_, ?_, ?_, ?_, ?_, ?_, ?_, ?_, ?_, ?_, ?_, ?_, ?_, ?_, ?_, ?_, ?_, ?_, ?_, ?_, ?_, ?_, ?_, ?_, ?_, ?_, ?_, trivial⟩ ?_
  · exact .inl ⟨rfl, fun W hb => yields_field rfl rfl (fieldE0_run W _)⟩
  · exact .inl ⟨rfl, fun W hb => yields_load rfl rfl (load_dotE_run ((hE).below hb (hE).lt))⟩
  · exact .inl ⟨rfl, fun W hb => yields_call (vs := [.agg (dotc (e.r) (e.n))]) (v := .bool false) rfl rfl (enters_rdot _ _) (okcall (rdot_any _ _ W) hd)⟩
  · exact .inl ⟨rfl, fun W hb => yields_un rfl rfl (not_run W false)⟩
  · exact .inl ⟨rfl, fun W hb => yields_move rfl rfl⟩
  · exact .inr ⟨rfl, rfl⟩
  · exact .inr ⟨rfl, rfl⟩
  · exact .inr ⟨rfl, rfl⟩
  · exact .inl ⟨rfl, fun W hb => yields_pick (b := true) rfl rfl rfl⟩
  · exact .inl ⟨rfl, fun W hb => yields_move rfl rfl⟩
  · exact .inr ⟨rfl, rfl⟩
  · exact .inr ⟨rfl, rfl⟩
  · exact .inr ⟨rfl, rfl⟩
  · exact .inl ⟨rfl, fun W hb => yields_pick (b := true) rfl rfl rfl⟩
  · exact .inl ⟨rfl, fun W hb => yields_move rfl rfl⟩
  · exact .inr ⟨rfl, rfl⟩
  · exact .inr ⟨rfl, rfl⟩
  · exact .inr ⟨rfl, rfl⟩
  · exact .inr ⟨rfl, rfl⟩
  · exact .inl ⟨rfl, fun W hb => yields_pick (b := true) rfl rfl rfl⟩
  · exact .inl ⟨rfl, fun W hb => yields_move rfl rfl⟩
  · exact .inr ⟨rfl, rfl⟩
  · exact .inr ⟨rfl, rfl⟩
  · exact .inr ⟨rfl, rfl⟩
  · exact .inr ⟨rfl, rfl⟩
  · exact .inr ⟨rfl, rfl⟩
  · exact .inr ⟨rfl, rfl⟩
  · exact .inr ⟨rfl, rfl⟩
  · exact .inr ⟨rfl, rfl⟩
  · exact .inr ⟨rfl, rfl⟩
  · exact .inr ⟨rfl, rfl⟩
  · exact .inr ⟨rfl, rfl⟩
  · exact .inl ⟨rfl, fun W hb => yields_pick (b := true) rfl rfl rfl⟩
  · exact .inl ⟨rfl, fun W hb => yields_move rfl rfl⟩
  · exact .inr ⟨rfl, rfl⟩
  · exact .inr ⟨rfl, rfl⟩
  · exact .inr ⟨rfl, rfl⟩
  · exact .inr ⟨rfl, rfl⟩
  · exact .inl ⟨rfl, fun W hb => yields_pick (b := true) rfl rfl rfl⟩
  intro w2 hb2
  clear hE
  go_wp2
  go_ret
  exact ⟨rfl, H0.out.trans (hb2.mono H0.out.size)⟩

set_option maxHeartbeats 1000000 in
theorem reright_B (e : Ev) (w : World) (_hl : e.deps.length = 16) (hd : okdot e.r e.n = true) (h0 : decide (e.t < 0) = true) : Calls Try.prog 19 #[.agg (evc e)] w fun e' w' => e' = .returned (.bool false) ∧ Below w.heap.size w w' := by
  obtain ⟨hE, hB⟩ := boxedE w e
  have H0 : Hid (Below w.heap.size w (w.alloc (.cells (evc e) 39))) := hB
  clear hB
  have c2 := hE.c2
  go_enter Try.func19, Try.ntmps19
  go_wp2_with fail
  refine region_vals [3, 4, 5, 6, 7, 8, 9, 10, 11, 12, 13, 14, 15, 16, 17, 18, 19, 20, 21, 22, 23, 24, 25, 26, 27, 28, 29, 30, 31, 32, 33, 34, 35, 36, 37, 38, 39, 40, 41] [.pointer (some ⟨w.heap.size, 0, none⟩), .agg (dotc (e.r) (e.n)), .bool true, .bool false, .bool false, .pointer (some ⟨w.heap.size, 2, none⟩), .int .i64 (e.t), .bool true, .bool true, .bool true, undef, undef, undef, .bool true, .bool true, undef, undef, undef, undef, .bool true, .bool true, undef, undef, undef, undef, undef, undef, undef, undef, undef, undef, undef, .bool true, .bool true, undef, undef, undef, undef, .bool true] _ (by kernel_rfl) (by kernel_rfl) (by rfl) (by decide) (by kernel_rfl) (by simp only [lay, Act.put, List.setIfInBounds_toArray, List.set_cons_zero, List.set_cons_succ, List.getD_cons_zero, List.getD_cons_succ, Nat.reduceAdd]; rfl) ⟨?_, ?_, ?_, ?_, ?_, ?_, ?_, ?_, ?_, ?_, ?_, ?_, ?_, ?_, ?_, ?_, ?_, ?_, ?_, ?_, ?_, ?_, ?_, ?_, ?_, ?_, ?_, ?_, ?_, ?_, ?_, ?_, ?_, ?_, ?_, ?_, ?_, ?_, ?_, trivial⟩ ?_
  · exact .inl ⟨rfl, fun W hb => yields_field rfl rfl (fieldE0_run W _)⟩
  · exact .inl ⟨rfl, fun W hb => yields_load rfl rfl (load_dotE_run ((hE).below hb (hE).lt))⟩
  · exact .inl ⟨rfl, fun W hb => yields_call (vs := [.agg (dotc (e.r) (e.n))]) (v := .bool true) rfl rfl (enters_rdot _ _) (okcall (rdot_any _ _ W) hd)⟩
  · exact .inl ⟨rfl, fun W hb => yields_un rfl rfl (not_run W true)⟩
  · exact .inl ⟨rfl, fun W hb => yields_move rfl rfl⟩
  · exact .inl ⟨rfl, fun W hb => yields_field rfl rfl (fieldE1_run W _)⟩
  · exact .inl ⟨rfl, fun W hb => yields_load rfl rfl (load_int_run ((hb.cell (block_lt_of_cell c2)).trans c2))⟩
  · exact .inl ⟨rfl, fun W hb => yields_bin rfl rfl rfl (eqGuard_int W) (lss_is W h0)⟩
  · exact .inl ⟨rfl, fun W hb => yields_pick (b := false) rfl rfl rfl⟩
  · exact .inl ⟨rfl, fun W hb => yields_move rfl rfl⟩
  · exact .inr ⟨rfl, rfl⟩
  · exact .inr ⟨rfl, rfl⟩
  · exact .inr ⟨rfl, rfl⟩
  · exact .inl ⟨rfl, fun W hb => yields_pick (b := true) rfl rfl rfl⟩
  · exact .inl ⟨rfl, fun W hb => yields_move rfl rfl⟩
  · exact .inr ⟨rfl, rfl⟩
  · exact .inr ⟨rfl, rfl⟩
  · exact .inr ⟨rfl, rfl⟩
  · exact .inr ⟨rfl, rfl⟩
  · exact .inl ⟨rfl, fun W hb => yields_pick (b := true) rfl rfl rfl⟩
  · exact .inl ⟨rfl, fun W hb => yields_move rfl rfl⟩
  · exact .inr ⟨rfl, rfl⟩
  · exact .inr ⟨rfl, rfl⟩
  · exact .inr ⟨rfl, rfl⟩
  · exact .inr ⟨rfl, rfl⟩
  · exact .inr ⟨rfl, rfl⟩
  · exact .inr ⟨rfl, rfl⟩
  · exact .inr ⟨rfl, rfl⟩
  · exact .inr ⟨rfl, rfl⟩
  · exact .inr ⟨rfl, rfl⟩
  · exact .inr ⟨rfl, rfl⟩
  · exact .inr ⟨rfl, rfl⟩
  · exact .inl ⟨rfl, fun W hb => yields_pick (b := true) rfl rfl rfl⟩
  · exact .inl ⟨rfl, fun W hb => yields_move rfl rfl⟩
  · exact .inr ⟨rfl, rfl⟩
  · exact .inr ⟨rfl, rfl⟩
  · exact .inr ⟨rfl, rfl⟩
  · exact .inr ⟨rfl, rfl⟩
  · exact .inl ⟨rfl, fun W hb => yields_pick (b := true) rfl rfl rfl⟩
  intro w2 hb2
  clear hE c2
  go_wp2
  go_ret
  exact ⟨rfl, H0.out.trans (hb2.mono H0.out.size)⟩

set_option maxHeartbeats 1000000 in
theorem reright_C (e : Ev) (w : World) (_hl : e.deps.length = 16) (hd : okdot e.r e.n = true) (h0 : decide (e.t < 0) = false) (h1 : decide (1152921504606846975 < e.t) = true) : Calls Try.prog 19 #[.agg (evc e)] w fun e' w' => e' = .returned (.bool false) ∧ Below w.heap.size w w' := by
  obtain ⟨hE, hB⟩ := boxedE w e
  have H0 : Hid (Below w.heap.size w (w.alloc (.cells (evc e) 39))) := hB
  clear hB
  have c2 := hE.c2
  go_enter Try.func19, Try.ntmps19
  go_wp2_with fail
  refine region_vals [3, 4, 5, 6, 7, 8, 9, 10, 11, 12, 13, 14, 15, 16, 17, 18, 19, 20, 21, 22, 23, 24, 25, 26, 27, 28, 29, 30, 31, 32, 33, 34, 35, 36, 37, 38, 39, 40, 41] [.pointer (some ⟨w.heap.size, 0, none⟩), .agg (dotc (e.r) (e.n)), .bool true, .bool false, .bool false, .pointer (some ⟨w.heap.size, 2, none⟩), .int .i64 (e.t), .bool false, .bool false, .bool false, .pointer (some ⟨w.heap.size, 2, none⟩), .int .i64 (e.t), .bool true, .bool true, .bool true, undef, undef, undef, undef, .bool true, .bool true, undef, undef, undef, undef, undef, undef, undef, undef, undef, undef, undef, .bool true, .bool true, undef, undef, undef, undef, .bool true] _ (by kernel_rfl) (by kernel_rfl) (by rfl) (by decide) (by kernel_rfl) (by simp only [lay, Act.put, List.setIfInBounds_toArray, List.set_cons_zero, List.set_cons_succ, List.getD_cons_zero, List.getD_cons_succ, Nat.reduceAdd]; rfl) ⟨?_, ?_, ?_, ?_, ?_, ?_, ?_, ?_, ?_, ?_, ?_, ?_, ?_, ?_, ?_, ?_, ?_, ?_, ?_, ?_, ?_, ?_, ?_, ?_, ?_, ?_, ?_, ?_, ?_, ?_, ?_, ?_, ?_, ?_, ?_, ?_, ?_, ?_, ?_, trivial⟩ ?_
  · exact .inl ⟨rfl, fun W hb => yields_field rfl rfl (fieldE0_run W _)⟩
  · exact .inl ⟨rfl, fun W hb => yields_load rfl rfl (load_dotE_run ((hE).below hb (hE).lt))⟩
  · exact .inl ⟨rfl, fun W hb => yields_call (vs := [.agg (dotc (e.r) (e.n))]) (v := .bool true) rfl rfl (enters_rdot _ _) (okcall (rdot_any _ _ W) hd)⟩
  · exact .inl ⟨rfl, fun W hb => yields_un rfl rfl (not_run W true)⟩
  · exact .inl ⟨rfl, fun W hb => yields_move rfl rfl⟩
  · exact .inl ⟨rfl, fun W hb => yields_field rfl rfl (fieldE1_run W _)⟩
  · exact .inl ⟨rfl, fun W hb => yields_load rfl rfl (load_int_run ((hb.cell (block_lt_of_cell c2)).trans c2))⟩
  · exact .inl ⟨rfl, fun W hb => yields_bin rfl rfl rfl (eqGuard_int W) (lss_is W h0)⟩
  · exact .inl ⟨rfl, fun W hb => yields_pick (b := false) rfl rfl rfl⟩
  · exact .inl ⟨rfl, fun W hb => yields_move rfl rfl⟩
  · exact .inl ⟨rfl, fun W hb => yields_field rfl rfl (fieldE1_run W _)⟩
  · exact .inl ⟨rfl, fun W hb => yields_load rfl rfl (load_int_run ((hb.cell (block_lt_of_cell c2)).trans c2))⟩
  · exact .inl ⟨rfl, fun W hb => yields_bin rfl rfl rfl (eqGuard_int W) (gtr_is W h1)⟩
  · exact .inl ⟨rfl, fun W hb => yields_pick (b := false) rfl rfl rfl⟩
  · exact .inl ⟨rfl, fun W hb => yields_move rfl rfl⟩
  · exact .inr ⟨rfl, rfl⟩
  · exact .inr ⟨rfl, rfl⟩
  · exact .inr ⟨rfl, rfl⟩
  · exact .inr ⟨rfl, rfl⟩
  · exact .inl ⟨rfl, fun W hb => yields_pick (b := true) rfl rfl rfl⟩
  · exact .inl ⟨rfl, fun W hb => yields_move rfl rfl⟩
  · exact .inr ⟨rfl, rfl⟩
  · exact .inr ⟨rfl, rfl⟩
  · exact .inr ⟨rfl, rfl⟩
  · exact .inr ⟨rfl, rfl⟩
  · exact .inr ⟨rfl, rfl⟩
  · exact .inr ⟨rfl, rfl⟩
  · exact .inr ⟨rfl, rfl⟩
  · exact .inr ⟨rfl, rfl⟩
  · exact .inr ⟨rfl, rfl⟩
  · exact .inr ⟨rfl, rfl⟩
  · exact .inr ⟨rfl, rfl⟩
  · exact .inl ⟨rfl, fun W hb => yields_pick (b := true) rfl rfl rfl⟩
  · exact .inl ⟨rfl, fun W hb => yields_move rfl rfl⟩
  · exact .inr ⟨rfl, rfl⟩
  · exact .inr ⟨rfl, rfl⟩
  · exact .inr ⟨rfl, rfl⟩
  · exact .inr ⟨rfl, rfl⟩
  · exact .inl ⟨rfl, fun W hb => yields_pick (b := true) rfl rfl rfl⟩
  intro w2 hb2
  clear hE c2
  go_wp2
  go_ret
  exact ⟨rfl, H0.out.trans (hb2.mono H0.out.size)⟩

set_option maxHeartbeats 1000000 in
theorem reright_D (e : Ev) (w : World) (hl : e.deps.length = 16) (hd : okdot e.r e.n = true) (h0 : decide (e.t < 0) = false) (h1 : decide (1152921504606846975 < e.t) = false) (hf : fine e.deps = false) : Calls Try.prog 19 #[.agg (evc e)] w fun e' w' => e' = .returned (.bool false) ∧ Below w.heap.size w w' := by
  obtain ⟨hE, hB⟩ := boxedE w e
  have H0 : Hid (Below w.heap.size w (w.alloc (.cells (evc e) 39))) := hB
  clear hB
  have c2 := hE.c2
  go_enter Try.func19, Try.ntmps19
  go_wp2_with fail
  refine region_vals [3, 4, 5, 6, 7, 8, 9, 10, 11, 12, 13, 14, 15, 16, 17, 18, 19, 20, 21, 22, 23, 24, 25, 26, 27, 28, 29, 30, 31, 32, 33, 34, 35, 36, 37, 38, 39, 40, 41] [.pointer (some ⟨w.heap.size, 0, none⟩), .agg (dotc (e.r) (e.n)), .bool true, .bool false, .bool false, .pointer (some ⟨w.heap.size, 2, none⟩), .int .i64 (e.t), .bool false, .bool false, .bool false, .pointer (some ⟨w.heap.size, 2, none⟩), .int .i64 (e.t), .bool false, .bool false, .bool false, .pointer (some ⟨w.heap.size, 3, none⟩), .agg (vals (e.deps)), .bool false, .bool true, .bool true, .bool true, undef, undef, undef, undef, undef, undef, undef, undef, undef, undef, undef, .bool true, .bool true, undef, undef, undef, undef, .bool true] _ (by kernel_rfl) (by kernel_rfl) (by rfl) (by decide) (by kernel_rfl) (by simp only [lay, Act.put, List.setIfInBounds_toArray, List.set_cons_zero, List.set_cons_succ, List.getD_cons_zero, List.getD_cons_succ, Nat.reduceAdd]; rfl) ⟨?_, ?_, ?_, ?_, ?_, ?_, ?_, ?_, ?_, ?_, ?_, ?_, ?_, ?_, ?_, ?_, ?_, ?_, ?_, ?_, ?_, ?_, ?_, ?_, ?_, ?_, ?_, ?_, ?_, ?_, ?_, ?_, ?_, ?_, ?_, ?_, ?_, ?_, ?_, trivial⟩ ?_
  · exact .inl ⟨rfl, fun W hb => yields_field rfl rfl (fieldE0_run W _)⟩
  · exact .inl ⟨rfl, fun W hb => yields_load rfl rfl (load_dotE_run ((hE).below hb (hE).lt))⟩
  · exact .inl ⟨rfl, fun W hb => yields_call (vs := [.agg (dotc (e.r) (e.n))]) (v := .bool true) rfl rfl (enters_rdot _ _) (okcall (rdot_any _ _ W) hd)⟩
  · exact .inl ⟨rfl, fun W hb => yields_un rfl rfl (not_run W true)⟩
  · exact .inl ⟨rfl, fun W hb => yields_move rfl rfl⟩
  · exact .inl ⟨rfl, fun W hb => yields_field rfl rfl (fieldE1_run W _)⟩
  · exact .inl ⟨rfl, fun W hb => yields_load rfl rfl (load_int_run ((hb.cell (block_lt_of_cell c2)).trans c2))⟩
  · exact .inl ⟨rfl, fun W hb => yields_bin rfl rfl rfl (eqGuard_int W) (lss_is W h0)⟩
  · exact .inl ⟨rfl, fun W hb => yields_pick (b := false) rfl rfl rfl⟩
  · exact .inl ⟨rfl, fun W hb => yields_move rfl rfl⟩
  · exact .inl ⟨rfl, fun W hb => yields_field rfl rfl (fieldE1_run W _)⟩
  · exact .inl ⟨rfl, fun W hb => yields_load rfl rfl (load_int_run ((hb.cell (block_lt_of_cell c2)).trans c2))⟩
  · exact .inl ⟨rfl, fun W hb => yields_bin rfl rfl rfl (eqGuard_int W) (gtr_is W h1)⟩
  · exact .inl ⟨rfl, fun W hb => yields_pick (b := false) rfl rfl rfl⟩
  · exact .inl ⟨rfl, fun W hb => yields_move rfl rfl⟩
  · exact .inl ⟨rfl, fun W hb => yields_field rfl rfl (fieldE2_run W _)⟩
  · exact .inl ⟨rfl, fun W hb => yields_load rfl rfl (load_depsE_run ((hE).below hb (hE).lt) hl)⟩
  · exact .inl ⟨rfl, fun W hb => yields_call (vs := [.agg (vals (e.deps))]) (v := .bool false) rfl rfl (enters_rright _ _) (okcall (rright_any _ hl W) hf)⟩
  · exact .inl ⟨rfl, fun W hb => yields_un rfl rfl (not_run W false)⟩
  · exact .inl ⟨rfl, fun W hb => yields_pick (b := false) rfl rfl rfl⟩
  · exact .inl ⟨rfl, fun W hb => yields_move rfl rfl⟩
  · exact .inr ⟨rfl, rfl⟩
  · exact .inr ⟨rfl, rfl⟩
  · exact .inr ⟨rfl, rfl⟩
  · exact .inr ⟨rfl, rfl⟩
  · exact .inr ⟨rfl, rfl⟩
  · exact .inr ⟨rfl, rfl⟩
  · exact .inr ⟨rfl, rfl⟩
  · exact .inr ⟨rfl, rfl⟩
  · exact .inr ⟨rfl, rfl⟩
  · exact .inr ⟨rfl, rfl⟩
  · exact .inr ⟨rfl, rfl⟩
  · exact .inl ⟨rfl, fun W hb => yields_pick (b := true) rfl rfl rfl⟩
  · exact .inl ⟨rfl, fun W hb => yields_move rfl rfl⟩
  · exact .inr ⟨rfl, rfl⟩
  · exact .inr ⟨rfl, rfl⟩
  · exact .inr ⟨rfl, rfl⟩
  · exact .inr ⟨rfl, rfl⟩
  · exact .inl ⟨rfl, fun W hb => yields_pick (b := true) rfl rfl rfl⟩
  intro w2 hb2
  clear hE c2
  go_wp2
  go_ret
  exact ⟨rfl, H0.out.trans (hb2.mono H0.out.size)⟩

set_option maxHeartbeats 1000000 in
theorem reright_E (e : Ev) (w : World) (hl : e.deps.length = 16) (k : Nat) (hr : e.r = (k : Int)) (hk16 : k < 16) (hd : okdot (k : Int) e.n = true) (h0 : decide (e.t < 0) = false) (h1 : decide (1152921504606846975 < e.t) = false) (hf : fine e.deps = true) (hb0 : 1 ≤ e.n) (hb1 : e.n ≤ 1048576) (hn : (e.deps.getD k 0 != e.n - 1) = true) : Calls Try.prog 19 #[.agg (evc e)] w fun e' w' => e' = .returned (.bool false) ∧ Below w.heap.size w w' := by
  obtain ⟨hE, hB⟩ := boxedE w e
  have H0 : Hid (Below w.heap.size w (w.alloc (.cells (evc e) 39))) := hB
  clear hB
  have c2 := hE.c2
  have c0 := hE.c0
  rw [hr] at c0
  have c1 := hE.c1
  have cd := hE.cd hl hk16
  go_enter Try.func19, Try.ntmps19
  go_wp2_with fail
  refine region_vals [3, 4, 5, 6, 7, 8, 9, 10, 11, 12, 13, 14, 15, 16, 17, 18, 19, 20, 21, 22, 23, 24, 25, 26, 27, 28, 29, 30, 31, 32, 33, 34, 35, 36, 37, 38, 39, 40, 41] [.pointer (some ⟨w.heap.size, 0, none⟩), .agg (dotc ((k : Int)) (e.n)), .bool true, .bool false, .bool false, .pointer (some ⟨w.heap.size, 2, none⟩), .int .i64 (e.t), .bool false, .bool false, .bool false, .pointer (some ⟨w.heap.size, 2, none⟩), .int .i64 (e.t), .bool false, .bool false, .bool false, .pointer (some ⟨w.heap.size, 3, none⟩), .agg (vals (e.deps)), .bool true, .bool false, .bool false, .bool false, .pointer (some ⟨w.heap.size, 0, none⟩), .pointer (some ⟨w.heap.size, 0, none⟩), .int .i64 ((k : Int)), .pointer (some ⟨w.heap.size, 3, none⟩), .pointer (some ⟨w.heap.size, 3 + k, none⟩), .int .i64 ((e.deps.getD k 0)), .pointer (some ⟨w.heap.size, 0, none⟩), .pointer (some ⟨w.heap.size, 1, none⟩), .int .i64 (e.n), .int .i64 (e.n - 1), .bool true, .bool true, .bool true, undef, undef, undef, undef, .bool true] _ (by kernel_rfl) (by kernel_rfl) (by rfl) (by decide) (by kernel_rfl) (by simp only [lay, Act.put, List.setIfInBounds_toArray, List.set_cons_zero, List.set_cons_succ, List.getD_cons_zero, List.getD_cons_succ, Nat.reduceAdd]; rfl) ⟨?_, ?_, ?_, ?_, ?_, ?_, ?_, ?_, ?_, ?_, ?_, ?_, ?_, ?_, ?_, ?_, ?_, ?_, ?_, ?_, ?_, ?_, ?_, ?_, ?_, ?_, ?_, ?_, ?_, ?_, ?_, ?_, ?_, ?_, ?_, ?_, ?_, ?_, ?_, trivial⟩ ?_
  · exact .inl ⟨rfl, fun W hb => yields_field rfl rfl (fieldE0_run W _)⟩
  · exact .inl ⟨rfl, fun W hb => yields_load rfl rfl (load_dotE_run2 ((hE).below hb (hE).lt) hr)⟩
  · exact .inl ⟨rfl, fun W hb => yields_call (vs := [.agg (dotc ((k : Int)) (e.n))]) (v := .bool true) rfl rfl (enters_rdot _ _) (okcall (rdot_any _ _ W) hd)⟩
  · exact .inl ⟨rfl, fun W hb => yields_un rfl rfl (not_run W true)⟩
  · exact .inl ⟨rfl, fun W hb => yields_move rfl rfl⟩
  · exact .inl ⟨rfl, fun W hb => yields_field rfl rfl (fieldE1_run W _)⟩
  · exact .inl ⟨rfl, fun W hb => yields_load rfl rfl (load_int_run ((hb.cell (block_lt_of_cell c2)).trans c2))⟩
  · exact .inl ⟨rfl, fun W hb => yields_bin rfl rfl rfl (eqGuard_int W) (lss_is W h0)⟩
  · exact .inl ⟨rfl, fun W hb => yields_pick (b := false) rfl rfl rfl⟩
  · exact .inl ⟨rfl, fun W hb => yields_move rfl rfl⟩
  · exact .inl ⟨rfl, fun W hb => yields_field rfl rfl (fieldE1_run W _)⟩
  · exact .inl ⟨rfl, fun W hb => yields_load rfl rfl (load_int_run ((hb.cell (block_lt_of_cell c2)).trans c2))⟩
  · exact .inl ⟨rfl, fun W hb => yields_bin rfl rfl rfl (eqGuard_int W) (gtr_is W h1)⟩
  · exact .inl ⟨rfl, fun W hb => yields_pick (b := false) rfl rfl rfl⟩
  · exact .inl ⟨rfl, fun W hb => yields_move rfl rfl⟩
  · exact .inl ⟨rfl, fun W hb => yields_field rfl rfl (fieldE2_run W _)⟩
  · exact .inl ⟨rfl, fun W hb => yields_load rfl rfl (load_depsE_run ((hE).below hb (hE).lt) hl)⟩
  · exact .inl ⟨rfl, fun W hb => yields_call (vs := [.agg (vals (e.deps))]) (v := .bool true) rfl rfl (enters_rright _ _) (okcall (rright_any _ hl W) hf)⟩
  · exact .inl ⟨rfl, fun W hb => yields_un rfl rfl (not_run W true)⟩
  · exact .inl ⟨rfl, fun W hb => yields_pick (b := false) rfl rfl rfl⟩
  · exact .inl ⟨rfl, fun W hb => yields_move rfl rfl⟩
  · exact .inl ⟨rfl, fun W hb => yields_field rfl rfl (fieldE0_run W _)⟩
  · exact .inl ⟨rfl, fun W hb => yields_field rfl rfl (field0_run W _)⟩
  · exact .inl ⟨rfl, fun W hb => yields_load rfl rfl (load_int_run ((hb.cell (block_lt_of_cell c0)).trans c0))⟩
  · exact .inl ⟨rfl, fun W hb => yields_field rfl rfl (fieldE2_run W _)⟩
  · exact .inl ⟨rfl, fun W hb => yields_indexAddr rfl rfl rfl (run_indexAt_at W _ 3 k hk16)⟩
  · exact .inl ⟨rfl, fun W hb => yields_load rfl rfl (load_int_run ((hb.cell (block_lt_of_cell cd)).trans cd))⟩
  · exact .inl ⟨rfl, fun W hb => yields_field rfl rfl (fieldE0_run W _)⟩
  · exact .inl ⟨rfl, fun W hb => yields_field rfl rfl (field1_run W _)⟩
  · exact .inl ⟨rfl, fun W hb => yields_load rfl rfl (load_int_run ((hb.cell (block_lt_of_cell c1)).trans c1))⟩
  · exact .inl ⟨rfl, fun W hb => yields_bin rfl rfl rfl (eqGuard_int W) (sub_run W hb0 hb1)⟩
  · exact .inl ⟨rfl, fun W hb => yields_bin rfl rfl rfl (eqGuard_int W) (neq_is W hn)⟩
  · exact .inl ⟨rfl, fun W hb => yields_pick (b := false) rfl rfl rfl⟩
  · exact .inl ⟨rfl, fun W hb => yields_move rfl rfl⟩
  · exact .inr ⟨rfl, rfl⟩
  · exact .inr ⟨rfl, rfl⟩
  · exact .inr ⟨rfl, rfl⟩
  · exact .inr ⟨rfl, rfl⟩
  · exact .inl ⟨rfl, fun W hb => yields_pick (b := true) rfl rfl rfl⟩
  intro w2 hb2
  clear hE c2 c0 c1 cd
  go_wp2
  go_ret
  exact ⟨rfl, H0.out.trans (hb2.mono H0.out.size)⟩

set_option maxHeartbeats 1000000 in
theorem reright_F (e : Ev) (w : World) (hl : e.deps.length = 16) (k : Nat) (hr : e.r = (k : Int)) (hk16 : k < 16) (hd : okdot (k : Int) e.n = true) (h0 : decide (e.t < 0) = false) (h1 : decide (1152921504606846975 < e.t) = false) (hf : fine e.deps = true) (hb0 : 1 ≤ e.n) (hb1 : e.n ≤ 1048576) (hn : (e.deps.getD k 0 != e.n - 1) = false) (ho : opE e = false) : Calls Try.prog 19 #[.agg (evc e)] w fun e' w' => e' = .returned (.bool false) ∧ Below w.heap.size w w' := by
  obtain ⟨hE, hB⟩ := boxedE w e
  have H0 : Hid (Below w.heap.size w (w.alloc (.cells (evc e) 39))) := hB
  clear hB
  have c2 := hE.c2
  have c0 := hE.c0
  rw [hr] at c0
  have c1 := hE.c1
  have cd := hE.cd hl hk16
  obtain ⟨O, io⟩ := is_any e
  go_enter Try.func19, Try.ntmps19
  go_wp2_with fail
  refine region_vals [3, 4, 5, 6, 7, 8, 9, 10, 11, 12, 13, 14, 15, 16, 17, 18, 19, 20, 21, 22, 23, 24, 25, 26, 27, 28, 29, 30, 31, 32, 33, 34, 35, 36, 37, 38, 39, 40, 41] [.pointer (some ⟨w.heap.size, 0, none⟩), .agg (dotc ((k : Int)) (e.n)), .bool true, .bool false, .bool false, .pointer (some ⟨w.heap.size, 2, none⟩), .int .i64 (e.t), .bool false, .bool false, .bool false, .pointer (some ⟨w.heap.size, 2, none⟩), .int .i64 (e.t), .bool false, .bool false, .bool false, .pointer (some ⟨w.heap.size, 3, none⟩), .agg (vals (e.deps)), .bool true, .bool false, .bool false, .bool false, .pointer (some ⟨w.heap.size, 0, none⟩), .pointer (some ⟨w.heap.size, 0, none⟩), .int .i64 ((k : Int)), .pointer (some ⟨w.heap.size, 3, none⟩), .pointer (some ⟨w.heap.size, 3 + k, none⟩), .int .i64 ((e.deps.getD k 0)), .pointer (some ⟨w.heap.size, 0, none⟩), .pointer (some ⟨w.heap.size, 1, none⟩), .int .i64 (e.n), .int .i64 (e.n - 1), .bool false, .bool false, .bool false, .pointer (some ⟨w.heap.size, 19, none⟩), .agg O, .bool false, .bool true, .bool true] _ (by kernel_rfl) (by kernel_rfl) (by rfl) (by decide) (by kernel_rfl) (by simp only [lay, Act.put, List.setIfInBounds_toArray, List.set_cons_zero, List.set_cons_succ, List.getD_cons_zero, List.getD_cons_succ, Nat.reduceAdd]; rfl) ⟨?_, ?_, ?_, ?_, ?_, ?_, ?_, ?_, ?_, ?_, ?_, ?_, ?_, ?_, ?_, ?_, ?_, ?_, ?_, ?_, ?_, ?_, ?_, ?_, ?_, ?_, ?_, ?_, ?_, ?_, ?_, ?_, ?_, ?_, ?_, ?_, ?_, ?_, ?_, trivial⟩ ?_
  · exact .inl ⟨rfl, fun W hb => yields_field rfl rfl (fieldE0_run W _)⟩
  · exact .inl ⟨rfl, fun W hb => yields_load rfl rfl (load_dotE_run2 ((hE).below hb (hE).lt) hr)⟩
  · exact .inl ⟨rfl, fun W hb => yields_call (vs := [.agg (dotc ((k : Int)) (e.n))]) (v := .bool true) rfl rfl (enters_rdot _ _) (okcall (rdot_any _ _ W) hd)⟩
  · exact .inl ⟨rfl, fun W hb => yields_un rfl rfl (not_run W true)⟩
  · exact .inl ⟨rfl, fun W hb => yields_move rfl rfl⟩
  · exact .inl ⟨rfl, fun W hb => yields_field rfl rfl (fieldE1_run W _)⟩
  · exact .inl ⟨rfl, fun W hb => yields_load rfl rfl (load_int_run ((hb.cell (block_lt_of_cell c2)).trans c2))⟩
  · exact .inl ⟨rfl, fun W hb => yields_bin rfl rfl rfl (eqGuard_int W) (lss_is W h0)⟩
  · exact .inl ⟨rfl, fun W hb => yields_pick (b := false) rfl rfl rfl⟩
  · exact .inl ⟨rfl, fun W hb => yields_move rfl rfl⟩
  · exact .inl ⟨rfl, fun W hb => yields_field rfl rfl (fieldE1_run W _)⟩
  · exact .inl ⟨rfl, fun W hb => yields_load rfl rfl (load_int_run ((hb.cell (block_lt_of_cell c2)).trans c2))⟩
  · exact .inl ⟨rfl, fun W hb => yields_bin rfl rfl rfl (eqGuard_int W) (gtr_is W h1)⟩
  · exact .inl ⟨rfl, fun W hb => yields_pick (b := false) rfl rfl rfl⟩
  · exact .inl ⟨rfl, fun W hb => yields_move rfl rfl⟩
  · exact .inl ⟨rfl, fun W hb => yields_field rfl rfl (fieldE2_run W _)⟩
  · exact .inl ⟨rfl, fun W hb => yields_load rfl rfl (load_depsE_run ((hE).below hb (hE).lt) hl)⟩
  · exact .inl ⟨rfl, fun W hb => yields_call (vs := [.agg (vals (e.deps))]) (v := .bool true) rfl rfl (enters_rright _ _) (okcall (rright_any _ hl W) hf)⟩
  · exact .inl ⟨rfl, fun W hb => yields_un rfl rfl (not_run W true)⟩
  · exact .inl ⟨rfl, fun W hb => yields_pick (b := false) rfl rfl rfl⟩
  · exact .inl ⟨rfl, fun W hb => yields_move rfl rfl⟩
  · exact .inl ⟨rfl, fun W hb => yields_field rfl rfl (fieldE0_run W _)⟩
  · exact .inl ⟨rfl, fun W hb => yields_field rfl rfl (field0_run W _)⟩
  · exact .inl ⟨rfl, fun W hb => yields_load rfl rfl (load_int_run ((hb.cell (block_lt_of_cell c0)).trans c0))⟩
  · exact .inl ⟨rfl, fun W hb => yields_field rfl rfl (fieldE2_run W _)⟩
  · exact .inl ⟨rfl, fun W hb => yields_indexAddr rfl rfl rfl (run_indexAt_at W _ 3 k hk16)⟩
  · exact .inl ⟨rfl, fun W hb => yields_load rfl rfl (load_int_run ((hb.cell (block_lt_of_cell cd)).trans cd))⟩
  · exact .inl ⟨rfl, fun W hb => yields_field rfl rfl (fieldE0_run W _)⟩
  · exact .inl ⟨rfl, fun W hb => yields_field rfl rfl (field1_run W _)⟩
  · exact .inl ⟨rfl, fun W hb => yields_load rfl rfl (load_int_run ((hb.cell (block_lt_of_cell c1)).trans c1))⟩
  · exact .inl ⟨rfl, fun W hb => yields_bin rfl rfl rfl (eqGuard_int W) (sub_run W hb0 hb1)⟩
  · exact .inl ⟨rfl, fun W hb => yields_bin rfl rfl rfl (eqGuard_int W) (neq_is W hn)⟩
  · exact .inl ⟨rfl, fun W hb => yields_pick (b := false) rfl rfl rfl⟩
  · exact .inl ⟨rfl, fun W hb => yields_move rfl rfl⟩
  · exact .inl ⟨rfl, fun W hb => yields_field rfl rfl (fieldE3_run W _)⟩
  · exact .inl ⟨rfl, fun W hb => yields_load rfl rfl (load_opE_run ((hE).below hb (hE).lt) hl io)⟩
  · exact .inl ⟨rfl, fun W hb => yields_call (vs := [.agg O]) (v := .bool false) rfl rfl (enters_rop _ _) (okcall (rop_is io W) ho)⟩
  · exact .inl ⟨rfl, fun W hb => yields_un rfl rfl (not_run W false)⟩
  · exact .inl ⟨rfl, fun W hb => yields_pick (b := false) rfl rfl rfl⟩
  intro w2 hb2
  clear hE c2 c0 c1 cd
  go_wp2
  go_ret
  exact ⟨rfl, H0.out.trans (hb2.mono H0.out.size)⟩

set_option maxHeartbeats 1000000 in
theorem reright_G (e : Ev) (w : World) (hl : e.deps.length = 16) (k : Nat) (hr : e.r = (k : Int)) (hk16 : k < 16) (hd : okdot (k : Int) e.n = true) (h0 : decide (e.t < 0) = false) (h1 : decide (1152921504606846975 < e.t) = false) (hf : fine e.deps = true) (hb0 : 1 ≤ e.n) (hb1 : e.n ≤ 1048576) (hn : (e.deps.getD k 0 != e.n - 1) = false) (ho : opE e = true) (res : Bool) (hres : Hid ((if e.kind = 10 then hasv e.deps e.rr e.rn else isrefE e || hasv e.deps e.rr e.rn) = res)) : Calls Try.prog 19 #[.agg (evc e)] w fun e' w' => e' = .returned (.bool res) ∧ Below w.heap.size w w' := by
  obtain ⟨hE, hB⟩ := boxedE w e
  have H0 : Hid (Below w.heap.size w (w.alloc (.cells (evc e) 39))) := hB
  clear hB
  have c2 := hE.c2
  have c0 := hE.c0
  rw [hr] at c0
  have c1 := hE.c1
  have cd := hE.cd hl hk16
  obtain ⟨O, io⟩ := is_any e
  go_enter Try.func19, Try.ntmps19
  go_wp2_with fail
  refine region_vals [3, 4, 5, 6, 7, 8, 9, 10, 11, 12, 13, 14, 15, 16, 17, 18, 19, 20, 21, 22, 23, 24, 25, 26, 27, 28, 29, 30, 31, 32, 33, 34, 35, 36, 37, 38, 39, 40, 41] [.pointer (some ⟨w.heap.size, 0, none⟩), .agg (dotc ((k : Int)) (e.n)), .bool true, .bool false, .bool false, .pointer (some ⟨w.heap.size, 2, none⟩), .int .i64 (e.t), .bool false, .bool false, .bool false, .pointer (some ⟨w.heap.size, 2, none⟩), .int .i64 (e.t), .bool false, .bool false, .bool false, .pointer (some ⟨w.heap.size, 3, none⟩), .agg (vals (e.deps)), .bool true, .bool false, .bool false, .bool false, .pointer (some ⟨w.heap.size, 0, none⟩), .pointer (some ⟨w.heap.size, 0, none⟩), .int .i64 ((k : Int)), .pointer (some ⟨w.heap.size, 3, none⟩), .pointer (some ⟨w.heap.size, 3 + k, none⟩), .int .i64 ((e.deps.getD k 0)), .pointer (some ⟨w.heap.size, 0, none⟩), .pointer (some ⟨w.heap.size, 1, none⟩), .int .i64 (e.n), .int .i64 (e.n - 1), .bool false, .bool false, .bool false, .pointer (some ⟨w.heap.size, 19, none⟩), .agg O, .bool true, .bool false, .bool false] _ (by kernel_rfl) (by kernel_rfl) (by rfl) (by decide) (by kernel_rfl) (by simp only [lay, Act.put, List.setIfInBounds_toArray, List.set_cons_zero, List.set_cons_succ, List.getD_cons_zero, List.getD_cons_succ, Nat.reduceAdd]; rfl) ⟨?_, ?_, ?_, ?_, ?_, ?_, ?_, ?_, ?_, ?_, ?_, ?_, ?_, ?_, ?_, ?_, ?_, ?_, ?_, ?_, ?_, ?_, ?_, ?_, ?_, ?_, ?_, ?_, ?_, ?_, ?_, ?_, ?_, ?_, ?_, ?_, ?_, ?_, ?_, trivial⟩ ?_
  · exact .inl ⟨rfl, fun W hb => yields_field rfl rfl (fieldE0_run W _)⟩
  · exact .inl ⟨rfl, fun W hb => yields_load rfl rfl (load_dotE_run2 ((hE).below hb (hE).lt) hr)⟩
  · exact .inl ⟨rfl, fun W hb => yields_call (vs := [.agg (dotc ((k : Int)) (e.n))]) (v := .bool true) rfl rfl (enters_rdot _ _) (okcall (rdot_any _ _ W) hd)⟩
  · exact .inl ⟨rfl, fun W hb => yields_un rfl rfl (not_run W true)⟩
  · exact .inl ⟨rfl, fun W hb => yields_move rfl rfl⟩
  · exact .inl ⟨rfl, fun W hb => yields_field rfl rfl (fieldE1_run W _)⟩
  · exact .inl ⟨rfl, fun W hb => yields_load rfl rfl (load_int_run ((hb.cell (block_lt_of_cell c2)).trans c2))⟩
  · exact .inl ⟨rfl, fun W hb => yields_bin rfl rfl rfl (eqGuard_int W) (lss_is W h0)⟩
  · exact .inl ⟨rfl, fun W hb => yields_pick (b := false) rfl rfl rfl⟩
  · exact .inl ⟨rfl, fun W hb => yields_move rfl rfl⟩
  · exact .inl ⟨rfl, fun W hb => yields_field rfl rfl (fieldE1_run W _)⟩
  · exact .inl ⟨rfl, fun W hb => yields_load rfl rfl (load_int_run ((hb.cell (block_lt_of_cell c2)).trans c2))⟩
  · exact .inl ⟨rfl, fun W hb => yields_bin rfl rfl rfl (eqGuard_int W) (gtr_is W h1)⟩
  · exact .inl ⟨rfl, fun W hb => yields_pick (b := false) rfl rfl rfl⟩
  · exact .inl ⟨rfl, fun W hb => yields_move rfl rfl⟩
  · exact .inl ⟨rfl, fun W hb => yields_field rfl rfl (fieldE2_run W _)⟩
  · exact .inl ⟨rfl, fun W hb => yields_load rfl rfl (load_depsE_run ((hE).below hb (hE).lt) hl)⟩
  · exact .inl ⟨rfl, fun W hb => yields_call (vs := [.agg (vals (e.deps))]) (v := .bool true) rfl rfl (enters_rright _ _) (okcall (rright_any _ hl W) hf)⟩
  · exact .inl ⟨rfl, fun W hb => yields_un rfl rfl (not_run W true)⟩
  · exact .inl ⟨rfl, fun W hb => yields_pick (b := false) rfl rfl rfl⟩
  · exact .inl ⟨rfl, fun W hb => yields_move rfl rfl⟩
  · exact .inl ⟨rfl, fun W hb => yields_field rfl rfl (fieldE0_run W _)⟩
  · exact .inl ⟨rfl, fun W hb => yields_field rfl rfl (field0_run W _)⟩
  · exact .inl ⟨rfl, fun W hb => yields_load rfl rfl (load_int_run ((hb.cell (block_lt_of_cell c0)).trans c0))⟩
  · exact .inl ⟨rfl, fun W hb => yields_field rfl rfl (fieldE2_run W _)⟩
  · exact .inl ⟨rfl, fun W hb => yields_indexAddr rfl rfl rfl (run_indexAt_at W _ 3 k hk16)⟩
  · exact .inl ⟨rfl, fun W hb => yields_load rfl rfl (load_int_run ((hb.cell (block_lt_of_cell cd)).trans cd))⟩
  · exact .inl ⟨rfl, fun W hb => yields_field rfl rfl (fieldE0_run W _)⟩
  · exact .inl ⟨rfl, fun W hb => yields_field rfl rfl (field1_run W _)⟩
  · exact .inl ⟨rfl, fun W hb => yields_load rfl rfl (load_int_run ((hb.cell (block_lt_of_cell c1)).trans c1))⟩
  · exact .inl ⟨rfl, fun W hb => yields_bin rfl rfl rfl (eqGuard_int W) (sub_run W hb0 hb1)⟩
  · exact .inl ⟨rfl, fun W hb => yields_bin rfl rfl rfl (eqGuard_int W) (neq_is W hn)⟩
  · exact .inl ⟨rfl, fun W hb => yields_pick (b := false) rfl rfl rfl⟩
  · exact .inl ⟨rfl, fun W hb => yields_move rfl rfl⟩
  · exact .inl ⟨rfl, fun W hb => yields_field rfl rfl (fieldE3_run W _)⟩
  · exact .inl ⟨rfl, fun W hb => yields_load rfl rfl (load_opE_run ((hE).below hb (hE).lt) hl io)⟩
  · exact .inl ⟨rfl, fun W hb => yields_call (vs := [.agg O]) (v := .bool true) rfl rfl (enters_rop _ _) (okcall (rop_is io W) ho)⟩
  · exact .inl ⟨rfl, fun W hb => yields_un rfl rfl (not_run W true)⟩
  · exact .inl ⟨rfl, fun W hb => yields_pick (b := false) rfl rfl rfl⟩
  intro w2 hb2
  have E2 := hE.below hb2 hE.lt
  have B2 : Hid (Below w.heap.size w w2) := H0.out.trans (hb2.mono H0.out.size)
  clear hE c2 c0 c1 cd hb2 H0 hr hd h0 h1 hf hn ho io
  have hd := E2.deps hl
  have hr := E2.ref hl
  have c19 := E2.c19 hl
  clear E2
  by_cases h10 : e.kind = 10
  · have HX : Hid (hasv e.deps e.rr e.rn = res) := by
      show _ = _
      rw [← hres.out, if_pos h10]
    rw [h10] at c19
    clear h10
    go_wp2_with (first | refine load_vec_at rfl rfl rfl hd hl ?_ | refine load_dot_at rfl rfl rfl hr ?_)
    refine (rhas_any e.deps e.rr e.rn hl _).mono ?_
    rintro e1 w3 ⟨rfl, hb3⟩
    clear hd hr c19
    go_wp2
    go_ret
    exact ⟨congrArg (fun b => Ending.returned (.bool b)) HX.out, B2.out.trans (hb3.mono B2.out.size)⟩
  · have HX : Hid ((isrefE e || hasv e.deps e.rr e.rn) = res) := by
      show _ = _
      rw [← hres.out, if_neg h10]
    have k10 : (e.kind == 10) = false := by simpa using h10
    have hp := plain_dot
    clear h10
    rcases Bool.eq_false_or_eq_true (isrefE e) with hi | hi
    · rw [hi, Bool.true_or] at HX
      have he := fun W : World => run_isref W hi
      clear hi
      go_wp2_with (first | refine load_vec_at rfl rfl rfl hd hl ?_ | refine load_dot_at rfl rfl rfl hr ?_)
      go_ret
      exact ⟨congrArg (fun b => Ending.returned (.bool b)) HX.out, B2.out⟩
    · rw [hi, Bool.false_or] at HX
      have he := fun W : World => run_isref W hi
      clear hi
      go_wp2_with (first | refine load_vec_at rfl rfl rfl hd hl ?_ | refine load_dot_at rfl rfl rfl hr ?_)
      refine (rhas_any e.deps e.rr e.rn hl _).mono ?_
      rintro e1 w3 ⟨rfl, hb3⟩
      clear hd hr c19
      go_wp2
      go_ret
      exact ⟨congrArg (fun b => Ending.returned (.bool b)) HX.out, B2.out.trans (hb3.mono B2.out.size)⟩

theorem place_iff (e : Ev) : placeE e = true ↔ fine e.deps = true ∧ okdot e.r e.n = true ∧ e.n = e.deps.getD e.r.toNat 0 + 1 := by
  constructor
  · exact place_parts
  · rintro ⟨h1, h2, h3⟩
    rw [placeE, decide_eq_true_eq, withE, h1, h2, if_pos (by rfl), if_pos h3]
theorem okev_not {e : Ev} (h : ¬ (placeE e = true ∧ 0 ≤ e.t ∧ e.t ≤ 1152921504606846975 ∧ opE e = true)) : okev e = false := by
  rw [Bool.eq_false_iff]
  intro h'
  simp only [okev, Bool.and_eq_true, decide_eq_true_eq] at h'
  exact h ⟨h'.1, h'.2.1, h'.2.2.1, h'.2.2.2.1⟩
theorem reright_any (e : Ev) (hl : e.deps.length = 16) (w : World) : Calls Try.prog 19 #[.agg (evc e)] w fun e' w' => e' = .returned (.bool (okev e)) ∧ Below w.heap.size w w' := by
  rcases Bool.eq_false_or_eq_true (okdot e.r e.n) with hd | hd
  · obtain ⟨r0, r1, n0, n1⟩ := of_decide_eq_true hd
    by_cases h0 : e.t < 0
    · rw [okev_not (fun h => by omega)]; exact reright_B e w hl hd (decide_eq_true h0)
    · by_cases h1 : 1152921504606846975 < e.t
      · rw [okev_not (fun h => by omega)]; exact reright_C e w hl hd (decide_eq_false h0) (decide_eq_true h1)
      · rcases Bool.eq_false_or_eq_true (fine e.deps) with hf | hf
        · obtain ⟨k, hk⟩ : ∃ k : Nat, e.r = (k : Int) := ⟨e.r.toNat, by omega⟩
          have hd' := hd
          rw [hk] at hd'
          have ek : e.r.toNat = k := by omega
          by_cases hn : e.deps.getD k 0 = e.n - 1
          · have hp : placeE e = true := (place_iff e).2 ⟨hf, hd, by rw [ek]; omega⟩
            rcases Bool.eq_false_or_eq_true (opE e) with ho | ho
            · have hg := reright_G e w hl k hk (by omega) hd' (decide_eq_false h0) (decide_eq_false h1) hf n0 n1 (by simpa using hn) ho _ rfl
              have hR : refE e = (if e.kind = 10 then hasv e.deps e.rr e.rn else isrefE e || hasv e.deps e.rr e.rn) := by
                unfold refE
                by_cases h10 : e.kind = 10
                · rw [if_pos h10, if_pos h10]
                · rw [if_neg h10, if_neg h10]
                  by_cases h9 : e.kind = 9
                  · rw [if_pos h9]
                  · rw [if_neg h9]
                    have hz := ((opE_iff e).1 ho).2.2.2.2 (decide_eq_false (by omega))
                    rw [show isrefE e = true from decide_eq_true hz, Bool.true_or]
              have hk' : okev e = refE e := by
                rw [okev, hp, ho, decide_eq_true (by omega : 0 ≤ e.t), decide_eq_true (by omega : e.t ≤ 1152921504606846975)]
                rfl
              rw [hk', hR]
              exact hg
            · rw [okev_not (fun h => by rw [ho] at h; cases h.2.2.2)]
              exact reright_F e w hl k hk (by omega) hd' (decide_eq_false h0) (decide_eq_false h1) hf n0 n1 (by simpa using hn) ho
          · rw [okev_not (fun h => hn (by have := ((place_iff e).1 h.1).2.2; rw [ek] at this; omega))]
            exact reright_E e w hl k hk (by omega) hd' (decide_eq_false h0) (decide_eq_false h1) hf n0 n1 (by simpa using hn)
        · rw [okev_not (fun h => by have := ((place_iff e).1 h.1).1; rw [hf] at this; cases this)]
          exact reright_D e w hl hd (decide_eq_false h0) (decide_eq_false h1) hf
  · rw [okev_not (fun h => by have := ((place_iff e).1 h.1).2.1; rw [hd] at this; cases this)]
    exact reright_A e w hl hd
end Go.Proofs.Yteanpepmncgagaa
