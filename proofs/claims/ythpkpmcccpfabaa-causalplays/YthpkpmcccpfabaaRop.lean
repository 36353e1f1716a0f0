/-
  What rightOp comes to.
-/
import Derived.Test.YthpkpmcccpfabaaOpe
import Derived.Test.YthpkpmcccpfabaaOnl
import Derived.Test.YthpkpmcccpfabaaEqe
import Derived.Test.YthpkpmcccpfabaaHas
namespace Go.Proofs.Ythpkpmcccpfabaa
set_option maxRecDepth 100000
open Go.RowKit

theorem calls_below {f : FuncId} {as' : Array Value} {W : World} {b : Bool} (h : Calls Try.prog f as' W fun e w' => e = .returned (.bool b) ∧ w' = W) : Calls Try.prog f as' W fun e w' => e = .returned (.bool b) ∧ Below W.heap.size W w' :=
  h.mono fun _ _ ⟨h1, h2⟩ => ⟨h1, by rw [h2]; exact Below.refl _ _⟩
theorem fieldO0_run (w : World) (g : Nat) : (Instr.fieldAt 42 (.pointer (some ⟨g, 0, none⟩)) 0).run Try.prog w = .ok (.pointer (some ⟨g, 0, none⟩)) w := by kernel_rfl
theorem fieldO1_run (w : World) (g : Nat) : (Instr.fieldAt 42 (.pointer (some ⟨g, 0, none⟩)) 1).run Try.prog w = .ok (.pointer (some ⟨g, 1, none⟩)) w := by kernel_rfl
theorem fieldO4_run (w : World) (g : Nat) : (Instr.fieldAt 42 (.pointer (some ⟨g, 0, none⟩)) 4).run Try.prog w = .ok (.pointer (some ⟨g, 4, none⟩)) w := by kernel_rfl
theorem load_str_run {w : World} {ad : Addr} {v : Value} (h : w.cell? ad = some v) : (loadVar 9 ad).run Try.prog w = .ok v w := by
  have h3 : Try.prog.underlying 9 = some .string := by kernel_rfl
  simp [loadVar, isAgg, run_underlying h3, Sem.run_bind, h]
theorem load_op_run {w : World} {g : Nat} {e : Ev} (h : LiesO w g e) : (loadVar 42 ⟨g, 0, none⟩).run Try.prog w = .ok (.agg (opc e)) w :=
  run_loadVar_row w g 42 42 _ (0, 0) _ h Try.underlying42 rfl (size7 e)
/-- The same, its cells a letter. -/
def Is (O : Array Value) (e : Ev) : Prop := O = opc e
theorem is_any (e : Ev) : ∃ O, Is O e := ⟨_, rfl⟩
theorem load_op_is {w : World} {g : Nat} {e : Ev} {O : Array Value} (h : LiesO w g e) (i : Is O e) : (loadVar 42 ⟨g, 0, none⟩).run Try.prog w = .ok (.agg O) w := by
  rw [i]; exact load_op_run h
theorem righttexts_is {e : Ev} {O : Array Value} (i : Is O e) (w : World) (hk : e.key.length ≤ 9223372036854775807) (hf : e.field.length ≤ 9223372036854775807) (hv : e.value.length ≤ 9223372036854775807) :
    Calls Try.prog 61 #[.agg O] w fun e' w' => e' = .returned (.bool (textsE e)) ∧ Below w.heap.size w w' := by
  rw [i]; exact righttexts_any e w hk hf hv
theorem onlyused_is {e : Ev} {O U : Array Value} (i : Is O e) (j : Is U (used e)) (w : World) : Calls Try.prog 63 #[.agg O] w fun e' w' => e' = .returned (.agg U) ∧ Below w.heap.size w w' := by
  rw [i, j]; exact onlyused_any e w
theorem run_eql_is (w : World) {e f : Ev} {O U : Array Value} (i : Is O e) (j : Is U f) : (binOp .eql 42 (.agg O) (.agg U)).run Try.prog w = .ok (.bool (sameO e f)) w := by
  rw [i, j]; exact run_eql_op w e f
theorem boxedI (w : World) {e : Ev} {O : Array Value} (i : Is O e) : LiesO (w.alloc (.cells O 42)) w.heap.size e ∧ Below w.heap.size w (w.alloc (.cells O 42)) := by
  rw [i]; exact boxedO w e
theorem eqGuard_str (w : World) {op : BinOp} {x y : Operand} {a b : ByteArray} : (eqGuard op 9 x y (.string a) (.string b)).run Try.prog w = .ok () w := by
  cases op <;> simp [eqGuard]
theorem neq_str_run (w : World) {s : List UInt8} {b : Bool} (h : decide (s ≠ []) = b) : (binOp .neq 9 (.string (sb s)) (.string ⟨#[]⟩)).run Try.prog w = .ok (.bool b) w := by
  subst h
  show (binOp .neq 9 (.string (sb s)) (.string (sb []))).run Try.prog w = _
  have h : ((sb s).toList == (sb []).toList) = decide (s = []) := by
    rw [ByteArray.toList_eq, ByteArray.toList_eq, data_sb, data_sb, Bool.eq_iff_iff]
    simp
  simp [binOp, Op.stringOp, h]
theorem enters_iskind (xs : Array Value) (w : World) : (callFunc 60 xs).run Try.prog w = .ok (.enter 60 xs) w := enters Try.func60 (by kernel_rfl) (by kernel_rfl) xs w
theorem enters_righttexts (xs : Array Value) (w : World) : (callFunc 61 xs).run Try.prog w = .ok (.enter 61 xs) w := enters Try.func61 (by kernel_rfl) (by kernel_rfl) xs w
theorem enters_rightnum (xs : Array Value) (w : World) : (callFunc 62 xs).run Try.prog w = .ok (.enter 62 xs) w := enters Try.func62 (by kernel_rfl) (by kernel_rfl) xs w
theorem enters_onlyused (xs : Array Value) (w : World) : (callFunc 63 xs).run Try.prog w = .ok (.enter 63 xs) w := enters Try.func63 (by kernel_rfl) (by kernel_rfl) xs w

/-- Can the operation be? -/
def opE (e : Ev) : Bool := iskindE e.kind && (decide (e.key ≠ []) && (textsE e && (numE e.num && sameO e (used e))))

set_option maxHeartbeats 1000000 in
theorem rightop_A (e : Ev) (w : World) {O : Array Value} (i : Is O e) (hk : iskindE e.kind = false) : Calls Try.prog 49 #[.agg O] w fun e' w' => e' = .returned (.bool false) ∧ Below w.heap.size w w' := by
  obtain ⟨hO, hB⟩ := boxedI w i
  have HB : Hid (Below w.heap.size w (w.alloc (.cells O 42))) := hB
  clear hB
  have c0 := hO.c0
  go_enter Try.func49, Try.ntmps49
  go_wp2_with fail
  refine region_vals [3, 4, 5, 6, 7, 8, 9, 10, 11, 12, 13, 14, 15, 16, 17, 18, 19, 20, 21, 22, 23, 24, 25, 2] [.pointer (some ⟨w.heap.size, 0, none⟩), .int .i64 (e.kind), .bool false, .bool false, undef, undef, undef, .bool false, .bool false, undef, undef, .bool false, .bool false, undef, undef, undef, .bool false, .bool false, undef, undef, undef, undef, .bool false, .bool false] _ (by kernel_rfl) (by kernel_rfl) (by rfl) (by decide) (by kernel_rfl) (by simp only [lay, Act.put, List.setIfInBounds_toArray, List.set_cons_zero, List.set_cons_succ, List.getD_cons_zero, List.getD_cons_succ, Nat.reduceAdd]; rfl) ⟨?_, ?_, ?_, ?_, ?_, ?_, ?_, ?_, ?_, ?_, ?_, ?_, ?_, ?_, ?_, ?_, ?_, ?_, ?_, ?_, ?_, ?_, ?_, ?_, trivial⟩ ?_
  · exact .inl ⟨rfl, fun W hb => yields_field rfl rfl (fieldO0_run W _)⟩
  · exact .inl ⟨rfl, fun W hb => yields_load rfl rfl (load_int_run ((hb.cell (block_lt_of_cell c0)).trans c0))⟩
  · exact .inl ⟨rfl, fun W hb => yields_call (vs := [.int .i64 (e.kind)]) (v := .bool false) rfl rfl (enters_iskind _ _) (okcall (calls_below (iskind_any _ W)) hk)⟩
  · exact .inl ⟨rfl, fun W hb => yields_move rfl rfl⟩
  · exact .inr ⟨rfl, rfl⟩
  · exact .inr ⟨rfl, rfl⟩
  · exact .inr ⟨rfl, rfl⟩
  · exact .inl ⟨rfl, fun W hb => yields_pick (b := false) rfl rfl rfl⟩
  · exact .inl ⟨rfl, fun W hb => yields_move rfl rfl⟩
  · exact .inr ⟨rfl, rfl⟩
  · exact .inr ⟨rfl, rfl⟩
  · exact .inl ⟨rfl, fun W hb => yields_pick (b := false) rfl rfl rfl⟩
  · exact .inl ⟨rfl, fun W hb => yields_move rfl rfl⟩
  · exact .inr ⟨rfl, rfl⟩
  · exact .inr ⟨rfl, rfl⟩
  · exact .inr ⟨rfl, rfl⟩
  · exact .inl ⟨rfl, fun W hb => yields_pick (b := false) rfl rfl rfl⟩
  · exact .inl ⟨rfl, fun W hb => yields_move rfl rfl⟩
  · exact .inr ⟨rfl, rfl⟩
  · exact .inr ⟨rfl, rfl⟩
  · exact .inr ⟨rfl, rfl⟩
  · exact .inr ⟨rfl, rfl⟩
  · exact .inl ⟨rfl, fun W hb => yields_pick (b := false) rfl rfl rfl⟩
  · exact .inl ⟨rfl, fun W hb => yields_assign rfl rfl⟩
  intro w2 hb2
  clear c0 hO
  go_wp2
  go_ret
  exact ⟨rfl, HB.out.trans (hb2.mono HB.out.size)⟩
set_option maxHeartbeats 1000000 in
theorem rightop_B (e : Ev) (w : World) {O : Array Value} (i : Is O e) (hk : iskindE e.kind = true) (hy : decide (e.key ≠ []) = false) : Calls Try.prog 49 #[.agg O] w fun e' w' => e' = .returned (.bool false) ∧ Below w.heap.size w w' := by
  obtain ⟨hO, hB⟩ := boxedI w i
  have HB : Hid (Below w.heap.size w (w.alloc (.cells O 42))) := hB
  clear hB
  have c0 := hO.c0
  have c1 := hO.c1
  go_enter Try.func49, Try.ntmps49
  go_wp2_with fail
  refine region_vals [3, 4, 5, 6, 7, 8, 9, 10, 11, 12, 13, 14, 15, 16, 17, 18, 19, 20, 21, 22, 23, 24, 25, 2] [.pointer (some ⟨w.heap.size, 0, none⟩), .int .i64 (e.kind), .bool true, .bool true, .pointer (some ⟨w.heap.size, 1, none⟩), .string (sb (e.key)), .bool false, .bool false, .bool false, undef, undef, .bool false, .bool false, undef, undef, undef, .bool false, .bool false, undef, undef, undef, undef, .bool false, .bool false] _ (by kernel_rfl) (by kernel_rfl) (by rfl) (by decide) (by kernel_rfl) (by simp only [lay, Act.put, List.setIfInBounds_toArray, List.set_cons_zero, List.set_cons_succ, List.getD_cons_zero, List.getD_cons_succ, Nat.reduceAdd]; rfl) ⟨?_, ?_, ?_, ?_, ?_, ?_, ?_, ?_, ?_, ?_, ?_, ?_, ?_, ?_, ?_, ?_, ?_, ?_, ?_, ?_, ?_, ?_, ?_, ?_, trivial⟩ ?_
  · exact .inl ⟨rfl, fun W hb => yields_field rfl rfl (fieldO0_run W _)⟩
  · exact .inl ⟨rfl, fun W hb => yields_load rfl rfl (load_int_run ((hb.cell (block_lt_of_cell c0)).trans c0))⟩
  · exact .inl ⟨rfl, fun W hb => yields_call (vs := [.int .i64 (e.kind)]) (v := .bool true) rfl rfl (enters_iskind _ _) (okcall (calls_below (iskind_any _ W)) hk)⟩
  · exact .inl ⟨rfl, fun W hb => yields_move rfl rfl⟩
  · exact .inl ⟨rfl, fun W hb => yields_field rfl rfl (fieldO1_run W _)⟩
  · exact .inl ⟨rfl, fun W hb => yields_load rfl rfl (load_str_run ((hb.cell (block_lt_of_cell c1)).trans c1))⟩
  · exact .inl ⟨rfl, fun W hb => yields_bin rfl rfl rfl (eqGuard_str W) (neq_str_run W hy)⟩
  · exact .inl ⟨rfl, fun W hb => yields_pick (b := true) rfl rfl rfl⟩
  · exact .inl ⟨rfl, fun W hb => yields_move rfl rfl⟩
  · exact .inr ⟨rfl, rfl⟩
  · exact .inr ⟨rfl, rfl⟩
  · exact .inl ⟨rfl, fun W hb => yields_pick (b := false) rfl rfl rfl⟩
  · exact .inl ⟨rfl, fun W hb => yields_move rfl rfl⟩
  · exact .inr ⟨rfl, rfl⟩
  · exact .inr ⟨rfl, rfl⟩
  · exact .inr ⟨rfl, rfl⟩
  · exact .inl ⟨rfl, fun W hb => yields_pick (b := false) rfl rfl rfl⟩
  · exact .inl ⟨rfl, fun W hb => yields_move rfl rfl⟩
  · exact .inr ⟨rfl, rfl⟩
  · exact .inr ⟨rfl, rfl⟩
  · exact .inr ⟨rfl, rfl⟩
  · exact .inr ⟨rfl, rfl⟩
  · exact .inl ⟨rfl, fun W hb => yields_pick (b := false) rfl rfl rfl⟩
  · exact .inl ⟨rfl, fun W hb => yields_assign rfl rfl⟩
  intro w2 hb2
  clear c0 c1 hO
  go_wp2
  go_ret
  exact ⟨rfl, HB.out.trans (hb2.mono HB.out.size)⟩
set_option maxHeartbeats 1000000 in
theorem rightop_C (e : Ev) (w : World) (lk : Room e) {O : Array Value} (i : Is O e) (hk : iskindE e.kind = true) (hy : decide (e.key ≠ []) = true) (hx : textsE e = false) : Calls Try.prog 49 #[.agg O] w fun e' w' => e' = .returned (.bool false) ∧ Below w.heap.size w w' := by
  obtain ⟨hO, hB⟩ := boxedI w i
  have HB : Hid (Below w.heap.size w (w.alloc (.cells O 42))) := hB
  clear hB
  have c0 := hO.c0
  have c1 := hO.c1
  go_enter Try.func49, Try.ntmps49
  go_wp2_with fail
  refine region_vals [3, 4, 5, 6, 7, 8, 9, 10, 11, 12, 13, 14, 15, 16, 17, 18, 19, 20, 21, 22, 23, 24, 25, 2] [.pointer (some ⟨w.heap.size, 0, none⟩), .int .i64 (e.kind), .bool true, .bool true, .pointer (some ⟨w.heap.size, 1, none⟩), .string (sb (e.key)), .bool true, .bool true, .bool true, .agg O, .bool false, .bool false, .bool false, undef, undef, undef, .bool false, .bool false, undef, undef, undef, undef, .bool false, .bool false] _ (by kernel_rfl) (by kernel_rfl) (by rfl) (by decide) (by kernel_rfl) (by simp only [lay, Act.put, List.setIfInBounds_toArray, List.set_cons_zero, List.set_cons_succ, List.getD_cons_zero, List.getD_cons_succ, Nat.reduceAdd]; rfl) ⟨?_, ?_, ?_, ?_, ?_, ?_, ?_, ?_, ?_, ?_, ?_, ?_, ?_, ?_, ?_, ?_, ?_, ?_, ?_, ?_, ?_, ?_, ?_, ?_, trivial⟩ ?_
  · exact .inl ⟨rfl, fun W hb => yields_field rfl rfl (fieldO0_run W _)⟩
  · exact .inl ⟨rfl, fun W hb => yields_load rfl rfl (load_int_run ((hb.cell (block_lt_of_cell c0)).trans c0))⟩
  · exact .inl ⟨rfl, fun W hb => yields_call (vs := [.int .i64 (e.kind)]) (v := .bool true) rfl rfl (enters_iskind _ _) (okcall (calls_below (iskind_any _ W)) hk)⟩
  · exact .inl ⟨rfl, fun W hb => yields_move rfl rfl⟩
  · exact .inl ⟨rfl, fun W hb => yields_field rfl rfl (fieldO1_run W _)⟩
  · exact .inl ⟨rfl, fun W hb => yields_load rfl rfl (load_str_run ((hb.cell (block_lt_of_cell c1)).trans c1))⟩
  · exact .inl ⟨rfl, fun W hb => yields_bin rfl rfl rfl (eqGuard_str W) (neq_str_run W hy)⟩
  · exact .inl ⟨rfl, fun W hb => yields_pick (b := true) rfl rfl rfl⟩
  · exact .inl ⟨rfl, fun W hb => yields_move rfl rfl⟩
  · exact .inl ⟨rfl, fun W hb => yields_load rfl rfl (load_op_is ((hO).below hb (hO).lt) i)⟩
  · exact .inl ⟨rfl, fun W hb => yields_call (vs := [.agg O]) (v := .bool false) rfl rfl (enters_righttexts _ _) (okcall (righttexts_is i W lk.k lk.f lk.v) hx)⟩
  · exact .inl ⟨rfl, fun W hb => yields_pick (b := true) rfl rfl rfl⟩
  · exact .inl ⟨rfl, fun W hb => yields_move rfl rfl⟩
  · exact .inr ⟨rfl, rfl⟩
  · exact .inr ⟨rfl, rfl⟩
  · exact .inr ⟨rfl, rfl⟩
  · exact .inl ⟨rfl, fun W hb => yields_pick (b := false) rfl rfl rfl⟩
  · exact .inl ⟨rfl, fun W hb => yields_move rfl rfl⟩
  · exact .inr ⟨rfl, rfl⟩
  · exact .inr ⟨rfl, rfl⟩
  · exact .inr ⟨rfl, rfl⟩
  · exact .inr ⟨rfl, rfl⟩
  · exact .inl ⟨rfl, fun W hb => yields_pick (b := false) rfl rfl rfl⟩
  · exact .inl ⟨rfl, fun W hb => yields_assign rfl rfl⟩
  intro w2 hb2
  clear c0 c1 hO
  go_wp2
  go_ret
  exact ⟨rfl, HB.out.trans (hb2.mono HB.out.size)⟩
set_option maxHeartbeats 1000000 in
theorem rightop_D (e : Ev) (w : World) (lk : Room e) {O : Array Value} (i : Is O e) (hk : iskindE e.kind = true) (hy : decide (e.key ≠ []) = true) (hx : textsE e = true) (hn : numE e.num = false) : Calls Try.prog 49 #[.agg O] w fun e' w' => e' = .returned (.bool false) ∧ Below w.heap.size w w' := by
  obtain ⟨hO, hB⟩ := boxedI w i
  have HB : Hid (Below w.heap.size w (w.alloc (.cells O 42))) := hB
  clear hB
  have c0 := hO.c0
  have c1 := hO.c1
  have c4 := hO.c4
  go_enter Try.func49, Try.ntmps49
  go_wp2_with fail
  refine region_vals [3, 4, 5, 6, 7, 8, 9, 10, 11, 12, 13, 14, 15, 16, 17, 18, 19, 20, 21, 22, 23, 24, 25, 2] [.pointer (some ⟨w.heap.size, 0, none⟩), .int .i64 (e.kind), .bool true, .bool true, .pointer (some ⟨w.heap.size, 1, none⟩), .string (sb (e.key)), .bool true, .bool true, .bool true, .agg O, .bool true, .bool true, .bool true, .pointer (some ⟨w.heap.size, 4, none⟩), .int .i64 (e.num), .bool false, .bool false, .bool false, undef, undef, undef, undef, .bool false, .bool false] _ (by kernel_rfl) (by kernel_rfl) (by rfl) (by decide) (by kernel_rfl) (by simp only [lay, Act.put, List.setIfInBounds_toArray, List.set_cons_zero, List.set_cons_succ, List.getD_cons_zero, List.getD_cons_succ, Nat.reduceAdd]; rfl) ⟨?_, ?_, ?_, ?_, ?_, ?_, ?_, ?_, ?_, ?_, ?_, ?_, ?_, ?_, ?_, ?_, ?_, ?_, ?_, ?_, ?_, ?_, ?_, ?_, trivial⟩ ?_
  · exact .inl ⟨rfl, fun W hb => yields_field rfl rfl (fieldO0_run W _)⟩
  · exact .inl ⟨rfl, fun W hb => yields_load rfl rfl (load_int_run ((hb.cell (block_lt_of_cell c0)).trans c0))⟩
  · exact .inl ⟨rfl, fun W hb => yields_call (vs := [.int .i64 (e.kind)]) (v := .bool true) rfl rfl (enters_iskind _ _) (okcall (calls_below (iskind_any _ W)) hk)⟩
  · exact .inl ⟨rfl, fun W hb => yields_move rfl rfl⟩
  · exact .inl ⟨rfl, fun W hb => yields_field rfl rfl (fieldO1_run W _)⟩
  · exact .inl ⟨rfl, fun W hb => yields_load rfl rfl (load_str_run ((hb.cell (block_lt_of_cell c1)).trans c1))⟩
  · exact .inl ⟨rfl, fun W hb => yields_bin rfl rfl rfl (eqGuard_str W) (neq_str_run W hy)⟩
  · exact .inl ⟨rfl, fun W hb => yields_pick (b := true) rfl rfl rfl⟩
  · exact .inl ⟨rfl, fun W hb => yields_move rfl rfl⟩
  · exact .inl ⟨rfl, fun W hb => yields_load rfl rfl (load_op_is ((hO).below hb (hO).lt) i)⟩
  · exact .inl ⟨rfl, fun W hb => yields_call (vs := [.agg O]) (v := .bool true) rfl rfl (enters_righttexts _ _) (okcall (righttexts_is i W lk.k lk.f lk.v) hx)⟩
  · exact .inl ⟨rfl, fun W hb => yields_pick (b := true) rfl rfl rfl⟩
  · exact .inl ⟨rfl, fun W hb => yields_move rfl rfl⟩
  · exact .inl ⟨rfl, fun W hb => yields_field rfl rfl (fieldO4_run W _)⟩
  · exact .inl ⟨rfl, fun W hb => yields_load rfl rfl (load_int_run ((hb.cell (block_lt_of_cell c4)).trans c4))⟩
  · exact .inl ⟨rfl, fun W hb => yields_call (vs := [.int .i64 (e.num)]) (v := .bool false) rfl rfl (enters_rightnum _ _) (okcall (calls_below (rightnum_any _ W)) hn)⟩
  · exact .inl ⟨rfl, fun W hb => yields_pick (b := true) rfl rfl rfl⟩
  · exact .inl ⟨rfl, fun W hb => yields_move rfl rfl⟩
  · exact .inr ⟨rfl, rfl⟩
  · exact .inr ⟨rfl, rfl⟩
  · exact .inr ⟨rfl, rfl⟩
  · exact .inr ⟨rfl, rfl⟩
  · exact .inl ⟨rfl, fun W hb => yields_pick (b := false) rfl rfl rfl⟩
  · exact .inl ⟨rfl, fun W hb => yields_assign rfl rfl⟩
  intro w2 hb2
  clear c0 c1 c4 hO
  go_wp2
  go_ret
  exact ⟨rfl, HB.out.trans (hb2.mono HB.out.size)⟩
set_option maxHeartbeats 1000000 in
theorem rightop_E (e : Ev) (w : World) (lk : Room e) {O : Array Value} (i : Is O e) (hk : iskindE e.kind = true) (hy : decide (e.key ≠ []) = true) (hx : textsE e = true) (hn : numE e.num = true) : Calls Try.prog 49 #[.agg O] w fun e' w' => e' = .returned (.bool (sameO e (used e))) ∧ Below w.heap.size w w' := by
  obtain ⟨U, ju⟩ := is_any (used e)
  obtain ⟨hO, hB⟩ := boxedI w i
  have HB : Hid (Below w.heap.size w (w.alloc (.cells O 42))) := hB
  clear hB
  have c0 := hO.c0
  have c1 := hO.c1
  have c4 := hO.c4
  go_enter Try.func49, Try.ntmps49
  go_wp2_with fail
  refine region_vals [3, 4, 5, 6, 7, 8, 9, 10, 11, 12, 13, 14, 15, 16, 17, 18, 19, 20, 21, 22, 23, 24, 25, 2] [.pointer (some ⟨w.heap.size, 0, none⟩), .int .i64 (e.kind), .bool true, .bool true, .pointer (some ⟨w.heap.size, 1, none⟩), .string (sb (e.key)), .bool true, .bool true, .bool true, .agg O, .bool true, .bool true, .bool true, .pointer (some ⟨w.heap.size, 4, none⟩), .int .i64 (e.num), .bool true, .bool true, .bool true, .agg O, .agg O, .agg U, .bool (sameO e (used e)), .bool (sameO e (used e)), .bool (sameO e (used e))] _ (by kernel_rfl) (by kernel_rfl) (by rfl) (by decide) (by kernel_rfl) (by simp only [lay, Act.put, List.setIfInBounds_toArray, List.set_cons_zero, List.set_cons_succ, List.getD_cons_zero, List.getD_cons_succ, Nat.reduceAdd]; rfl) ⟨?_, ?_, ?_, ?_, ?_, ?_, ?_, ?_, ?_, ?_, ?_, ?_, ?_, ?_, ?_, ?_, ?_, ?_, ?_, ?_, ?_, ?_, ?_, ?_, trivial⟩ ?_
  · exact .inl ⟨rfl, fun W hb => yields_field rfl rfl (fieldO0_run W _)⟩
  · exact .inl ⟨rfl, fun W hb => yields_load rfl rfl (load_int_run ((hb.cell (block_lt_of_cell c0)).trans c0))⟩
  · exact .inl ⟨rfl, fun W hb => yields_call (vs := [.int .i64 (e.kind)]) (v := .bool true) rfl rfl (enters_iskind _ _) (okcall (calls_below (iskind_any _ W)) hk)⟩
  · exact .inl ⟨rfl, fun W hb => yields_move rfl rfl⟩
  · exact .inl ⟨rfl, fun W hb => yields_field rfl rfl (fieldO1_run W _)⟩
  · exact .inl ⟨rfl, fun W hb => yields_load rfl rfl (load_str_run ((hb.cell (block_lt_of_cell c1)).trans c1))⟩
  · exact .inl ⟨rfl, fun W hb => yields_bin rfl rfl rfl (eqGuard_str W) (neq_str_run W hy)⟩
  · exact .inl ⟨rfl, fun W hb => yields_pick (b := true) rfl rfl rfl⟩
  · exact .inl ⟨rfl, fun W hb => yields_move rfl rfl⟩
  · exact .inl ⟨rfl, fun W hb => yields_load rfl rfl (load_op_is ((hO).below hb (hO).lt) i)⟩
  · exact .inl ⟨rfl, fun W hb => yields_call (vs := [.agg O]) (v := .bool true) rfl rfl (enters_righttexts _ _) (okcall (righttexts_is i W lk.k lk.f lk.v) hx)⟩
  · exact .inl ⟨rfl, fun W hb => yields_pick (b := true) rfl rfl rfl⟩
  · exact .inl ⟨rfl, fun W hb => yields_move rfl rfl⟩
  · exact .inl ⟨rfl, fun W hb => yields_field rfl rfl (fieldO4_run W _)⟩
  · exact .inl ⟨rfl, fun W hb => yields_load rfl rfl (load_int_run ((hb.cell (block_lt_of_cell c4)).trans c4))⟩
  · exact .inl ⟨rfl, fun W hb => yields_call (vs := [.int .i64 (e.num)]) (v := .bool true) rfl rfl (enters_rightnum _ _) (okcall (calls_below (rightnum_any _ W)) hn)⟩
  · exact .inl ⟨rfl, fun W hb => yields_pick (b := true) rfl rfl rfl⟩
  · exact .inl ⟨rfl, fun W hb => yields_move rfl rfl⟩
  · exact .inl ⟨rfl, fun W hb => yields_load rfl rfl (load_op_is ((hO).below hb (hO).lt) i)⟩
  · exact .inl ⟨rfl, fun W hb => yields_load rfl rfl (load_op_is ((hO).below hb (hO).lt) i)⟩
  · exact .inl ⟨rfl, fun W hb => yields_call (vs := [.agg O]) (v := .agg U) rfl rfl (enters_onlyused _ _) (onlyused_is i ju W)⟩
  · exact .inl ⟨rfl, fun W hb => yields_bin rfl rfl rfl (run_eqGuard_agg W _ _ _ _ _ _ plain_op) (run_eql_is W i ju)⟩
  · exact .inl ⟨rfl, fun W hb => yields_pick (b := true) rfl rfl rfl⟩
  · exact .inl ⟨rfl, fun W hb => yields_assign rfl rfl⟩
  intro w2 hb2
  clear c0 c1 c4 hO
  go_wp2
  go_ret
  exact ⟨rfl, HB.out.trans (hb2.mono HB.out.size)⟩
theorem rightop_any (e : Ev) (w : World) (lk : Room e) : Calls Try.prog 49 #[.agg (opc e)] w fun e' w' => e' = .returned (.bool (opE e)) ∧ Below w.heap.size w w' := by
  rcases Bool.eq_false_or_eq_true (iskindE e.kind) with hk | hk
  · rcases Bool.eq_false_or_eq_true (decide (e.key ≠ [])) with hy | hy
    · rcases Bool.eq_false_or_eq_true (textsE e) with hx | hx
      · rcases Bool.eq_false_or_eq_true (numE e.num) with hn | hn
        · rw [opE, hk, hy, hx, hn]; exact rightop_E e w lk rfl hk hy hx hn
        · rw [opE, hk, hy, hx, hn]; exact rightop_D e w lk rfl hk hy hx hn
      · rw [opE, hk, hy, hx]; exact rightop_C e w lk rfl hk hy hx
    · rw [opE, hk, hy]; exact rightop_B e w rfl hk hy
  · rw [opE, hk]; exact rightop_A e w rfl hk
end Go.Proofs.Ythpkpmcccpfabaa
