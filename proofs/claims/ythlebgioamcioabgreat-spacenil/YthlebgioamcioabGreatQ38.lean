/-
  What rightOp comes to.
-/
import Derived.Test.YthlebgioamcioabGreatQ24
import Derived.Test.YthlebgioamcioabGreatQ07
import Derived.Test.YthlebgioamcioabGreatQ37
import Derived.Test.YthlebgioamcioabGreatQ06
import Derived.Test.YthlebgioamcioabGreatQ05
namespace Go.Proofs.YthlebgioamcioabGreat
set_option maxRecDepth 100000
open Go.RowKit

theorem calls_below {f : FuncId} {as' : Array Value} {W : World} {b : Bool} (h : Calls Tryz.prog f as' W fun e w' => e = .returned (.bool b) ∧ w' = W) : Calls Tryz.prog f as' W fun e w' => e = .returned (.bool b) ∧ Below W.heap.size W w' :=
  h.mono fun _ _ ⟨h1, h2⟩ => ⟨h1, by rw [h2]; exact Below.refl _ _⟩
theorem fieldO0_run (w : World) (g : Nat) : (Instr.fieldAt 27 (.pointer (some ⟨g, 0, none⟩)) 0).run Tryz.prog w = .ok (.pointer (some ⟨g, 0, none⟩)) w := by kernel_rfl
theorem fieldO1_run (w : World) (g : Nat) : (Instr.fieldAt 27 (.pointer (some ⟨g, 0, none⟩)) 1).run Tryz.prog w = .ok (.pointer (some ⟨g, 1, none⟩)) w := by kernel_rfl
theorem fieldO4_run (w : World) (g : Nat) : (Instr.fieldAt 27 (.pointer (some ⟨g, 0, none⟩)) 4).run Tryz.prog w = .ok (.pointer (some ⟨g, 4, none⟩)) w := by kernel_rfl
theorem load_op_run {w : World} {g : Nat} {e : Ev} (h : LiesO w g e) : (loadVar 27 ⟨g, 0, none⟩).run Tryz.prog w = .ok (.agg (opc e)) w :=
  run_loadVar_row w g 27 27 _ (0, 0) _ h Tryz.underlying27 rfl (size7 e)
/-- The same, its cells a letter. -/
def Is (O : Array Value) (e : Ev) : Prop := O = opc e
theorem is_any (e : Ev) : ∃ O, Is O e := ⟨_, rfl⟩
theorem load_op_is {w : World} {g : Nat} {e : Ev} {O : Array Value} (h : LiesO w g e) (i : Is O e) : (loadVar 27 ⟨g, 0, none⟩).run Tryz.prog w = .ok (.agg O) w := by
  rw [i]; exact load_op_run h
theorem righttexts_is {e : Ev} {O : Array Value} (i : Is O e) (w : World) (hk : e.key.length ≤ 9223372036854775807) (hf : e.field.length ≤ 9223372036854775807) (hv : e.value.length ≤ 9223372036854775807) :
    Calls Tryz.prog 168 #[.agg O] w fun e' w' => e' = .returned (.bool (textsE e)) ∧ Below w.heap.size w w' := by
  rw [i]; exact righttexts_any e w hk hf hv
theorem onlyused_is {e : Ev} {O U : Array Value} (i : Is O e) (j : Is U (used e)) (w : World) : Calls Tryz.prog 170 #[.agg O] w fun e' w' => e' = .returned (.agg U) ∧ Below w.heap.size w w' := by
  rw [i, j]; exact onlyused_any e w
theorem run_eql_is (w : World) {e f : Ev} {O U : Array Value} (i : Is O e) (j : Is U f) : (binOp .eql 27 (.agg O) (.agg U)).run Tryz.prog w = .ok (.bool (sameO e f)) w := by
  rw [i, j]; exact run_eql_op w e f
theorem boxedI (w : World) {e : Ev} {O : Array Value} (i : Is O e) : LiesO (w.alloc (.cells O 27)) w.heap.size e ∧ Below w.heap.size w (w.alloc (.cells O 27)) := by
  rw [i]; exact boxedO w e
theorem eqGuard_str (w : World) {op : BinOp} {x y : Operand} {a b : ByteArray} : (eqGuard op 9 x y (.string a) (.string b)).run Tryz.prog w = .ok () w := by
  cases op <;> simp [eqGuard]
theorem neq_str_run (w : World) {s : List UInt8} {b : Bool} (h : decide (s ≠ []) = b) : (binOp .neq 9 (.string (sb s)) (.string ⟨#[]⟩)).run Tryz.prog w = .ok (.bool b) w := by
  subst h
  show (binOp .neq 9 (.string (sb s)) (.string (sb []))).run Tryz.prog w = _
  have h : ((sb s).toList == (sb []).toList) = decide (s = []) := by
    rw [ByteArray.toList_eq, ByteArray.toList_eq, data_sb, data_sb, Bool.eq_iff_iff]
    simp
  simp [binOp, Op.stringOp, h]
theorem enters_iskind (xs : Array Value) (w : World) : (callFunc 167 xs).run Tryz.prog w = .ok (.enter 167 xs) w := enters Tryz.func167 (by kernel_rfl) (by kernel_rfl) xs w
theorem enters_righttexts (xs : Array Value) (w : World) : (callFunc 168 xs).run Tryz.prog w = .ok (.enter 168 xs) w := enters Tryz.func168 (by kernel_rfl) (by kernel_rfl) xs w
theorem enters_rightnum (xs : Array Value) (w : World) : (callFunc 169 xs).run Tryz.prog w = .ok (.enter 169 xs) w := enters Tryz.func169 (by kernel_rfl) (by kernel_rfl) xs w
theorem enters_onlyused (xs : Array Value) (w : World) : (callFunc 170 xs).run Tryz.prog w = .ok (.enter 170 xs) w := enters Tryz.func170 (by kernel_rfl) (by kernel_rfl) xs w

/-- Can the operation be? -/
def opE (e : Ev) : Bool := iskindE e.kind && (decide (e.key ≠ []) && (textsE e && (numE e.num && sameO e (used e))))

set_option maxHeartbeats 1000000 in
theorem rightop_A (e : Ev) (w : World) {O : Array Value} (i : Is O e) (hk : iskindE e.kind = false) : Calls Tryz.prog 100 #[.agg O] w fun e' w' => e' = .returned (.bool false) ∧ Below w.heap.size w w' := by
  obtain ⟨hO, hB⟩ := boxedI w i
  have HB : Hid (Below w.heap.size w (w.alloc (.cells O 27))) := hB
  clear hB
  have c0 := hO.c0
  go_enter Tryz.func100, Tryz.ntmps100
  go_wp2_with fail
  refine region_vals [3, 4, 5, 6, 7, 8, 9, 10, 11, 12, 13, 14, 15, 16, 17, 18, 19, 20, 21, 22, 23, 24, 25, 2] [.pointer (some ⟨w.heap.size, 0, none⟩), .int .i64 (e.kind), .bool false, .bool false, undef, undef, undef, .bool false, .bool false, undef, undef, .bool false, .bool false, undef, undef, undef, .bool false, .bool false, undef, undef, undef, undef, .bool false, .bool false] _ (by kernel_rfl) (by kernel_rfl) (by rfl) (by decide) (by kernel_rfl) (by simp only [lay, Act.put, List.setIfInBounds_toArray, List.set_cons_zero, List.set_cons_succ, List.getD_cons_zero, List.getD_cons_succ, Nat.reduceAdd]; rfl) ⟨?_, ?_, ?_, ?_, ?_, ?_, ?_, ?_, ?_, ?_, ?_, ?_, ?_, ?_, ?_, ?_, ?_, ?_, ?_, ?_, ?_, ?_, ?_, ?_, trivial⟩ ?_
  · exact .inl ⟨rfl, fun W hb => yields_field rfl rfl (fieldO0_run W _)⟩
  · exact .inl ⟨rfl, fun W hb => yields_load rfl rfl (load_int_run ((hb.cell (block_lt_of_cell c0)).trans c0))⟩
  · exact .inl ⟨rfl, fun W hb => yields_call (vs := [.int .i64 (e.kind)]) (v := .bool false) rfl rfl (enters_iskind _ _) (okcall (calls_below (iskind_any _ W)) hk)⟩
  · exact .inl ⟨rfl, fun W hb => yields_move rfl rfl⟩
  · exact .inr ⟨rfl, rfl⟩
  · exact .inr ⟨rfl, rfl⟩
  · exact .inr ⟨rfl, rfl⟩
  · exact .inl ⟨rfl, fun W hb => yields_pick (b := false) rfl rfl rfl⟩
  · exact .inl ⟨rfl, fun W hb => yields_move rfl rfl⟩
  · exact .inr ⟨rfl, rfl⟩
  · exact .inr ⟨rfl, rfl⟩
  · exact .inl ⟨rfl, fun W hb => yields_pick (b := false) rfl rfl rfl⟩
  · exact .inl ⟨rfl, fun W hb => yields_move rfl rfl⟩
  · exact .inr ⟨rfl, rfl⟩
  · exact .inr ⟨rfl, rfl⟩
  · exact .inr ⟨rfl, rfl⟩
  · exact .inl ⟨rfl, fun W hb => yields_pick (b := false) rfl rfl rfl⟩
  · exact .inl ⟨rfl, fun W hb => yields_move rfl rfl⟩
  · exact .inr ⟨rfl, rfl⟩
  · exact .inr ⟨rfl, rfl⟩
  · exact .inr ⟨rfl, rfl⟩
  · exact .inr ⟨rfl, rfl⟩
  · exact .inl ⟨rfl, fun W hb => yields_pick (b := false) rfl rfl rfl⟩
  · exact .inl ⟨rfl, fun W hb => yields_assign rfl rfl⟩
  intro w2 hb2
  clear c0 hO
  go_wp2
  go_ret
  exact ⟨rfl, HB.out.trans (hb2.mono HB.out.size)⟩
set_option maxHeartbeats 1000000 in
theorem rightop_B (e : Ev) (w : World) {O : Array Value} (i : Is O e) (hk : iskindE e.kind = true) (hy : decide (e.key ≠ []) = false) : Calls Tryz.prog 100 #[.agg O] w fun e' w' => e' = .returned (.bool false) ∧ Below w.heap.size w w' := by
  obtain ⟨hO, hB⟩ := boxedI w i
  have HB : Hid (Below w.heap.size w (w.alloc (.cells O 27))) := hB
  clear hB
  have c0 := hO.c0
  have c1 := hO.c1
  go_enter Tryz.func100, Tryz.ntmps100
  go_wp2_with fail
  refine region_vals [3, 4, 5, 6, 7, 8, 9, 10, 11, 12, 13, 14, 15, 16, 17, 18, 19, 20, 21, 22, 23, 24, 25, 2] [.pointer (some ⟨w.heap.size, 0, none⟩), .int .i64 (e.kind), .bool true, .bool true, .pointer (some ⟨w.heap.size, 1, none⟩), .string (sb (e.key)), .bool false, .bool false, .bool false, undef, undef, .bool false, .bool false, undef, undef, undef, .bool false, .bool false, undef, undef, undef, undef, .bool false, .bool false] _ (by kernel_rfl) (by kernel_rfl) (by rfl) (by decide) (by kernel_rfl) (by simp only [lay, Act.put, List.setIfInBounds_toArray, List.set_cons_zero, List.set_cons_succ, List.getD_cons_zero, List.getD_cons_succ, Nat.reduceAdd]; rfl) ⟨?_, ?_, ?_, ?_, ?_, ?_, ?_, ?_, ?_, ?_, ?_, ?_, ?_, ?_, ?_, ?_, ?_, ?_, ?_, ?_, ?_, ?_, ?_, ?_, trivial⟩ ?_
  · exact .inl ⟨rfl, fun W hb => yields_field rfl rfl (fieldO0_run W _)⟩
  · exact .inl ⟨rfl, fun W hb => yields_load rfl rfl (load_int_run ((hb.cell (block_lt_of_cell c0)).trans c0))⟩
  · exact .inl ⟨rfl, fun W hb => yields_call (vs := [.int .i64 (e.kind)]) (v := .bool true) rfl rfl (enters_iskind _ _) (okcall (calls_below (iskind_any _ W)) hk)⟩
  · exact .inl ⟨rfl, fun W hb => yields_move rfl rfl⟩
  · exact .inl ⟨rfl, fun W hb => yields_field rfl rfl (fieldO1_run W _)⟩
  · exact .inl ⟨rfl, fun W hb => yields_load rfl rfl (load_str_run ((hb.cell (block_lt_of_cell c1)).trans c1))⟩
  · exact .inl ⟨rfl, fun W hb => yields_bin rfl rfl rfl (eqGuard_str W) (neq_str_run W hy)⟩
  · exact .inl ⟨rfl, fun W hb => yields_pick (b := true) rfl rfl rfl⟩
  · exact .inl ⟨rfl, fun W hb => yields_move rfl rfl⟩
  · exact .inr ⟨rfl, rfl⟩
  · exact .inr ⟨rfl, rfl⟩
  · exact .inl ⟨rfl, fun W hb => yields_pick (b := false) rfl rfl rfl⟩
  · exact .inl ⟨rfl, fun W hb => yields_move rfl rfl⟩
  · exact .inr ⟨rfl, rfl⟩
  · exact .inr ⟨rfl, rfl⟩
  · exact .inr ⟨rfl, rfl⟩
  · exact .inl ⟨rfl, fun W hb => yields_pick (b := false) rfl rfl rfl⟩
  · exact .inl ⟨rfl, fun W hb => yields_move rfl rfl⟩
  · exact .inr ⟨rfl, rfl⟩
  · exact .inr ⟨rfl, rfl⟩
  · exact .inr ⟨rfl, rfl⟩
  · exact .inr ⟨rfl, rfl⟩
  · exact .inl ⟨rfl, fun W hb => yields_pick (b := false) rfl rfl rfl⟩
  · exact .inl ⟨rfl, fun W hb => yields_assign rfl rfl⟩
  intro w2 hb2
  clear c0 c1 hO
  go_wp2
  go_ret
  exact ⟨rfl, HB.out.trans (hb2.mono HB.out.size)⟩
set_option maxHeartbeats 1000000 in
theorem rightop_C (e : Ev) (w : World) (lk : Room e) {O : Array Value} (i : Is O e) (hk : iskindE e.kind = true) (hy : decide (e.key ≠ []) = true) (hx : textsE e = false) : Calls Tryz.prog 100 #[.agg O] w fun e' w' => e' = .returned (.bool false) ∧ Below w.heap.size w w' := by
  obtain ⟨hO, hB⟩ := boxedI w i
  have HB : Hid (Below w.heap.size w (w.alloc (.cells O 27))) := hB
  clear hB
  have c0 := hO.c0
  have c1 := hO.c1
  go_enter Tryz.func100, Tryz.ntmps100
  go_wp2_with fail
  refine region_vals [3, 4, 5, 6, 7, 8, 9, 10, 11, 12, 13, 14, 15, 16, 17, 18, 19, 20, 21, 22, 23, 24, 25, 2] [.pointer (some ⟨w.heap.size, 0, none⟩), .int .i64 (e.kind), .bool true, .bool true, .pointer (some ⟨w.heap.size, 1, none⟩), .string (sb (e.key)), .bool true, .bool true, .bool true, .agg O, .bool false, .bool false, .bool false, undef, undef, undef, .bool false, .bool false, undef, undef, undef, undef, .bool false, .bool false] _ (by kernel_rfl) (by kernel_rfl) (by rfl) (by decide) (by kernel_rfl) (by simp only [lay, Act.put, List.setIfInBounds_toArray, List.set_cons_zero, List.set_cons_succ, List.getD_cons_zero, List.getD_cons_succ, Nat.reduceAdd]; rfl) ⟨?_, ?_, ?_, ?_, ?_, ?_, ?_, ?_, ?_, ?_, ?_, ?_, ?_, ?_, ?_, ?_, ?_, ?_, ?_, ?_, ?_, ?_, ?_, ?_, trivial⟩ ?_
  · exact .inl ⟨rfl, fun W hb => yields_field rfl rfl (fieldO0_run W _)⟩
  · exact .inl ⟨rfl, fun W hb => yields_load rfl rfl (load_int_run ((hb.cell (block_lt_of_cell c0)).trans c0))⟩
  · exact .inl ⟨rfl, fun W hb => yields_call (vs := [.int .i64 (e.kind)]) (v := .bool true) rfl rfl (enters_iskind _ _) (okcall (calls_below (iskind_any _ W)) hk)⟩
  · exact .inl ⟨rfl, fun W hb => yields_move rfl rfl⟩
  · exact .inl ⟨rfl, fun W hb => yields_field rfl rfl (fieldO1_run W _)⟩
  · exact .inl ⟨rfl, fun W hb => yields_load rfl rfl (load_str_run ((hb.cell (block_lt_of_cell c1)).trans c1))⟩
  · exact .inl ⟨rfl, fun W hb => yields_bin rfl rfl rfl (eqGuard_str W) (neq_str_run W hy)⟩
  · exact .inl ⟨rfl, fun W hb => yields_pick (b := true) rfl rfl rfl⟩
  · exact .inl ⟨rfl, fun W hb => yields_move rfl rfl⟩
  · exact .inl ⟨rfl, fun W hb => yields_load rfl rfl (load_op_is ((hO).below hb (hO).lt) i)⟩
  · exact .inl ⟨rfl, fun W hb => yields_call (vs := [.agg O]) (v := .bool false) rfl rfl (enters_righttexts _ _) (okcall (righttexts_is i W lk.k lk.f lk.v) hx)⟩
  · exact .inl ⟨rfl, fun W hb => yields_pick (b := true) rfl rfl rfl⟩
  · exact .inl ⟨rfl, fun W hb => yields_move rfl rfl⟩
  · exact .inr ⟨rfl, rfl⟩
  · exact .inr ⟨rfl, rfl⟩
  · exact .inr ⟨rfl, rfl⟩
  · exact .inl ⟨rfl, fun W hb => yields_pick (b := false) rfl rfl rfl⟩
  · exact .inl ⟨rfl, fun W hb => yields_move rfl rfl⟩
  · exact .inr ⟨rfl, rfl⟩
  · exact .inr ⟨rfl, rfl⟩
  · exact .inr ⟨rfl, rfl⟩
  · exact .inr ⟨rfl, rfl⟩
  · exact .inl ⟨rfl, fun W hb => yields_pick (b := false) rfl rfl rfl⟩
  · exact .inl ⟨rfl, fun W hb => yields_assign rfl rfl⟩
  intro w2 hb2
  clear c0 c1 hO
  go_wp2
  go_ret
  exact ⟨rfl, HB.out.trans (hb2.mono HB.out.size)⟩
set_option maxHeartbeats 1000000 in
theorem rightop_D (e : Ev) (w : World) (lk : Room e) {O : Array Value} (i : Is O e) (hk : iskindE e.kind = true) (hy : decide (e.key ≠ []) = true) (hx : textsE e = true) (hn : numE e.num = false) : Calls Tryz.prog 100 #[.agg O] w fun e' w' => e' = .returned (.bool false) ∧ Below w.heap.size w w' := by
  obtain ⟨hO, hB⟩ := boxedI w i
  have HB : Hid (Below w.heap.size w (w.alloc (.cells O 27))) := hB
  clear hB
  have c0 := hO.c0
  have c1 := hO.c1
  have c4 := hO.c4
  go_enter Tryz.func100, Tryz.ntmps100
  go_wp2_with fail
  refine region_vals [3, 4, 5, 6, 7, 8, 9, 10, 11, 12, 13, 14, 15, 16, 17, 18, 19, 20, 21, 22, 23, 24, 25, 2] [.pointer (some ⟨w.heap.size, 0, none⟩), .int .i64 (e.kind), .bool true, .bool true, .pointer (some ⟨w.heap.size, 1, none⟩), .string (sb (e.key)), .bool true, .bool true, .bool true, .agg O, .bool true, .bool true, .bool true, .pointer (some ⟨w.heap.size, 4, none⟩), .int .i64 (e.num), .bool false, .bool false, .bool false, undef, undef, undef, undef, .bool false, .bool false] _ (by kernel_rfl) (by kernel_rfl) (by rfl) (by decide) (by kernel_rfl) (by simp only [lay, Act.put, List.setIfInBounds_toArray, List.set_cons_zero, List.set_cons_succ, List.getD_cons_zero, List.getD_cons_succ, Nat.reduceAdd]; rfl) ⟨?_, ?_, ?_, ?_, ?_, ?_, ?_, ?_, ?_, ?_, ?_, ?_, ?_, ?_, ?_, ?_, ?_, ?_, ?_, ?_, ?_, ?_, ?_, ?_, trivial⟩ ?_
  · exact .inl ⟨rfl, fun W hb => yields_field rfl rfl (fieldO0_run W _)⟩
  · exact .inl ⟨rfl, fun W hb => yields_load rfl rfl (load_int_run ((hb.cell (block_lt_of_cell c0)).trans c0))⟩
  · exact .inl ⟨rfl, fun W hb => yields_call (vs := [.int .i64 (e.kind)]) (v := .bool true) rfl rfl (enters_iskind _ _) (okcall (calls_below (iskind_any _ W)) hk)⟩
  · exact .inl ⟨rfl, fun W hb => yields_move rfl rfl⟩
  · exact .inl ⟨rfl, fun W hb => yields_field rfl rfl (fieldO1_run W _)⟩
  · exact .inl ⟨rfl, fun W hb => yields_load rfl rfl (load_str_run ((hb.cell (block_lt_of_cell c1)).trans c1))⟩
  · exact .inl ⟨rfl, fun W hb => yields_bin rfl rfl rfl (eqGuard_str W) (neq_str_run W hy)⟩
  · exact .inl ⟨rfl, fun W hb => yields_pick (b := true) rfl rfl rfl⟩
  · exact .inl ⟨rfl, fun W hb => yields_move rfl rfl⟩
  · exact .inl ⟨rfl, fun W hb => yields_load rfl rfl (load_op_is ((hO).below hb (hO).lt) i)⟩
  · exact .inl ⟨rfl, fun W hb => yields_call (vs := [.agg O]) (v := .bool true) rfl rfl (enters_righttexts _ _) (okcall (righttexts_is i W lk.k lk.f lk.v) hx)⟩
  · exact .inl ⟨rfl, fun W hb => yields_pick (b := true) rfl rfl rfl⟩
  · exact .inl ⟨rfl, fun W hb => yields_move rfl rfl⟩
  · exact .inl ⟨rfl, fun W hb => yields_field rfl rfl (fieldO4_run W _)⟩
  · exact .inl ⟨rfl, fun W hb => yields_load rfl rfl (load_int_run ((hb.cell (block_lt_of_cell c4)).trans c4))⟩
  · exact .inl ⟨rfl, fun W hb => yields_call (vs := [.int .i64 (e.num)]) (v := .bool false) rfl rfl (enters_rightnum _ _) (okcall (calls_below (rightnum_any _ W)) hn)⟩
  · exact .inl ⟨rfl, fun W hb => yields_pick (b := true) rfl rfl rfl⟩
  · exact .inl ⟨rfl, fun W hb => yields_move rfl rfl⟩
  · exact .inr ⟨rfl, rfl⟩
  · exact .inr ⟨rfl, rfl⟩
  · exact .inr ⟨rfl, rfl⟩
  · exact .inr ⟨rfl, rfl⟩
  · exact .inl ⟨rfl, fun W hb => yields_pick (b := false) rfl rfl rfl⟩
  · exact .inl ⟨rfl, fun W hb => yields_assign rfl rfl⟩
  intro w2 hb2
  clear c0 c1 c4 hO
  go_wp2
  go_ret
  exact ⟨rfl, HB.out.trans (hb2.mono HB.out.size)⟩
set_option maxHeartbeats 1000000 in
theorem rightop_E (e : Ev) (w : World) (lk : Room e) {O : Array Value} (i : Is O e) (hk : iskindE e.kind = true) (hy : decide (e.key ≠ []) = true) (hx : textsE e = true) (hn : numE e.num = true) : Calls Tryz.prog 100 #[.agg O] w fun e' w' => e' = .returned (.bool (sameO e (used e))) ∧ Below w.heap.size w w' := by
  obtain ⟨U, ju⟩ := is_any (used e)
  obtain ⟨hO, hB⟩ := boxedI w i
  have HB : Hid (Below w.heap.size w (w.alloc (.cells O 27))) := hB
  clear hB
  have c0 := hO.c0
  have c1 := hO.c1
  have c4 := hO.c4
  go_enter Tryz.func100, Tryz.ntmps100
  go_wp2_with fail
  refine region_vals [3, 4, 5, 6, 7, 8, 9, 10, 11, 12, 13, 14, 15, 16, 17, 18, 19, 20, 21, 22, 23, 24, 25, 2] [.pointer (some ⟨w.heap.size, 0, none⟩), .int .i64 (e.kind), .bool true, .bool true, .pointer (some ⟨w.heap.size, 1, none⟩), .string (sb (e.key)), .bool true, .bool true, .bool true, .agg O, .bool true, .bool true, .bool true, .pointer (some ⟨w.heap.size, 4, none⟩), .int .i64 (e.num), .bool true, .bool true, .bool true, .agg O, .agg O, .agg U, .bool (sameO e (used e)), .bool (sameO e (used e)), .bool (sameO e (used e))] _ (by kernel_rfl) (by kernel_rfl) (by rfl) (by decide) (by kernel_rfl) (by simp only [lay, Act.put, List.setIfInBounds_toArray, List.set_cons_zero, List.set_cons_succ, List.getD_cons_zero, List.getD_cons_succ, Nat.reduceAdd]; rfl) ⟨?_, ?_, ?_, ?_, ?_, ?_, ?_, ?_, ?_, ?_, ?_, ?_, ?_, ?_, ?_, ?_, ?_, ?_, ?_, ?_, ?_, ?_, ?_, ?_, trivial⟩ ?_
  · exact .inl ⟨rfl, fun W hb => yields_field rfl rfl (fieldO0_run W _)⟩
  · exact .inl ⟨rfl, fun W hb => yields_load rfl rfl (load_int_run ((hb.cell (block_lt_of_cell c0)).trans c0))⟩
  · exact .inl ⟨rfl, fun W hb => yields_call (vs := [.int .i64 (e.kind)]) (v := .bool true) rfl rfl (enters_iskind _ _) (okcall (calls_below (iskind_any _ W)) hk)⟩
  · exact .inl ⟨rfl, fun W hb => yields_move rfl rfl⟩
  · exact .inl ⟨rfl, fun W hb => yields_field rfl rfl (fieldO1_run W _)⟩
  · exact .inl ⟨rfl, fun W hb => yields_load rfl rfl (load_str_run ((hb.cell (block_lt_of_cell c1)).trans c1))⟩
  · exact .inl ⟨rfl, fun W hb => yields_bin rfl rfl rfl (eqGuard_str W) (neq_str_run W hy)⟩
  · exact .inl ⟨rfl, fun W hb => yields_pick (b := true) rfl rfl rfl⟩
  · exact .inl ⟨rfl, fun W hb => yields_move rfl rfl⟩
  · exact .inl ⟨rfl, fun W hb => yields_load rfl rfl (load_op_is ((hO).below hb (hO).lt) i)⟩
  · exact .inl ⟨rfl, fun W hb => yields_call (vs := [.agg O]) (v := .bool true) rfl rfl (enters_righttexts _ _) (okcall (righttexts_is i W lk.k lk.f lk.v) hx)⟩
  · exact .inl ⟨rfl, fun W hb => yields_pick (b := true) rfl rfl rfl⟩
  · exact .inl ⟨rfl, fun W hb => yields_move rfl rfl⟩
  · exact .inl ⟨rfl, fun W hb => yields_field rfl rfl (fieldO4_run W _)⟩
  · exact .inl ⟨rfl, fun W hb => yields_load rfl rfl (load_int_run ((hb.cell (block_lt_of_cell c4)).trans c4))⟩
  · exact .inl ⟨rfl, fun W hb => yields_call (vs := [.int .i64 (e.num)]) (v := .bool true) rfl rfl (enters_rightnum _ _) (okcall (calls_below (rightnum_any _ W)) hn)⟩
  · exact .inl ⟨rfl, fun W hb => yields_pick (b := true) rfl rfl rfl⟩
  · exact .inl ⟨rfl, fun W hb => yields_move rfl rfl⟩
  · exact .inl ⟨rfl, fun W hb => yields_load rfl rfl (load_op_is ((hO).below hb (hO).lt) i)⟩
  · exact .inl ⟨rfl, fun W hb => yields_load rfl rfl (load_op_is ((hO).below hb (hO).lt) i)⟩
  · exact .inl ⟨rfl, fun W hb => yields_call (vs := [.agg O]) (v := .agg U) rfl rfl (enters_onlyused _ _) (onlyused_is i ju W)⟩
  · exact .inl ⟨rfl, fun W hb => yields_bin rfl rfl rfl (run_eqGuard_agg W _ _ _ _ _ _ plain_op) (run_eql_is W i ju)⟩
  · exact .inl ⟨rfl, fun W hb => yields_pick (b := true) rfl rfl rfl⟩
  · exact .inl ⟨rfl, fun W hb => yields_assign rfl rfl⟩
  intro w2 hb2
  clear c0 c1 c4 hO
  go_wp2
  go_ret
  exact ⟨rfl, HB.out.trans (hb2.mono HB.out.size)⟩
theorem rightop_any (e : Ev) (w : World) (lk : Room e) : Calls Tryz.prog 100 #[.agg (opc e)] w fun e' w' => e' = .returned (.bool (opE e)) ∧ Below w.heap.size w w' := by
  rcases Bool.eq_false_or_eq_true (iskindE e.kind) with hk | hk
  · rcases Bool.eq_false_or_eq_true (decide (e.key ≠ [])) with hy | hy
    · rcases Bool.eq_false_or_eq_true (textsE e) with hx | hx
      · rcases Bool.eq_false_or_eq_true (numE e.num) with hn | hn
        · rw [opE, hk, hy, hx, hn]; exact rightop_E e w lk rfl hk hy hx hn
        · rw [opE, hk, hy, hx, hn]; exact rightop_D e w lk rfl hk hy hx hn
      · rw [opE, hk, hy, hx]; exact rightop_C e w lk rfl hk hy hx
    · rw [opE, hk, hy]; exact rightop_B e w rfl hk hy
  · rw [opE, hk]; exact rightop_A e w rfl hk
end Go.Proofs.YthlebgioamcioabGreat

/-
  What event.Right comes to; and Covers.
-/
namespace Go.Proofs.YthlebgioamcioabGreat
set_option maxRecDepth 100000
open Go.RowKit

def placeE (e : Ev) : Bool := decide (withE e.deps e.r e.n = 0)
def isrefE (e : Ev) : Bool := decide (e.rr = 0 ∧ e.rn = 0)
def refE (e : Ev) : Bool := if e.kind = 10 then hasv e.deps e.rr e.rn else if e.kind = 9 then isrefE e || hasv e.deps e.rr e.rn else true
/-- Can the event be? -/
def okev (e : Ev) : Bool := placeE e && (decide (0 ≤ e.t) && (decide (e.t ≤ 1152921504606846975) && (opE e && refE e)))
theorem run_isref (w : World) {e : Ev} {b : Bool} (h : isrefE e = b) : (Op.equalIn 10000 23 (.agg (dotc e.rr e.rn)) (.agg #[.int .i64 0, .int .i64 0])).run Tryz.prog w = .ok b w := by
  rw [← h]; exact run_equalIn_dot w 9998 e.rr e.rn 0 0
theorem boxedE (w : World) (e : Ev) : LiesE (w.alloc (.cells (evc e) 29)) w.heap.size e ∧ Below w.heap.size w (w.alloc (.cells (evc e) 29)) :=
  ⟨liesE_new w e, (Below.refl _ _).alloc (Nat.le_refl _) _⟩

set_option maxHeartbeats 400000 in
theorem rightplace_any (e : Ev) (hl : e.deps.length = 16) (w : World) : Calls Tryz.prog 99 #[.agg (evc e)] w fun e' w' => e' = .returned (.bool (placeE e)) ∧ Below w.heap.size w w' := by
  obtain ⟨hE, hB⟩ := boxedE w e
  have HB : Hid (Below w.heap.size w (w.alloc (.cells (evc e) 29))) := hB
  clear hB
  have hd := hE.deps hl
  have hr := hE.dot
  clear hE
  have hw : Hid _ := withV_length e.deps e.r e.n hl
  go_enter Tryz.func99, Tryz.ntmps99
  go_wp2_with (first | refine load_vec_at rfl rfl rfl hd hl ?_ | refine load_dot_at rfl rfl rfl hr ?_)
  refine (with_any e.deps e.r e.n hl _).mono ?_
  rintro e1 w1 ⟨rfl, hb1⟩
  have H1 : Hid (Below w.heap.size w w1) := HB.out.trans (hb1.mono HB.out.size)
  clear hd hr hb1 HB
  have hz := lies_new w1 zeros
  have HP : Hid (∀ b : Bool, b = (withE e.deps e.r e.n == 0) → b = placeE e) := fun b hb => by rw [hb, placeE, Bool.eq_iff_iff]; simp
  generalize withE e.deps e.r e.n = x at *
  generalize withV e.deps e.r e.n = v at *
  go_wp2_with (refine store_vec rfl rfl rfl rfl hz hw.out rfl ?_)
  go_ret
  refine ⟨congrArg (fun b => Ending.returned (.bool b)) (HP.out _ rfl), below_setRow (H1.out.alloc H1.out.size _) H1.out.size _⟩

set_option maxHeartbeats 400000 in
theorem rightref_any (e : Ev) (hl : e.deps.length = 16) (w : World) : Calls Tryz.prog 101 #[.agg (evc e)] w fun e' w' => e' = .returned (.bool (refE e)) ∧ Below w.heap.size w w' := by
  obtain ⟨hE, hB⟩ := boxedE w e
  have HB : Hid (Below w.heap.size w (w.alloc (.cells (evc e) 29))) := hB
  clear hB
  have hd := hE.deps hl
  have hr := hE.ref hl
  have c19 := hE.c19 hl
  clear hE
  unfold refE
  by_cases h10 : e.kind = 10
  · rw [if_pos h10]
    rw [h10] at c19
    clear h10
    go_enter Tryz.func101, Tryz.ntmps101
    go_wp2_with (first | refine load_vec_at rfl rfl rfl hd hl ?_ | refine load_dot_at rfl rfl rfl hr ?_)
    refine (has_any e.deps e.rr e.rn hl _).mono ?_
    rintro e1 w1 ⟨rfl, hb1⟩
    clear hd hr c19
    go_wp2
    go_ret
    exact ⟨rfl, HB.out.trans (hb1.mono HB.out.size)⟩
  · rw [if_neg h10]
    by_cases h9 : e.kind = 9
    · rw [if_pos h9]
      rw [h9] at c19
      clear h9 h10
      have hp := plain_dot
      rcases Bool.eq_false_or_eq_true (isrefE e) with hi | hi
      · rw [hi, Bool.true_or]
        have he := fun W : World => run_isref W hi
        clear hi
        go_enter Tryz.func101, Tryz.ntmps101
        go_wp2_with (first | refine load_vec_at rfl rfl rfl hd hl ?_ | refine load_dot_at rfl rfl rfl hr ?_)
        go_ret
        exact ⟨rfl, HB.out⟩
      · rw [hi, Bool.false_or]
        have he := fun W : World => run_isref W hi
        clear hi
        go_enter Tryz.func101, Tryz.ntmps101
        go_wp2_with (first | refine load_vec_at rfl rfl rfl hd hl ?_ | refine load_dot_at rfl rfl rfl hr ?_)
        refine (has_any e.deps e.rr e.rn hl _).mono ?_
        rintro e1 w1 ⟨rfl, hb1⟩
        clear hd hr c19
        go_wp2
        go_ret
        exact ⟨rfl, HB.out.trans (hb1.mono HB.out.size)⟩
    · rw [if_neg h9]
      have k10 : (e.kind == 10) = false := by simpa using h10
      have k9 : (e.kind == 9) = false := by simpa using h9
      go_enter Tryz.func101, Tryz.ntmps101
      go_wp2_with (first | refine load_vec_at rfl rfl rfl hd hl ?_ | refine load_dot_at rfl rfl rfl hr ?_)
      go_ret
      exact ⟨rfl, HB.out⟩

theorem okev_place {e : Ev} (h : placeE e = false) : okev e = false := by rw [okev, h]; rfl

set_option maxHeartbeats 1000000 in
theorem eright_any (e : Ev) (hl : e.deps.length = 16) (lk : Room e) (w : World) : Calls Tryz.prog 40 #[.agg (evc e)] w fun e' w' => e' = .returned (.bool (okev e)) ∧ Below w.heap.size w w' := by
  obtain ⟨hE, hB⟩ := boxedE w e
  have H0 : Hid (Below w.heap.size w (w.alloc (.cells (evc e) 29))) := hB
  clear hB
  rcases Bool.eq_false_or_eq_true (placeE e) with hp | hp
  · by_cases t0 : 0 ≤ e.t
    · by_cases t1 : e.t ≤ 1152921504606846975
      · rcases Bool.eq_false_or_eq_true (opE e) with ho | ho
        · rw [okev, hp, ho, decide_eq_true t0, decide_eq_true t1, Bool.true_and, Bool.true_and, Bool.true_and, Bool.true_and]
          have HP : Hid _ := hp
          have HO : Hid _ := ho
          clear hp ho
          go_enter Tryz.func40, Tryz.ntmps40
          go_wp2_with (refine load_ev rfl rfl rfl hE hl ?_)
          refine (rightplace_any e hl _).mono ?_
          rintro e1 w1 ⟨rfl, hb1⟩
          have hE1 := hE.below hb1 hE.lt
          have H1 : Hid (Below w.heap.size w w1) := H0.out.trans (hb1.mono H0.out.size)
          clear hE hb1 H0
          rw [HP.out]
          have c2 := hE1.c2
          have ho := hE1.op hl
          go_wp2_with (refine load_op_at rfl rfl rfl ho ?_)
          refine (rightop_any e _ lk).mono ?_
          rintro e2 w2 ⟨rfl, hb2⟩
          have hE2 := hE1.below hb2 hE1.lt
          have H2 : Hid (Below w.heap.size w w2) := H1.out.trans (hb2.mono H1.out.size)
          clear hE1 hb2 H1 c2 ho
          rw [HO.out]
          go_wp2_with (refine load_ev rfl rfl rfl hE2 hl ?_)
          refine (rightref_any e hl _).mono ?_
          rintro e3 w3 ⟨rfl, hb3⟩
          have H3 : Hid (Below w.heap.size w w3) := H2.out.trans (hb3.mono H2.out.size)
          clear hE2 hb3 H2
          go_wp2
          go_ret
          exact ⟨rfl, H3.out⟩
        · rw [okev, hp, ho, decide_eq_true t0, decide_eq_true t1]
          have HP : Hid _ := hp
          have HO : Hid _ := ho
          clear hp ho
          go_enter Tryz.func40, Tryz.ntmps40
          go_wp2_with (refine load_ev rfl rfl rfl hE hl ?_)
          refine (rightplace_any e hl _).mono ?_
          rintro e1 w1 ⟨rfl, hb1⟩
          have hE1 := hE.below hb1 hE.lt
          have H1 : Hid (Below w.heap.size w w1) := H0.out.trans (hb1.mono H0.out.size)
          clear hE hb1 H0
          rw [HP.out]
          have c2 := hE1.c2
          have ho := hE1.op hl
          go_wp2_with (refine load_op_at rfl rfl rfl ho ?_)
          refine (rightop_any e _ lk).mono ?_
          rintro e2 w2 ⟨rfl, hb2⟩
          have H2 : Hid (Below w.heap.size w w2) := H1.out.trans (hb2.mono H1.out.size)
          clear hE1 hb2 H1 c2 ho
          rw [HO.out]
          go_wp2
          go_ret
          exact ⟨rfl, H2.out⟩
      · rw [okev, hp, decide_eq_true t0, decide_eq_false t1]
        have HP : Hid _ := hp
        clear hp
        go_enter Tryz.func40, Tryz.ntmps40
        go_wp2_with (refine load_ev rfl rfl rfl hE hl ?_)
        refine (rightplace_any e hl _).mono ?_
        rintro e1 w1 ⟨rfl, hb1⟩
        have hE1 := hE.below hb1 hE.lt
        have H1 : Hid (Below w.heap.size w w1) := H0.out.trans (hb1.mono H0.out.size)
        clear hE hb1 H0
        rw [HP.out]
        have c2 := hE1.c2
        have ho := hE1.op hl
        go_wp2
        go_ret
        exact ⟨rfl, H1.out⟩
    · rw [okev, hp, decide_eq_false t0]
      have HP : Hid _ := hp
      clear hp
      go_enter Tryz.func40, Tryz.ntmps40
      go_wp2_with (refine load_ev rfl rfl rfl hE hl ?_)
      refine (rightplace_any e hl _).mono ?_
      rintro e1 w1 ⟨rfl, hb1⟩
      have hE1 := hE.below hb1 hE.lt
      have H1 : Hid (Below w.heap.size w w1) := H0.out.trans (hb1.mono H0.out.size)
      clear hE hb1 H0
      rw [HP.out]
      have c2 := hE1.c2
      go_wp2
      go_ret
      exact ⟨rfl, H1.out⟩
  · rw [okev_place hp]
    have HP : Hid _ := hp
    clear hp
    go_enter Tryz.func40, Tryz.ntmps40
    go_wp2_with (refine load_ev rfl rfl rfl hE hl ?_)
    refine (rightplace_any e hl _).mono ?_
    rintro e1 w1 ⟨rfl, hb1⟩
    have H1 : Hid (Below w.heap.size w w1) := H0.out.trans (hb1.mono H0.out.size)
    clear hE hb1 H0
    rw [HP.out]
    go_wp2
    go_ret
    exact ⟨rfl, H1.out⟩
end Go.Proofs.YthlebgioamcioabGreat

/-
  What Encode comes to: an event's bytes, if it can be.
-/
namespace Go.Proofs.YthlebgioamcioabGreat
set_option maxRecDepth 100000
open Go.RowKit

theorem okev_parts {e : Ev} (h : okev e = true) : placeE e = true ∧ 0 ≤ e.t ∧ e.t ≤ 1152921504606846975 ∧ iskindE e.kind = true ∧ e.key ≠ [] ∧ textsE e = true ∧ numE e.num = true ∧ sameO e (used e) = true ∧ refE e = true := by
  simp only [okev, opE, Bool.and_eq_true, decide_eq_true_eq] at h
  obtain ⟨h1, h2, h3, ⟨h4, h5, h6, h7, h8⟩, h9⟩ := h
  exact ⟨h1, h2, h3, h4, h5, h6, h7, h8, h9⟩
theorem place_parts {e : Ev} (h : placeE e = true) : fine e.deps = true ∧ okdot e.r e.n = true ∧ e.n = e.deps.getD e.r.toNat 0 + 1 := by
  have h' : withE e.deps e.r e.n = 0 := of_decide_eq_true h
  unfold withE at h'
  split at h'
  · rename_i hh
    rw [Bool.and_eq_true] at hh
    split at h'
    · rename_i h3
      exact ⟨hh.1, hh.2, h3⟩
    · omega
  · omega
theorem dot_nn {r n : Int} (h : okdot r n = true) : Nn r ∧ Nn n := by
  obtain ⟨h0, h1, h2, h3⟩ := of_decide_eq_true h
  exact ⟨⟨h0, by omega⟩, ⟨by omega, by omega⟩⟩
theorem has_nn {v : List Int} {r n : Int} (h : hasv v r n = true) : Nn r ∧ Nn n := by
  rw [hasv, Bool.and_eq_true] at h
  exact dot_nn h.1
theorem fine_nn {v : List Int} (h : fine v = true) : ∀ x ∈ v, Nn x := by
  intro x hx
  have := List.all_eq_true.1 h x hx
  have := of_decide_eq_true this
  exact ⟨this.1, by omega⟩

/-- AN EVENT THAT CAN BE FITS. -/
theorem okev_fits {e : Ev} (hl : e.deps.length = 16) (h : okev e = true) : Fits e := by
  obtain ⟨h1, h2, h3, h4, h5, h6, h7, h8, h9⟩ := okev_parts h
  obtain ⟨p1, p2, p3⟩ := place_parts h1
  obtain ⟨d1, d2⟩ := dot_nn p2
  obtain ⟨k1, k2⟩ := of_decide_eq_true h4
  obtain ⟨t1, t2, t3⟩ := of_decide_eq_true h6
  obtain ⟨n1, n2⟩ := of_decide_eq_true h7
  obtain ⟨-, -, s3, s4, s5, s6, s7⟩ := (sameO_iff e (used e)).1 h8
  have uf : usesF e.kind = false → e.field = [] := fun hu => by rw [s3]; show (if usesF e.kind = true then _ else _) = _; rw [hu]; rfl
  have uv : usesV e.kind = false → e.value = [] := fun hu => by rw [s4]; show (if usesV e.kind = true then _ else _) = _; rw [hu]; rfl
  have un : usesN e.kind = false → e.num = 0 := fun hu => by rw [s5]; show (if usesN e.kind = true then _ else _) = _; rw [hu]; rfl
  have ur : usesR e.kind = false → e.rr = 0 ∧ e.rn = 0 := fun hu => by
    constructor
    · rw [s6]; show (if usesR e.kind = true then _ else _) = _; rw [hu]; rfl
    · rw [s7]; show (if usesR e.kind = true then _ else _) = _; rw [hu]; rfl
  have rr : Nn e.rr ∧ Nn e.rn := by
    rcases Bool.eq_false_or_eq_true (usesR e.kind) with hu | hu
    · unfold refE at h9
      split at h9
      · exact has_nn h9
      · split at h9
        · rw [Bool.or_eq_true] at h9
          rcases h9 with h9 | h9
          · obtain ⟨z1, z2⟩ := of_decide_eq_true h9
            rw [z1, z2]
            unfold Nn
            omega
          · exact has_nn h9
        · have := of_decide_eq_true hu
          omega
    · obtain ⟨z1, z2⟩ := ur hu
      rw [z1, z2]
      unfold Nn
      omega
  exact ⟨d1, d2, ⟨h2, by omega⟩, hl, fine_nn p1, ⟨k1, k2⟩, t1, ⟨t2, uf⟩, ⟨t3, uv⟩, ⟨⟨by omega, by omega⟩, un⟩, ⟨rr.1, rr.2, ur⟩⟩

theorem evb_parts (e : Ev) : evb e = [] ++ nm e.r ++ nm e.n ++ nm e.t ++ ns e.deps ++ opb e := by
  simp only [evb, opb, List.append_assoc, List.nil_append]
theorem ns_succ (d : List Int) (k : Nat) (hk : k < d.length) : ns (d.take (k + 1)) = ns (d.take k) ++ nm (d.getD k 0) := by
  unfold ns
  rw [List.take_succ_eq_append_getElem hk, List.flatMap_append, List.flatMap_singleton]
  simp [List.getD, hk]
theorem ns_len : ∀ d : List Int, (ns d).length ≤ 10 * d.length
  | [] => by simp [ns]
  | x :: d => by
    have h1 := ns_len d
    have h2 := nm_le x
    have e : ns (x :: d) = nm x ++ ns d := by simp [ns]
    rw [e, List.length_append, List.length_cons]; omega

set_option maxHeartbeats 1000000 in
theorem encode_no (e : Ev) (hl : e.deps.length = 16) (lk : Room e) (h : okev e = false) (w : World) : Calls Tryz.prog 119 #[.agg (evc e)] w fun e' w' => e' = .returned (.tuple #[.slice none 0 0, .int .i64 1]) ∧ Below w.heap.size w w' := by
  obtain ⟨hE, hB⟩ := boxedE w e
  have H0 : Hid (Below w.heap.size w (w.alloc (.cells (evc e) 29))) := hB
  have HK : Hid _ := h
  clear hB h
  go_enter Tryz.func119, Tryz.ntmps119
  go_wp2_with (refine load_ev rfl rfl rfl hE hl ?_)
  refine (eright_any e hl lk _).mono ?_
  rintro e1 w1 ⟨rfl, hb1⟩
  have H1 : Hid (Below w.heap.size w w1) := H0.out.trans (hb1.mono H0.out.size)
  clear hE hb1 H0
  rw [HK.out]
  go_wp2
  go_ret2
  exact ⟨rfl, H1.out⟩

set_option maxHeartbeats 1000000 in
theorem encode_ok (e : Ev) (hl : e.deps.length = 16) (lk : Room e) (h : okev e = true) (w : World) : Calls Tryz.prog 119 #[.agg (evc e)] w fun e' w' =>
    ∃ g c, e' = .returned (.tuple #[.slice (some ⟨g, 0, none⟩) (evb e).length c, .int .i64 0]) ∧ Bytes w' (some ⟨g, 0, none⟩) (evb e).length c (evb e) ∧ c ≤ maxLen ∧ Below w.heap.size w w' := by
  obtain ⟨hE, hB⟩ := boxedE w e
  have H0 : Hid (Below w.heap.size w (w.alloc (.cells (evc e) 29))) := hB
  have HK : Hid _ := h
  have hf := okev_fits hl h
  obtain ⟨q2, Q2⟩ : ∃ q, Hid ([] ++ nm e.r ++ nm e.n = q) := ⟨[] ++ nm e.r ++ nm e.n, rfl⟩
  obtain ⟨q3, Q3⟩ : ∃ q, Hid (q2 ++ nm e.t = q) := ⟨_, rfl⟩
  obtain ⟨q5, Q5⟩ : ∃ q, Hid (q3 ++ ns e.deps ++ opb e = q) := ⟨_, rfl⟩
  have Q6 : Hid (evb e = q5) := by
    show _ = _
    rw [evb_parts, ← Q5.out, ← Q3.out, ← Q2.out]
  have L2 : q2.length ≤ 20 := by
    have := nm_le e.r
    have := nm_le e.n
    rw [← Q2.out, List.length_append, List.length_append, List.length_nil]; omega
  have L3 : q3.length ≤ 30 := by
    have := nm_le e.t
    rw [← Q3.out, List.length_append]; omega
  have K2 : Hid (∀ W, Calls Tryz.prog 182 #[.slice none 0 0, .agg (dotc e.r e.n)] W fun e' w' => Out W w' e' q2) := fun W => by
    rw [← Q2.out]; exact putdot_any none 0 [] e.r e.n W (Bytes.nil W) (by simp) hf.r hf.n
  have K3 : Hid (∀ W ao c, Bytes W ao q2.length c q2 → Calls Tryz.prog 183 #[.slice ao q2.length c, .int .i64 e.t] W fun e' w' => Out W w' e' q3) := fun W ao c h => by
    rw [← Q3.out]; exact putnumber_any ao c q2 e.t W h (by omega) hf.t
  have LN : Hid (∀ k, k ≤ 16 → (q3 ++ ns (e.deps.take k)).length ≤ 190) := fun k hk => by
    have := ns_len (e.deps.take k)
    rw [List.length_take] at this
    rw [List.length_append]; omega
  have K4 : Hid (∀ k, k < 16 → ∀ W ao c, Bytes W ao (q3 ++ ns (e.deps.take k)).length c (q3 ++ ns (e.deps.take k)) → Calls Tryz.prog 183 #[.slice ao (q3 ++ ns (e.deps.take k)).length c, .int .i64 (e.deps.getD k 0)] W fun e' w' => Out W w' e' (q3 ++ ns (e.deps.take (k + 1)))) := fun k hk W ao c h => by
    have hkl : k < e.deps.length := by omega
    rw [ns_succ _ _ hkl, ← List.append_assoc]
    refine putnumber_any ao c _ _ W h (Nat.le_trans (LN.out k (by omega)) (by omega)) (hf.deps _ ?_)
    simp [List.getD, hkl]
  have K5 : Hid (∀ W ao c, Bytes W ao (q3 ++ ns (e.deps.take 16)).length c (q3 ++ ns (e.deps.take 16)) → Calls Tryz.prog 184 #[.slice ao (q3 ++ ns (e.deps.take 16)).length c, .agg (opc e)] W fun e' w' => Out W w' e' q5) := fun W ao c h => by
    have h16 := LN.out 16 (Nat.le_refl _)
    have et : e.deps.take 16 = e.deps := List.take_of_length_le (by omega)
    rw [et] at h h16 ⊢
    rw [← Q5.out]
    exact putop_any ao c _ e W h (by omega) hf
  have Z0 : Hid (q3 = q3 ++ ns (e.deps.take 0)) := by show _ = _; simp [ns]
  rw [Q6.out]
  clear hB h hf L2 L3 LN Q2 Q3 Q5 Q6
  go_enter Tryz.func119, Tryz.ntmps119
  go_wp2_with (refine load_ev rfl rfl rfl hE hl ?_)
  refine (eright_any e hl lk _).mono ?_
  rintro e1 w1 ⟨rfl, hb1⟩
  have hE1 := hE.below hb1 hE.lt
  have H1 : Hid (Below w.heap.size w w1) := H0.out.trans (hb1.mono H0.out.size)
  clear hE hb1 H0
  rw [HK.out]
  have hd := hE1.dot
  go_wp2_with (refine load_dot_at rfl rfl rfl hd ?_)
  refine Calls.mono (K2.out _) ?_
  rintro e2 w2 ⟨g2, c2, rfl, b2, m2, hb2⟩
  have hE2 := hE1.below hb2 hE1.lt
  have H2 : Hid (Below w.heap.size w w2) := H1.out.trans (hb2.mono H1.out.size)
  have Y2 : Hid _ := b2
  clear hE1 hd hb2 H1 b2 m2
  have ct := hE2.c2
  go_wp2_with fail
  refine Calls.mono (K3.out _ _ _ Y2.out) ?_
  rintro e3 w3 ⟨g3, c3, rfl, b3, m3, hb3⟩
  have hE3 := hE2.below hb3 hE2.lt
  have H3 : Hid (Below w.heap.size w w3) := H2.out.trans (hb3.mono H2.out.size)
  have Y3 : Hid _ := b3
  have M3 : Hid _ := m3
  clear hE2 ct hb3 H2 b3 m3 Y2
  have hd := hE3.deps hl
  go_wp2_with (refine load_vec_at rfl rfl rfl hd hl ?_)
  go_loopw [4, 19] (fun s i wr => ∃ (k g c : Nat), k ≤ 16 ∧ i = .int .i64 (k : Int) ∧ s = .slice (some ⟨g, 0, none⟩) (q3 ++ ns (e.deps.take k)).length c ∧ Bytes wr (some ⟨g, 0, none⟩) (q3 ++ ns (e.deps.take k)).length c (q3 ++ ns (e.deps.take k)) ∧ c ≤ maxLen ∧ LiesE wr w.heap.size e ∧ Below w.heap.size w wr) (fun _ i _ => 16 - (intOf i).toNat)
  case atStart =>
    refine ⟨0, g3, c3, by omega, rfl, ?_, ?_, M3.out, hE3, H3.out⟩
    · rw [← Z0.out]
    · rw [← Z0.out]; exact Y3.out
  case round =>
    obtain ⟨k, g, c, hk, rfl, rfl, hY, hM, hE, hB⟩ := hrel
    have HB : Hid (Below w.heap.size w wr) := hB
    have HE : Hid (LiesE wr w.heap.size e) := hE
    have HM : Hid _ := hM
    have ho := hE.op hl
    clear hE3 H3 Y3 M3 hd hB hE hM
    by_cases h : k < 16
    · have KK : Hid _ := K4.out k h wr _ c hY
      have hi := run_index_vec wr e.deps k hl h
      clear hY
      generalize q3 ++ ns (e.deps.take k) = p at *
      generalize e.deps.getD k 0 = x at *
      go_wp2_with fail
      refine Calls.mono KK.out ?_
      rintro e4 w4 ⟨g4, c4, rfl, b4, m4, hb4⟩
      have hE4 : Hid (LiesE w4 w.heap.size e) := HE.out.below hb4 HE.out.lt
      have H4 : Hid (Below w.heap.size w w4) := HB.out.trans (hb4.mono HB.out.size)
      have Y4 : Hid _ := b4
      have M4 : Hid _ := m4
      clear b4 m4 hb4 HE HB hi ho
      go_wp2
      go_roundw
      case rel => exact ⟨k + 1, g4, c4, by omega, by go_num, by rw [List.length_append], Y4.out, M4.out, hE4.out, H4.out⟩
      case measure => simp [intOf]; omega
    · obtain rfl : k = 16 := by omega
      have KK : Hid _ := K5.out wr _ c hY
      clear hY
      generalize q3 ++ ns (e.deps.take 16) = p at *
      go_wp2_with (refine load_op_at rfl rfl rfl ho ?_)
      refine Calls.mono KK.out ?_
      rintro e4 w4 ⟨g4, c4, rfl, b4, m4, hb4⟩
      have H4 : Hid (Below w.heap.size w w4) := HB.out.trans (hb4.mono HB.out.size)
      have Y4 : Hid _ := b4
      have M4 : Hid _ := m4
      clear b4 m4 hb4 HE HB ho
      go_wp2
      go_ret2
      exact ⟨g4, c4, rfl, Y4.out, M4.out, H4.out⟩
end Go.Proofs.YthlebgioamcioabGreat

