/-
  What rightOp comes to.
-/
import Derived.Test.YtmlfekbmbnfkjabGreatDoorQ12
import Derived.Test.YtmlfekbmbnfkjabGreatDoorQ08
import Derived.Test.YtmlfekbmbnfkjabGreatDoorQ51
import Derived.Test.YtmlfekbmbnfkjabGreatDoorQ06
import Derived.Test.YtmlfekbmbnfkjabGreatDoorQ05
namespace Go.Proofs.YtmlfekbmbnfkjabGreatDoor
set_option maxRecDepth 100000
open Go.RowKit

theorem calls_below {f : FuncId} {as' : Array Value} {W : World} {b : Bool} (h : Calls Tryz.prog f as' W fun e w' => e = .returned (.bool b) ∧ w' = W) : Calls Tryz.prog f as' W fun e w' => e = .returned (.bool b) ∧ Below W.heap.size W w' :=
  h.mono fun _ _ ⟨h1, h2⟩ => ⟨h1, by rw [h2]; exact Below.refl _ _⟩
theorem fieldO0_run (w : World) (g : Nat) : (Instr.fieldAt 34 (.pointer (some ⟨g, 0, none⟩)) 0).run Tryz.prog w = .ok (.pointer (some ⟨g, 0, none⟩)) w := by kernel_rfl
theorem fieldO1_run (w : World) (g : Nat) : (Instr.fieldAt 34 (.pointer (some ⟨g, 0, none⟩)) 1).run Tryz.prog w = .ok (.pointer (some ⟨g, 1, none⟩)) w := by kernel_rfl
theorem fieldO4_run (w : World) (g : Nat) : (Instr.fieldAt 34 (.pointer (some ⟨g, 0, none⟩)) 4).run Tryz.prog w = .ok (.pointer (some ⟨g, 4, none⟩)) w := by kernel_rfl
theorem load_op_run {w : World} {g : Nat} {e : Ev} (h : LiesO w g e) : (loadVar 34 ⟨g, 0, none⟩).run Tryz.prog w = .ok (.agg (opc e)) w :=
  run_loadVar_row w g 34 34 _ (0, 0) _ h Tryz.underlying34 rfl (size7 e)
/-- The same, its cells a letter. -/
def Is (O : Array Value) (e : Ev) : Prop := O = opc e
theorem is_any (e : Ev) : ∃ O, Is O e := ⟨_, rfl⟩
theorem load_op_is {w : World} {g : Nat} {e : Ev} {O : Array Value} (h : LiesO w g e) (i : Is O e) : (loadVar 34 ⟨g, 0, none⟩).run Tryz.prog w = .ok (.agg O) w := by
  rw [i]; exact load_op_run h
theorem righttexts_is {e : Ev} {O : Array Value} (i : Is O e) (w : World) (hk : e.key.length ≤ 9223372036854775807) (hf : e.field.length ≤ 9223372036854775807) (hv : e.value.length ≤ 9223372036854775807) :
    Calls Tryz.prog 47 #[.agg O] w fun e' w' => e' = .returned (.bool (textsE e)) ∧ Below w.heap.size w w' := by
  rw [i]; exact righttexts_any e w hk hf hv
theorem onlyused_is {e : Ev} {O U : Array Value} (i : Is O e) (j : Is U (used e)) (w : World) : Calls Tryz.prog 49 #[.agg O] w fun e' w' => e' = .returned (.agg U) ∧ Below w.heap.size w w' := by
  rw [i, j]; exact onlyused_any e w
theorem run_eql_is (w : World) {e f : Ev} {O U : Array Value} (i : Is O e) (j : Is U f) : (binOp .eql 34 (.agg O) (.agg U)).run Tryz.prog w = .ok (.bool (sameO e f)) w := by
  rw [i, j]; exact run_eql_op w e f
theorem boxedI (w : World) {e : Ev} {O : Array Value} (i : Is O e) : LiesO (w.alloc (.cells O 34)) w.heap.size e ∧ Below w.heap.size w (w.alloc (.cells O 34)) := by
  rw [i]; exact boxedO w e
theorem eqGuard_str (w : World) {op : BinOp} {x y : Operand} {a b : ByteArray} : (eqGuard op 9 x y (.string a) (.string b)).run Tryz.prog w = .ok () w := by
  cases op <;> simp [eqGuard]
theorem neq_str_run (w : World) {s : List UInt8} {b : Bool} (h : decide (s ≠ []) = b) : (binOp .neq 9 (.string (sb s)) (.string ⟨#[]⟩)).run Tryz.prog w = .ok (.bool b) w := by
  subst h
  show (binOp .neq 9 (.string (sb s)) (.string (sb []))).run Tryz.prog w = _
  have h : ((sb s).toList == (sb []).toList) = decide (s = []) := by
    rw [ByteArray.toList_eq, ByteArray.toList_eq, data_sb, data_sb, Bool.eq_iff_iff]
    simp
  simp [binOp, Op.stringOp, h]
theorem enters_iskind (xs : Array Value) (w : World) : (callFunc 46 xs).run Tryz.prog w = .ok (.enter 46 xs) w := enters Tryz.func46 (by kernel_rfl) (by kernel_rfl) xs w
theorem enters_righttexts (xs : Array Value) (w : World) : (callFunc 47 xs).run Tryz.prog w = .ok (.enter 47 xs) w := enters Tryz.func47 (by kernel_rfl) (by kernel_rfl) xs w
theorem enters_rightnum (xs : Array Value) (w : World) : (callFunc 48 xs).run Tryz.prog w = .ok (.enter 48 xs) w := enters Tryz.func48 (by kernel_rfl) (by kernel_rfl) xs w
theorem enters_onlyused (xs : Array Value) (w : World) : (callFunc 49 xs).run Tryz.prog w = .ok (.enter 49 xs) w := enters Tryz.func49 (by kernel_rfl) (by kernel_rfl) xs w

/-- Can the operation be? -/
def opE (e : Ev) : Bool := iskindE e.kind && (decide (e.key ≠ []) && (textsE e && (numE e.num && sameO e (used e))))

set_option maxHeartbeats 1000000 in
theorem rightop_A (e : Ev) (w : World) {O : Array Value} (i : Is O e) (hk : iskindE e.kind = false) : Calls Tryz.prog 30 #[.agg O] w fun e' w' => e' = .returned (.bool false) ∧ Below w.heap.size w w' := by
  obtain ⟨hO, hB⟩ := boxedI w i
  have HB : Hid (Below w.heap.size w (w.alloc (.cells O 34))) := hB
  clear hB
  have c0 := hO.c0
  go_enter Tryz.func30, Tryz.ntmps30
  go_wp2_with fail
  refine region_vals [3, 4, 5, 6, 7, 8, 9, 10, 11, 12, 13, 14, 15, 16, 17, 18, 19, 20, 21, 22, 23, 24, 25, 2] [.pointer (some ⟨w.heap.size, 0, none⟩), .int .i64 (e.kind), .bool false, .bool false, undef, undef, undef, .bool false, .bool false, undef, undef, .bool false, .bool false, undef, undef, undef, .bool false, .bool false, undef, undef, undef, undef, .bool false, .bool false] _ (by kernel_rfl) (by kernel_rfl) (by rfl) (by decide) (by kernel_rfl) (by simp only [lay, Act.put, List.setIfInBounds_toArray, List.set_cons_zero, List.set_cons_succ, List.getD_cons_zero, List.getD_cons_succ, Nat.reduceAdd]; rfl) ⟨?_, ?_, ?_, ?_, ?_, ?_, ?_, ?_, ?_, ?_, ?_, ?_, ?_, ?_, ?_, ?_, ?_, ?_, ?_, ?_, ?_, ?_, ?_, ?_, trivial⟩ ?_
  · exact .inl ⟨rfl, fun W hb => yields_field rfl rfl (fieldO0_run W _)⟩
  · exact .inl ⟨rfl, fun W hb => yields_load rfl rfl (load_int_run ((hb.cell (block_lt_of_cell c0)).trans c0))⟩
  · exact .inl ⟨rfl, fun W hb => yields_call (vs := [.int .i64 (e.kind)]) (v := .bool false) rfl rfl (enters_iskind _ _) (okcall (calls_below (iskind_any _ W)) hk)⟩
  · exact .inl ⟨rfl, fun W hb => yields_move rfl rfl⟩
  · exact .inr ⟨rfl, rfl⟩
  · exact .inr ⟨rfl, rfl⟩
  · exact .inr ⟨rfl, rfl⟩
  · exact .inl ⟨rfl, fun W hb => yields_pick (b := false) rfl rfl rfl⟩
  · exact .inl ⟨rfl, fun W hb => yields_move rfl rfl⟩
  · exact .inr ⟨rfl, rfl⟩
  · exact .inr ⟨rfl, rfl⟩
  · exact .inl ⟨rfl, fun W hb => yields_pick (b := false) rfl rfl rfl⟩
  · exact .inl ⟨rfl, fun W hb => yields_move rfl rfl⟩
  · exact .inr ⟨rfl, rfl⟩
  · exact .inr ⟨rfl, rfl⟩
  · exact .inr ⟨rfl, rfl⟩
  · exact .inl ⟨rfl, fun W hb => yields_pick (b := false) rfl rfl rfl⟩
  · exact .inl ⟨rfl, fun W hb => yields_move rfl rfl⟩
  · exact .inr ⟨rfl, rfl⟩
  · exact .inr ⟨rfl, rfl⟩
  · exact .inr ⟨rfl, rfl⟩
  · exact .inr ⟨rfl, rfl⟩
  · exact .inl ⟨rfl, fun W hb => yields_pick (b := false) rfl rfl rfl⟩
  · exact .inl ⟨rfl, fun W hb => yields_assign rfl rfl⟩
  intro w2 hb2
  clear c0 hO
  go_wp2
  go_ret
  exact ⟨rfl, HB.out.trans (hb2.mono HB.out.size)⟩
set_option maxHeartbeats 1000000 in
theorem rightop_B (e : Ev) (w : World) {O : Array Value} (i : Is O e) (hk : iskindE e.kind = true) (hy : decide (e.key ≠ []) = false) : Calls Tryz.prog 30 #[.agg O] w fun e' w' => e' = .returned (.bool false) ∧ Below w.heap.size w w' := by
  obtain ⟨hO, hB⟩ := boxedI w i
  have HB : Hid (Below w.heap.size w (w.alloc (.cells O 34))) := hB
  clear hB
  have c0 := hO.c0
  have c1 := hO.c1
  go_enter Tryz.func30, Tryz.ntmps30
  go_wp2_with fail
  refine region_vals [3, 4, 5, 6, 7, 8, 9, 10, 11, 12, 13, 14, 15, 16, 17, 18, 19, 20, 21, 22, 23, 24, 25, 2] [.pointer (some ⟨w.heap.size, 0, none⟩), .int .i64 (e.kind), .bool true, .bool true, .pointer (some ⟨w.heap.size, 1, none⟩), .string (sb (e.key)), .bool false, .bool false, .bool false, undef, undef, .bool false, .bool false, undef, undef, undef, .bool false, .bool false, undef, undef, undef, undef, .bool false, .bool false] _ (by kernel_rfl) (by kernel_rfl) (by rfl) (by decide) (by kernel_rfl) (by simp only [lay, Act.put, List.setIfInBounds_toArray, List.set_cons_zero, List.set_cons_succ, List.getD_cons_zero, List.getD_cons_succ, Nat.reduceAdd]; rfl) ⟨?_, ?_, ?_, ?_, ?_, ?_, ?_, ?_, ?_, ?_, ?_, ?_, ?_, ?_, ?_, ?_, ?_, ?_, ?_, ?_, ?_, ?_, ?_, ?_, trivial⟩ ?_
  · exact .inl ⟨rfl, fun W hb => yields_field rfl rfl (fieldO0_run W _)⟩
  · exact .inl ⟨rfl, fun W hb => yields_load rfl rfl (load_int_run ((hb.cell (block_lt_of_cell c0)).trans c0))⟩
  · exact .inl ⟨rfl, fun W hb => yields_call (vs := [.int .i64 (e.kind)]) (v := .bool true) rfl rfl (enters_iskind _ _) (okcall (calls_below (iskind_any _ W)) hk)⟩
  · exact .inl ⟨rfl, fun W hb => yields_move rfl rfl⟩
  · exact .inl ⟨rfl, fun W hb => yields_field rfl rfl (fieldO1_run W _)⟩
  · exact .inl ⟨rfl, fun W hb => yields_load rfl rfl (load_str_run ((hb.cell (block_lt_of_cell c1)).trans c1))⟩
  · exact .inl ⟨rfl, fun W hb => yields_bin rfl rfl rfl (eqGuard_str W) (neq_str_run W hy)⟩
  · exact .inl ⟨rfl, fun W hb => yields_pick (b := true) rfl rfl rfl⟩
  · exact .inl ⟨rfl, fun W hb => yields_move rfl rfl⟩
  · exact .inr ⟨rfl, rfl⟩
  · exact .inr ⟨rfl, rfl⟩
  · exact .inl ⟨rfl, fun W hb => yields_pick (b := false) rfl rfl rfl⟩
  · exact .inl ⟨rfl, fun W hb => yields_move rfl rfl⟩
  · exact .inr ⟨rfl, rfl⟩
  · exact .inr ⟨rfl, rfl⟩
  · exact .inr ⟨rfl, rfl⟩
  · exact .inl ⟨rfl, fun W hb => yields_pick (b := false) rfl rfl rfl⟩
  · exact .inl ⟨rfl, fun W hb => yields_move rfl rfl⟩
  · exact .inr ⟨rfl, rfl⟩
  · exact .inr ⟨rfl, rfl⟩
  · exact .inr ⟨rfl, rfl⟩
  · exact .inr ⟨rfl, rfl⟩
  · exact .inl ⟨rfl, fun W hb => yields_pick (b := false) rfl rfl rfl⟩
  · exact .inl ⟨rfl, fun W hb => yields_assign rfl rfl⟩
  intro w2 hb2
  clear c0 c1 hO
  go_wp2
  go_ret
  exact ⟨rfl, HB.out.trans (hb2.mono HB.out.size)⟩
set_option maxHeartbeats 1000000 in
theorem rightop_C (e : Ev) (w : World) (lk : Room e) {O : Array Value} (i : Is O e) (hk : iskindE e.kind = true) (hy : decide (e.key ≠ []) = true) (hx : textsE e = false) : Calls Tryz.prog 30 #[.agg O] w fun e' w' => e' = .returned (.bool false) ∧ Below w.heap.size w w' := by
  obtain ⟨hO, hB⟩ := boxedI w i
  have HB : Hid (Below w.heap.size w (w.alloc (.cells O 34))) := hB
  clear hB
  have c0 := hO.c0
  have c1 := hO.c1
  go_enter Tryz.func30, Tryz.ntmps30
  go_wp2_with fail
  refine region_vals [3, 4, 5, 6, 7, 8, 9, 10, 11, 12, 13, 14, 15, 16, 17, 18, 19, 20, 21, 22, 23, 24, 25, 2] [.pointer (some ⟨w.heap.size, 0, none⟩), .int .i64 (e.kind), .bool true, .bool true, .pointer (some ⟨w.heap.size, 1, none⟩), .string (sb (e.key)), .bool true, .bool true, .bool true, .agg O, .bool false, .bool false, .bool false, undef, undef, undef, .bool false, .bool false, undef, undef, undef, undef, .bool false, .bool false] _ (by kernel_rfl) (by kernel_rfl) (by rfl) (by decide) (by kernel_rfl) (by simp only [lay, Act.put, List.setIfInBounds_toArray, List.set_cons_zero, List.set_cons_succ, List.getD_cons_zero, List.getD_cons_succ, Nat.reduceAdd]; rfl) ⟨?_, ?_, ?_, ?_, ?_, ?_, ?_, ?_, ?_, ?_, ?_, ?_, ?_, ?_, ?_, ?_, ?_, ?_, ?_, ?_, ?_, ?_, ?_, ?_, trivial⟩ ?_
  · exact .inl ⟨rfl, fun W hb => yields_field rfl rfl (fieldO0_run W _)⟩
  · exact .inl ⟨rfl, fun W hb => yields_load rfl rfl (load_int_run ((hb.cell (block_lt_of_cell c0)).trans c0))⟩
  · exact .inl ⟨rfl, fun W hb => yields_call (vs := [.int .i64 (e.kind)]) (v := .bool true) rfl rfl (enters_iskind _ _) (okcall (calls_below (iskind_any _ W)) hk)⟩
  · exact .inl ⟨rfl, fun W hb => yields_move rfl rfl⟩
  · exact .inl ⟨rfl, fun W hb => yields_field rfl rfl (fieldO1_run W _)⟩
  · exact .inl ⟨rfl, fun W hb => yields_load rfl rfl (load_str_run ((hb.cell (block_lt_of_cell c1)).trans c1))⟩
  · exact .inl ⟨rfl, fun W hb => yields_bin rfl rfl rfl (eqGuard_str W) (neq_str_run W hy)⟩
  · exact .inl ⟨rfl, fun W hb => yields_pick (b := true) rfl rfl rfl⟩
  · exact .inl ⟨rfl, fun W hb => yields_move rfl rfl⟩
  · exact .inl ⟨rfl, fun W hb => yields_load rfl rfl (load_op_is ((hO).below hb (hO).lt) i)⟩
  · exact .inl ⟨rfl, fun W hb => yields_call (vs := [.agg O]) (v := .bool false) rfl rfl (enters_righttexts _ _) (okcall (righttexts_is i W lk.k lk.f lk.v) hx)⟩
  · exact .inl ⟨rfl, fun W hb => yields_pick (b := true) rfl rfl rfl⟩
  · exact .inl ⟨rfl, fun W hb => yields_move rfl rfl⟩
  · exact .inr ⟨rfl, rfl⟩
  · exact .inr ⟨rfl, rfl⟩
  · exact .inr ⟨rfl, rfl⟩
  · exact .inl ⟨rfl, fun W hb => yields_pick (b := false) rfl rfl rfl⟩
  · exact .inl ⟨rfl, fun W hb => yields_move rfl rfl⟩
  · exact .inr ⟨rfl, rfl⟩
  · exact .inr ⟨rfl, rfl⟩
  · exact .inr ⟨rfl, rfl⟩
  · exact .inr ⟨rfl, rfl⟩
  · exact .inl ⟨rfl, fun W hb => yields_pick (b := false) rfl rfl rfl⟩
  · exact .inl ⟨rfl, fun W hb => yields_assign rfl rfl⟩
  intro w2 hb2
  clear c0 c1 hO
  go_wp2
  go_ret
  exact ⟨rfl, HB.out.trans (hb2.mono HB.out.size)⟩
set_option maxHeartbeats 1000000 in
theorem rightop_D (e : Ev) (w : World) (lk : Room e) {O : Array Value} (i : Is O e) (hk : iskindE e.kind = true) (hy : decide (e.key ≠ []) = true) (hx : textsE e = true) (hn : numE e.num = false) : Calls Tryz.prog 30 #[.agg O] w fun e' w' => e' = .returned (.bool false) ∧ Below w.heap.size w w' := by
  obtain ⟨hO, hB⟩ := boxedI w i
  have HB : Hid (Below w.heap.size w (w.alloc (.cells O 34))) := hB
  clear hB
  have c0 := hO.c0
  have c1 := hO.c1
  have c4 := hO.c4
  go_enter Tryz.func30, Tryz.ntmps30
  go_wp2_with fail
  refine region_vals [3, 4, 5, 6, 7, 8, 9, 10, 11, 12, 13, 14, 15, 16, 17, 18, 19, 20, 21, 22, 23, 24, 25, 2] [.pointer (some ⟨w.heap.size, 0, none⟩), .int .i64 (e.kind), .bool true, .bool true, .pointer (some ⟨w.heap.size, 1, none⟩), .string (sb (e.key)), .bool true, .bool true, .bool true, .agg O, .bool true, .bool true, .bool true, .pointer (some ⟨w.heap.size, 4, none⟩), .int .i64 (e.num), .bool false, .bool false, .bool false, undef, undef, undef, undef, .bool false, .bool false] _ (by kernel_rfl) (by kernel_rfl) (by rfl) (by decide) (by kernel_rfl) (by simp only [lay, Act.put, List.setIfInBounds_toArray, List.set_cons_zero, List.set_cons_succ, List.getD_cons_zero, List.getD_cons_succ, Nat.reduceAdd]; rfl) ⟨?_, ?_, ?_, ?_, ?_, ?_, ?_, ?_, ?_, ?_, ?_, ?_, ?_, ?_, ?_, ?_, ?_, ?_, ?_, ?_, ?_, ?_, ?_, ?_, trivial⟩ ?_
  · exact .inl ⟨rfl, fun W hb => yields_field rfl rfl (fieldO0_run W _)⟩
  · exact .inl ⟨rfl, fun W hb => yields_load rfl rfl (load_int_run ((hb.cell (block_lt_of_cell c0)).trans c0))⟩
  · exact .inl ⟨rfl, fun W hb => yields_call (vs := [.int .i64 (e.kind)]) (v := .bool true) rfl rfl (enters_iskind _ _) (okcall (calls_below (iskind_any _ W)) hk)⟩
  · exact .inl ⟨rfl, fun W hb => yields_move rfl rfl⟩
  · exact .inl ⟨rfl, fun W hb => yields_field rfl rfl (fieldO1_run W _)⟩
  · exact .inl ⟨rfl, fun W hb => yields_load rfl rfl (load_str_run ((hb.cell (block_lt_of_cell c1)).trans c1))⟩
  · exact .inl ⟨rfl, fun W hb => yields_bin rfl rfl rfl (eqGuard_str W) (neq_str_run W hy)⟩
  · exact .inl ⟨rfl, fun W hb => yields_pick (b := true) rfl rfl rfl⟩
  · exact .inl ⟨rfl, fun W hb => yields_move rfl rfl⟩
  · exact .inl ⟨rfl, fun W hb => yields_load rfl rfl (load_op_is ((hO).below hb (hO).lt) i)⟩
  · exact .inl ⟨rfl, fun W hb => yields_call (vs := [.agg O]) (v := .bool true) rfl rfl (enters_righttexts _ _) (okcall (righttexts_is i W lk.k lk.f lk.v) hx)⟩
  · exact .inl ⟨rfl, fun W hb => yields_pick (b := true) rfl rfl rfl⟩
  · exact .inl ⟨rfl, fun W hb => yields_move rfl rfl⟩
  · exact .inl ⟨rfl, fun W hb => yields_field rfl rfl (fieldO4_run W _)⟩
  · exact .inl ⟨rfl, fun W hb => yields_load rfl rfl (load_int_run ((hb.cell (block_lt_of_cell c4)).trans c4))⟩
  · exact .inl ⟨rfl, fun W hb => yields_call (vs := [.int .i64 (e.num)]) (v := .bool false) rfl rfl (enters_rightnum _ _) (okcall (calls_below (rightnum_any _ W)) hn)⟩
  · exact .inl ⟨rfl, fun W hb => yields_pick (b := true) rfl rfl rfl⟩
  · exact .inl ⟨rfl, fun W hb => yields_move rfl rfl⟩
  · exact .inr ⟨rfl, rfl⟩
  · exact .inr ⟨rfl, rfl⟩
  · exact .inr ⟨rfl, rfl⟩
  · exact .inr ⟨rfl, rfl⟩
  · exact .inl ⟨rfl, fun W hb => yields_pick (b := false) rfl rfl rfl⟩
  · exact .inl ⟨rfl, fun W hb => yields_assign rfl rfl⟩
  intro w2 hb2
  clear c0 c1 c4 hO
  go_wp2
  go_ret
  exact ⟨rfl, HB.out.trans (hb2.mono HB.out.size)⟩
set_option maxHeartbeats 1000000 in
theorem rightop_E (e : Ev) (w : World) (lk : Room e) {O : Array Value} (i : Is O e) (hk : iskindE e.kind = true) (hy : decide (e.key ≠ []) = true) (hx : textsE e = true) (hn : numE e.num = true) : Calls Tryz.prog 30 #[.agg O] w fun e' w' => e' = .returned (.bool (sameO e (used e))) ∧ Below w.heap.size w w' := by
  obtain ⟨U, ju⟩ := is_any (used e)
  obtain ⟨hO, hB⟩ := boxedI w i
  have HB : Hid (Below w.heap.size w (w.alloc (.cells O 34))) := hB
  clear hB
  have c0 := hO.c0
  have c1 := hO.c1
  have c4 := hO.c4
  go_enter Tryz.func30, Tryz.ntmps30
  go_wp2_with fail
  refine region_vals [3, 4, 5, 6, 7, 8, 9, 10, 11, 12, 13, 14, 15, 16, 17, 18, 19, 20, 21, 22, 23, 24, 25, 2] [.pointer (some ⟨w.heap.size, 0, none⟩), .int .i64 (e.kind), .bool true, .bool true, .pointer (some ⟨w.heap.size, 1, none⟩), .string (sb (e.key)), .bool true, .bool true, .bool true, .agg O, .bool true, .bool true, .bool true, .pointer (some ⟨w.heap.size, 4, none⟩), .int .i64 (e.num), .bool true, .bool true, .bool true, .agg O, .agg O, .agg U, .bool (sameO e (used e)), .bool (sameO e (used e)), .bool (sameO e (used e))] _ (by kernel_rfl) (by kernel_rfl) (by rfl) (by decide) (by kernel_rfl) (by simp only [lay, Act.put, List.setIfInBounds_toArray, List.set_cons_zero, List.set_cons_succ, List.getD_cons_zero, List.getD_cons_succ, Nat.reduceAdd]; rfl) ⟨?_, ?_, ?_, ?_, ?_, ?_, ?_, ?_, ?_, ?_, ?_, ?_, ?_, ?_, ?_, ?_, ?_, ?_, ?_, ?_, ?_, ?_, ?_, ?_, trivial⟩ ?_
  · exact .inl ⟨rfl, fun W hb => yields_field rfl rfl (fieldO0_run W _)⟩
  · exact .inl ⟨rfl, fun W hb => yields_load rfl rfl (load_int_run ((hb.cell (block_lt_of_cell c0)).trans c0))⟩
  · exact .inl ⟨rfl, fun W hb => yields_call (vs := [.int .i64 (e.kind)]) (v := .bool true) rfl rfl (enters_iskind _ _) (okcall (calls_below (iskind_any _ W)) hk)⟩
  · exact .inl ⟨rfl, fun W hb => yields_move rfl rfl⟩
  · exact .inl ⟨rfl, fun W hb => yields_field rfl rfl (fieldO1_run W _)⟩
  · exact .inl ⟨rfl, fun W hb => yields_load rfl rfl (load_str_run ((hb.cell (block_lt_of_cell c1)).trans c1))⟩
  · exact .inl ⟨rfl, fun W hb => yields_bin rfl rfl rfl (eqGuard_str W) (neq_str_run W hy)⟩
  · exact .inl ⟨rfl, fun W hb => yields_pick (b := true) rfl rfl rfl⟩
  · exact .inl ⟨rfl, fun W hb => yields_move rfl rfl⟩
  · exact .inl ⟨rfl, fun W hb => yields_load rfl rfl (load_op_is ((hO).below hb (hO).lt) i)⟩
  · exact .inl ⟨rfl, fun W hb => yields_call (vs := [.agg O]) (v := .bool true) rfl rfl (enters_righttexts _ _) (okcall (righttexts_is i W lk.k lk.f lk.v) hx)⟩
  · exact .inl ⟨rfl, fun W hb => yields_pick (b := true) rfl rfl rfl⟩
  · exact .inl ⟨rfl, fun W hb => yields_move rfl rfl⟩
  · exact .inl ⟨rfl, fun W hb => yields_field rfl rfl (fieldO4_run W _)⟩
  · exact .inl ⟨rfl, fun W hb => yields_load rfl rfl (load_int_run ((hb.cell (block_lt_of_cell c4)).trans c4))⟩
  · exact .inl ⟨rfl, fun W hb => yields_call (vs := [.int .i64 (e.num)]) (v := .bool true) rfl rfl (enters_rightnum _ _) (okcall (calls_below (rightnum_any _ W)) hn)⟩
  · exact .inl ⟨rfl, fun W hb => yields_pick (b := true) rfl rfl rfl⟩
  · exact .inl ⟨rfl, fun W hb => yields_move rfl rfl⟩
  · exact .inl ⟨rfl, fun W hb => yields_load rfl rfl (load_op_is ((hO).below hb (hO).lt) i)⟩
  · exact .inl ⟨rfl, fun W hb => yields_load rfl rfl (load_op_is ((hO).below hb (hO).lt) i)⟩
  · exact .inl ⟨rfl, fun W hb => yields_call (vs := [.agg O]) (v := .agg U) rfl rfl (enters_onlyused _ _) (onlyused_is i ju W)⟩
  · exact .inl ⟨rfl, fun W hb => yields_bin rfl rfl rfl (run_eqGuard_agg W _ _ _ _ _ _ plain_op) (run_eql_is W i ju)⟩
  · exact .inl ⟨rfl, fun W hb => yields_pick (b := true) rfl rfl rfl⟩
  · exact .inl ⟨rfl, fun W hb => yields_assign rfl rfl⟩
  intro w2 hb2
  clear c0 c1 c4 hO
  go_wp2
  go_ret
  exact ⟨rfl, HB.out.trans (hb2.mono HB.out.size)⟩
theorem rightop_any (e : Ev) (w : World) (lk : Room e) : Calls Tryz.prog 30 #[.agg (opc e)] w fun e' w' => e' = .returned (.bool (opE e)) ∧ Below w.heap.size w w' := by
  rcases Bool.eq_false_or_eq_true (iskindE e.kind) with hk | hk
  · rcases Bool.eq_false_or_eq_true (decide (e.key ≠ [])) with hy | hy
    · rcases Bool.eq_false_or_eq_true (textsE e) with hx | hx
      · rcases Bool.eq_false_or_eq_true (numE e.num) with hn | hn
        · rw [opE, hk, hy, hx, hn]; exact rightop_E e w lk rfl hk hy hx hn
        · rw [opE, hk, hy, hx, hn]; exact rightop_D e w lk rfl hk hy hx hn
      · rw [opE, hk, hy, hx]; exact rightop_C e w lk rfl hk hy hx
    · rw [opE, hk, hy]; exact rightop_B e w rfl hk hy
  · rw [opE, hk]; exact rightop_A e w rfl hk
end Go.Proofs.YtmlfekbmbnfkjabGreatDoor

/-
  What event.Right comes to; and Covers.
-/
namespace Go.Proofs.YtmlfekbmbnfkjabGreatDoor
set_option maxRecDepth 100000
open Go.RowKit

def placeE (e : Ev) : Bool := decide (withE e.deps e.r e.n = 0)
def isrefE (e : Ev) : Bool := decide (e.rr = 0 ∧ e.rn = 0)
def refE (e : Ev) : Bool := if e.kind = 10 then hasv e.deps e.rr e.rn else if e.kind = 9 then isrefE e || hasv e.deps e.rr e.rn else true
/-- Can the event be? -/
def okev (e : Ev) : Bool := placeE e && (decide (0 ≤ e.t) && (decide (e.t ≤ 1152921504606846975) && (opE e && refE e)))
theorem run_isref (w : World) {e : Ev} {b : Bool} (h : isrefE e = b) : (Op.equalIn 10000 32 (.agg (dotc e.rr e.rn)) (.agg #[.int .i64 0, .int .i64 0])).run Tryz.prog w = .ok b w := by
  rw [← h]; exact run_equalIn_dot w 9998 e.rr e.rn 0 0
theorem boxedE (w : World) (e : Ev) : LiesE (w.alloc (.cells (evc e) 47)) w.heap.size e ∧ Below w.heap.size w (w.alloc (.cells (evc e) 47)) :=
  ⟨liesE_new w e, (Below.refl _ _).alloc (Nat.le_refl _) _⟩

set_option maxHeartbeats 400000 in
theorem rightplace_any (e : Ev) (hl : e.deps.length = 16) (w : World) : Calls Tryz.prog 29 #[.agg (evc e)] w fun e' w' => e' = .returned (.bool (placeE e)) ∧ Below w.heap.size w w' := by
  obtain ⟨hE, hB⟩ := boxedE w e
  have HB : Hid (Below w.heap.size w (w.alloc (.cells (evc e) 47))) := hB
  clear hB
  have hd := hE.deps hl
  have hr := hE.dot
  clear hE
  have hw : Hid _ := withV_length e.deps e.r e.n hl
  go_enter Tryz.func29, Tryz.ntmps29
  go_wp2_with (first | refine load_vec_at rfl rfl rfl hd hl ?_ | refine load_dot_at rfl rfl rfl hr ?_)
  refine (with_any e.deps e.r e.n hl _).mono ?_
  rintro e1 w1 ⟨rfl, hb1⟩
  have H1 : Hid (Below w.heap.size w w1) := HB.out.trans (hb1.mono HB.out.size)
  clear hd hr hb1 HB
  have hz := lies_new w1 zeros
  have HP : Hid (∀ b : Bool, b = (withE e.deps e.r e.n == 0) → b = placeE e) := fun b hb => by rw [hb, placeE, Bool.eq_iff_iff]; simp
  generalize withE e.deps e.r e.n = x at *
  generalize withV e.deps e.r e.n = v at *
  go_wp2_with (refine store_vec rfl rfl rfl rfl hz hw.out rfl ?_)
  go_ret
  refine ⟨congrArg (fun b => Ending.returned (.bool b)) (HP.out _ rfl), below_setRow (H1.out.alloc H1.out.size _) H1.out.size _⟩

set_option maxHeartbeats 400000 in
theorem rightref_any (e : Ev) (hl : e.deps.length = 16) (w : World) : Calls Tryz.prog 31 #[.agg (evc e)] w fun e' w' => e' = .returned (.bool (refE e)) ∧ Below w.heap.size w w' := by
  obtain ⟨hE, hB⟩ := boxedE w e
  have HB : Hid (Below w.heap.size w (w.alloc (.cells (evc e) 47))) := hB
  clear hB
  have hd := hE.deps hl
  have hr := hE.ref hl
  have c19 := hE.c19 hl
  clear hE
  unfold refE
  by_cases h10 : e.kind = 10
  · rw [if_pos h10]
    rw [h10] at c19
    clear h10
    go_enter Tryz.func31, Tryz.ntmps31
    go_wp2_with (first | refine load_vec_at rfl rfl rfl hd hl ?_ | refine load_dot_at rfl rfl rfl hr ?_)
    refine (has_any e.deps e.rr e.rn hl _).mono ?_
    rintro e1 w1 ⟨rfl, hb1⟩
    clear hd hr c19
    go_wp2
    go_ret
    exact ⟨rfl, HB.out.trans (hb1.mono HB.out.size)⟩
  · rw [if_neg h10]
    by_cases h9 : e.kind = 9
    · rw [if_pos h9]
      rw [h9] at c19
      clear h9 h10
      have hp := plain_dot
      rcases Bool.eq_false_or_eq_true (isrefE e) with hi | hi
      · rw [hi, Bool.true_or]
        have he := fun W : World => run_isref W hi
        clear hi
        go_enter Tryz.func31, Tryz.ntmps31
        go_wp2_with (first | refine load_vec_at rfl rfl rfl hd hl ?_ | refine load_dot_at rfl rfl rfl hr ?_)
        go_ret
        exact ⟨rfl, HB.out⟩
      · rw [hi, Bool.false_or]
        have he := fun W : World => run_isref W hi
        clear hi
        go_enter Tryz.func31, Tryz.ntmps31
        go_wp2_with (first | refine load_vec_at rfl rfl rfl hd hl ?_ | refine load_dot_at rfl rfl rfl hr ?_)
        refine (has_any e.deps e.rr e.rn hl _).mono ?_
        rintro e1 w1 ⟨rfl, hb1⟩
        clear hd hr c19
        go_wp2
        go_ret
        exact ⟨rfl, HB.out.trans (hb1.mono HB.out.size)⟩
    · rw [if_neg h9]
      have k10 : (e.kind == 10) = false := by simpa using h10
      have k9 : (e.kind == 9) = false := by simpa using h9
      go_enter Tryz.func31, Tryz.ntmps31
      go_wp2_with (first | refine load_vec_at rfl rfl rfl hd hl ?_ | refine load_dot_at rfl rfl rfl hr ?_)
      go_ret
      exact ⟨rfl, HB.out⟩

theorem okev_place {e : Ev} (h : placeE e = false) : okev e = false := by rw [okev, h]; rfl

set_option maxHeartbeats 1000000 in
theorem eright_any (e : Ev) (hl : e.deps.length = 16) (lk : Room e) (w : World) : Calls Tryz.prog 18 #[.agg (evc e)] w fun e' w' => e' = .returned (.bool (okev e)) ∧ Below w.heap.size w w' := by
  obtain ⟨hE, hB⟩ := boxedE w e
  have H0 : Hid (Below w.heap.size w (w.alloc (.cells (evc e) 47))) := hB
  clear hB
  rcases Bool.eq_false_or_eq_true (placeE e) with hp | hp
  · by_cases t0 : 0 ≤ e.t
    · by_cases t1 : e.t ≤ 1152921504606846975
      · rcases Bool.eq_false_or_eq_true (opE e) with ho | ho
        · rw [okev, hp, ho, decide_eq_true t0, decide_eq_true t1, Bool.true_and, Bool.true_and, Bool.true_and, Bool.true_and]
          have HP : Hid _ := hp
          have HO : Hid _ := ho
          clear hp ho
          go_enter Tryz.func18, Tryz.ntmps18
          go_wp2_with (refine load_ev rfl rfl rfl hE hl ?_)
          refine (rightplace_any e hl _).mono ?_
          rintro e1 w1 ⟨rfl, hb1⟩
          have hE1 := hE.below hb1 hE.lt
          have H1 : Hid (Below w.heap.size w w1) := H0.out.trans (hb1.mono H0.out.size)
          clear hE hb1 H0
          rw [HP.out]
          have c2 := hE1.c2
          have ho := hE1.op hl
          go_wp2_with (refine load_op_at rfl rfl rfl ho ?_)
          refine (rightop_any e _ lk).mono ?_
          rintro e2 w2 ⟨rfl, hb2⟩
          have hE2 := hE1.below hb2 hE1.lt
          have H2 : Hid (Below w.heap.size w w2) := H1.out.trans (hb2.mono H1.out.size)
          clear hE1 hb2 H1 c2 ho
          rw [HO.out]
          go_wp2_with (refine load_ev rfl rfl rfl hE2 hl ?_)
          refine (rightref_any e hl _).mono ?_
          rintro e3 w3 ⟨rfl, hb3⟩
          have H3 : Hid (Below w.heap.size w w3) := H2.out.trans (hb3.mono H2.out.size)
          clear hE2 hb3 H2
          go_wp2
          go_ret
          exact ⟨rfl, H3.out⟩
        · rw [okev, hp, ho, decide_eq_true t0, decide_eq_true t1]
          have HP : Hid _ := hp
          have HO : Hid _ := ho
          clear hp ho
          go_enter Tryz.func18, Tryz.ntmps18
          go_wp2_with (refine load_ev rfl rfl rfl hE hl ?_)
          refine (rightplace_any e hl _).mono ?_
          rintro e1 w1 ⟨rfl, hb1⟩
          have hE1 := hE.below hb1 hE.lt
          have H1 : Hid (Below w.heap.size w w1) := H0.out.trans (hb1.mono H0.out.size)
          clear hE hb1 H0
          rw [HP.out]
          have c2 := hE1.c2
          have ho := hE1.op hl
          go_wp2_with (refine load_op_at rfl rfl rfl ho ?_)
          refine (rightop_any e _ lk).mono ?_
          rintro e2 w2 ⟨rfl, hb2⟩
          have H2 : Hid (Below w.heap.size w w2) := H1.out.trans (hb2.mono H1.out.size)
          clear hE1 hb2 H1 c2 ho
          rw [HO.out]
          go_wp2
          go_ret
          exact ⟨rfl, H2.out⟩
      · rw [okev, hp, decide_eq_true t0, decide_eq_false t1]
        have HP : Hid _ := hp
        clear hp
        go_enter Tryz.func18, Tryz.ntmps18
        go_wp2_with (refine load_ev rfl rfl rfl hE hl ?_)
        refine (rightplace_any e hl _).mono ?_
        rintro e1 w1 ⟨rfl, hb1⟩
        have hE1 := hE.below hb1 hE.lt
        have H1 : Hid (Below w.heap.size w w1) := H0.out.trans (hb1.mono H0.out.size)
        clear hE hb1 H0
        rw [HP.out]
        have c2 := hE1.c2
        have ho := hE1.op hl
        go_wp2
        go_ret
        exact ⟨rfl, H1.out⟩
    · rw [okev, hp, decide_eq_false t0]
      have HP : Hid _ := hp
      clear hp
      go_enter Tryz.func18, Tryz.ntmps18
      go_wp2_with (refine load_ev rfl rfl rfl hE hl ?_)
      refine (rightplace_any e hl _).mono ?_
      rintro e1 w1 ⟨rfl, hb1⟩
      have hE1 := hE.below hb1 hE.lt
      have H1 : Hid (Below w.heap.size w w1) := H0.out.trans (hb1.mono H0.out.size)
      clear hE hb1 H0
      rw [HP.out]
      have c2 := hE1.c2
      go_wp2
      go_ret
      exact ⟨rfl, H1.out⟩
  · rw [okev_place hp]
    have HP : Hid _ := hp
    clear hp
    go_enter Tryz.func18, Tryz.ntmps18
    go_wp2_with (refine load_ev rfl rfl rfl hE hl ?_)
    refine (rightplace_any e hl _).mono ?_
    rintro e1 w1 ⟨rfl, hb1⟩
    have H1 : Hid (Below w.heap.size w w1) := H0.out.trans (hb1.mono H0.out.size)
    clear hE hb1 H0
    rw [HP.out]
    go_wp2
    go_ret
    exact ⟨rfl, H1.out⟩
end Go.Proofs.YtmlfekbmbnfkjabGreatDoor

/-
  What Encode comes to: an event's bytes, if it can be.
-/
namespace Go.Proofs.YtmlfekbmbnfkjabGreatDoor
set_option maxRecDepth 100000
open Go.RowKit

theorem okev_parts {e : Ev} (h : okev e = true) : placeE e = true ∧ 0 ≤ e.t ∧ e.t ≤ 1152921504606846975 ∧ iskindE e.kind = true ∧ e.key ≠ [] ∧ textsE e = true ∧ numE e.num = true ∧ sameO e (used e) = true ∧ refE e = true := by
  simp only [okev, opE, Bool.and_eq_true, decide_eq_true_eq] at h
  obtain ⟨h1, h2, h3, ⟨h4, h5, h6, h7, h8⟩, h9⟩ := h
  exact ⟨h1, h2, h3, h4, h5, h6, h7, h8, h9⟩
end Go.Proofs.YtmlfekbmbnfkjabGreatDoor

