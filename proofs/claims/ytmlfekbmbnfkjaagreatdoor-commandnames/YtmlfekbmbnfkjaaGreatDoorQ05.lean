/-
  Laws for single operations: a vector or a dot is read, two are compared.
-/
import Derived.Test.YtmlfekbmbnfkjaaGreatDoorQ03
import Derived.Test.YtmlfekbmbnfkjaaGreatDoorQ04
import Derived.BigQuiet
namespace Go.Proofs.YtmlfekbmbnfkjaaGreatDoor
set_option maxRecDepth 100000
open Go.RowKit

theorem load_run {w : World} {g : Nat} {l : List Int} (h : Lies w g l) (hl : l.length = 16) : (loadVar 58 ⟨g, 0, none⟩).run Tryz.prog w = .ok (.agg (vals l)) w :=
  run_loadVar_row w g 58 58 _ (0, 0) _ h Tryz.underlying58 rfl (size16 l hl)
theorem load_dot_run {w : World} {g : Nat} {r n : Int} (h : LiesD w g r n) : (loadVar 46 ⟨g, 0, none⟩).run Tryz.prog w = .ok (.agg (dotc r n)) w :=
  run_loadVar_row w g 46 46 _ (0, 0) _ h Tryz.underlying46 rfl (sizeD r n)
theorem run_eql_same (w : World) {a b : List Int} (h : a = b) (la : a.length = 16) (lb : b.length = 16) : (binOp .eql 58 (.agg (vals a)) (.agg (vals b))).run Tryz.prog w = .ok (.bool true) w := by
  rw [run_eql_vec w a b la lb, decide_eq_true h]
theorem run_neq_same (w : World) {a b : List Int} (h : a = b) (la : a.length = 16) (lb : b.length = 16) : (binOp .neq 58 (.agg (vals a)) (.agg (vals b))).run Tryz.prog w = .ok (.bool false) w := by
  rw [run_neq_vec w a b la lb, decide_eq_true h]; rfl
theorem run_eql_not (w : World) {a b : List Int} (h : a ≠ b) (la : a.length = 16) (lb : b.length = 16) : (binOp .eql 58 (.agg (vals a)) (.agg (vals b))).run Tryz.prog w = .ok (.bool false) w := by
  rw [run_eql_vec w a b la lb, decide_eq_false h]
theorem run_eql_dot_same (w : World) {r n r' n' : Int} (h : r = r' ∧ n = n') : (binOp .eql 46 (.agg (dotc r n)) (.agg (dotc r' n'))).run Tryz.prog w = .ok (.bool true) w := by
  rw [run_eql_dot, decide_eq_true h]
theorem eqGuard_bool (w : World) {op : BinOp} {x y : Operand} {a b : Bool} : (eqGuard op 4 x y (.bool a) (.bool b)).run Tryz.prog w = .ok () w := by
  cases op <;> simp [eqGuard]
theorem eqGuard_int (w : World) {op : BinOp} {x y : Operand} {a b : Int} : (eqGuard op 3 x y (.int .i64 a) (.int .i64 b)).run Tryz.prog w = .ok () w := by
  cases op <;> simp [eqGuard]
theorem eql_bool (w : World) {a b : Bool} : (binOp .eql 4 (.bool a) (.bool b)).run Tryz.prog w = .ok (.bool (a == b)) w := Go.run_eql_bool w 4 a b (by kernel_rfl)
theorem eql_bool_same (w : World) {a : Bool} : (binOp .eql 4 (.bool a) (.bool a)).run Tryz.prog w = .ok (.bool true) w := by rw [eql_bool]; simp
theorem neq_bool (w : World) {a b : Bool} : (binOp .neq 4 (.bool a) (.bool b)).run Tryz.prog w = .ok (.bool (!(a == b))) w := Go.run_neq_bool w 4 a b (by kernel_rfl)
theorem run_eql_int (w : World) (a b : Int) : (binOp .eql 3 (.int .i64 a) (.int .i64 b)).run Tryz.prog w = .ok (.bool (a == b)) w := by
  simp [binOp, Op.intCmp]
theorem run_eql_int_same (w : World) {a b : Int} (h : a = b) : (binOp .eql 3 (.int .i64 a) (.int .i64 b)).run Tryz.prog w = .ok (.bool true) w := by
  rw [run_eql_int]; simp [h]
theorem run_eql_int_not (w : World) {a b : Int} (h : a ≠ b) : (binOp .eql 3 (.int .i64 a) (.int .i64 b)).run Tryz.prog w = .ok (.bool false) w := by
  rw [run_eql_int]; simp [h]

theorem load_int_run {w : World} {ad : Addr} {v : Value} (h : w.cell? ad = some v) : (loadVar 3 ad).run Tryz.prog w = .ok v w := by
  have h3 : Tryz.prog.underlying 3 = some (.int .i64) := by kernel_rfl
  simp [loadVar, isAgg, run_underlying h3, Sem.run_bind, h]
theorem field0_run (w : World) (g : Nat) : (Instr.fieldAt 46 (.pointer (some ⟨g, 0, none⟩)) 0).run Tryz.prog w = .ok (.pointer (some ⟨g, 0, none⟩)) w := by kernel_rfl
theorem field1_run (w : World) (g : Nat) : (Instr.fieldAt 46 (.pointer (some ⟨g, 0, none⟩)) 1).run Tryz.prog w = .ok (.pointer (some ⟨g, 1, none⟩)) w := by kernel_rfl
theorem leq_run (w : World) (a b : Int) : (binOp .leq 3 (.int .i64 a) (.int .i64 b)).run Tryz.prog w = .ok (.bool (decide (a ≤ b))) w := by rw [binOp_leq]; rfl
theorem gtr_run (w : World) (a b : Int) : (binOp .gtr 3 (.int .i64 a) (.int .i64 b)).run Tryz.prog w = .ok (.bool (decide (b < a))) w := by rw [binOp_gtr]; rfl
theorem neq_run (w : World) (a b : Int) : (binOp .neq 3 (.int .i64 a) (.int .i64 b)).run Tryz.prog w = .ok (.bool (a != b)) w := by rw [binOp_neq]; rfl
theorem enters_with (xs : Array Value) (w : World) : (callFunc 84 xs).run Tryz.prog w = .ok (.enter 84 xs) w := enters Tryz.func84 (by kernel_rfl) (by kernel_rfl) xs w
theorem enters_right (xs : Array Value) (w : World) : (callFunc 137 xs).run Tryz.prog w = .ok (.enter 137 xs) w := enters Tryz.func137 (by kernel_rfl) (by kernel_rfl) xs w
theorem enters_has (xs : Array Value) (w : World) : (callFunc 136 xs).run Tryz.prog w = .ok (.enter 136 xs) w := enters Tryz.func136 (by kernel_rfl) (by kernel_rfl) xs w
theorem enters_rhas (xs : Array Value) (w : World) : (callFunc 80 xs).run Tryz.prog w = .ok (.enter 80 xs) w := enters Tryz.func80 (by kernel_rfl) (by kernel_rfl) xs w
theorem enters_isreplica (xs : Array Value) (w : World) : (callFunc 181 xs).run Tryz.prog w = .ok (.enter 181 xs) w := enters Tryz.func181 (by kernel_rfl) (by kernel_rfl) xs w
theorem enters_rightdot (xs : Array Value) (w : World) : (callFunc 138 xs).run Tryz.prog w = .ok (.enter 138 xs) w := enters Tryz.func138 (by kernel_rfl) (by kernel_rfl) xs w
theorem enters_rdot (xs : Array Value) (w : World) : (callFunc 77 xs).run Tryz.prog w = .ok (.enter 77 xs) w := enters Tryz.func77 (by kernel_rfl) (by kernel_rfl) xs w

/-- A whole vector, a dot is read by a guarded operation whose guard holds. -/
theorem load_vec_w {ops : Array Oper} {rest : List Oper} {o : Oper} {a : Act} {w : World} {Q : Exit → Act → World → Prop} {x : Operand} {g : Nat} {l : List Int} (hw : Region.wanted o (yielded ops a.tmps) = true) (ho : o.op = .load 58 x)
    (hx : a.eval x = .pointer (some ⟨g, 0, none⟩)) (hg : Lies w g l) (hl : l.length = 16)
    (h : wpList Tryz.prog ops Q rest (a.put o.dst (.agg (vals l))) w) : wpList Tryz.prog ops Q (o :: rest) a w :=
  wpList_step fun K hK => by
    rw [if_pos hw]
    exact wp_load_row 58 x ho g hx 58 _ (0, 0) _ hg Tryz.underlying58 rfl (size16 l hl) (hK _ _ h)
theorem load_dot_w {ops : Array Oper} {rest : List Oper} {o : Oper} {a : Act} {w : World} {Q : Exit → Act → World → Prop} {x : Operand} {g : Nat} {r n : Int} (hw : Region.wanted o (yielded ops a.tmps) = true) (ho : o.op = .load 46 x)
    (hx : a.eval x = .pointer (some ⟨g, 0, none⟩)) (hg : LiesD w g r n)
    (h : wpList Tryz.prog ops Q rest (a.put o.dst (.agg (dotc r n))) w) : wpList Tryz.prog ops Q (o :: rest) a w :=
  wpList_step fun K hK => by
    rw [if_pos hw]
    exact wp_load_row 46 x ho g hx 46 _ (0, 0) _ hg Tryz.underlying46 rfl (sizeD r n) (hK _ _ h)

theorem Below.drewN {B : Nat} {a w : World} (h : Below B a w) (n : Nat) : Below B a (w.drewN n) := ⟨h.os, h.tape, h.output, h.size, h.block⟩
theorem Lies.drewN {w : World} {g : Nat} {l : List Int} (h : Lies w g l) (n : Nat) : Lies (w.drewN n) g l := h
theorem LiesD.drewN {w : World} {g : Nat} {r m : Int} (h : LiesD w g r m) (n : Nat) : LiesD (w.drewN n) g r m := h

theorem boxed3 (w : World) (a b c : List Int) :
    Lies (((w.alloc (.cells (vals a) 58)).alloc (.cells (vals b) 58)).alloc (.cells (vals c) 58)) w.heap.size a ∧
    Lies (((w.alloc (.cells (vals a) 58)).alloc (.cells (vals b) 58)).alloc (.cells (vals c) 58)) (w.heap.size + 1) b ∧
    Lies (((w.alloc (.cells (vals a) 58)).alloc (.cells (vals b) 58)).alloc (.cells (vals c) 58)) (w.heap.size + 1 + 1) c ∧
    Below w.heap.size w (((w.alloc (.cells (vals a) 58)).alloc (.cells (vals b) 58)).alloc (.cells (vals c) 58)) := by
  refine ⟨((lies_new w a).alloc _).alloc _, ?_, ?_, (((Below.refl _ _).alloc (Nat.le_refl _) _).alloc (by simp) _).alloc (by simp; omega) _⟩
  · have := (lies_new (w.alloc (.cells (vals a) 58)) b).alloc (.cells (vals c) 58)
    simpa using this
  · have := lies_new ((w.alloc (.cells (vals a) 58)).alloc (.cells (vals b) 58)) c
    simpa using this
theorem boxed2 (w : World) (a b : List Int) :
    Lies ((w.alloc (.cells (vals a) 58)).alloc (.cells (vals b) 58)) w.heap.size a ∧
    Lies ((w.alloc (.cells (vals a) 58)).alloc (.cells (vals b) 58)) (w.heap.size + 1) b ∧
    Below w.heap.size w ((w.alloc (.cells (vals a) 58)).alloc (.cells (vals b) 58)) := by
  refine ⟨(lies_new w a).alloc _, ?_, ((Below.refl _ _).alloc (Nat.le_refl _) _).alloc (by simp) _⟩
  have := lies_new (w.alloc (.cells (vals a) 58)) b
  simpa using this
end Go.Proofs.YtmlfekbmbnfkjaaGreatDoor

/-
  What vec.isReplica, vec.rightDot and the reference's Dot come to: whether a number is a replica's, whether a dot can be.
-/
namespace Go.Proofs.YtmlfekbmbnfkjaaGreatDoor
set_option maxRecDepth 100000
open Go.RowKit

def isrep (r : Int) : Bool := decide (0 ≤ r ∧ r < 16)
/-- Can a dot be? -/
def okdot (r n : Int) : Bool := decide (0 ≤ r ∧ r < 16 ∧ 1 ≤ n ∧ n ≤ 1048576)

set_option maxHeartbeats 400000 in
theorem isreplica_any (r : Int) (w : World) : Calls Tryz.prog 181 #[.int .i64 r] w fun e w' => e = .returned (.bool (isrep r)) ∧ w' = w := by
  by_cases h0 : 0 ≤ r
  · by_cases h1 : r < 16
    · go_enter Tryz.func181, Tryz.ntmps181
      go_wp2
      go_ret
      exact ⟨by rw [isrep, decide_eq_true ⟨h0, h1⟩]; rfl, rfl⟩
    · go_enter Tryz.func181, Tryz.ntmps181
      go_wp2
      go_ret
      exact ⟨by rw [isrep, decide_eq_false (by omega)]; rfl, rfl⟩
  · go_enter Tryz.func181, Tryz.ntmps181
    go_wp2
    go_ret
    exact ⟨by rw [isrep, decide_eq_false (by omega)]; rfl, rfl⟩

set_option maxHeartbeats 400000 in
theorem rightdot_any (r n : Int) (w : World) : Calls Tryz.prog 138 #[.agg (dotc r n)] w fun e w' => e = .returned (.bool (okdot r n)) ∧ Below w.heap.size w w' := by
  have hD := liesD_new w r n
  have c0 := hD.cell0
  have c1 := hD.cell1
  have hB : Hid (Below w.heap.size w (w.alloc (.cells (dotc r n) 46))) := (Below.refl _ _).alloc (Nat.le_refl _) _
  clear hD
  by_cases h0 : 0 ≤ r ∧ r < 16
  · have hr : isrep r = true := decide_eq_true h0
    by_cases h1 : 1 ≤ n
    · by_cases h2 : n ≤ 1048576
      · have Hk : Hid (okdot r n = true) := decide_eq_true ⟨h0.1, h0.2, h1, h2⟩
        go_enter Tryz.func138, Tryz.ntmps138
        go_wp2_with fail
        refine (isreplica_any r _).mono ?_
        rintro e w1 ⟨rfl, hw⟩
        obtain rfl := hw.symm
        rw [hr]
        go_wp2
        go_ret
        exact ⟨by rw [Hk.out]; first | rfl | (show Ending.returned (.bool (decide _)) = _; rw [decide_eq_false (by omega)]), hB.out⟩
      · have Hk : Hid (okdot r n = false) := decide_eq_false (fun h => h2 h.2.2.2)
        go_enter Tryz.func138, Tryz.ntmps138
        go_wp2_with fail
        refine (isreplica_any r _).mono ?_
        rintro e w1 ⟨rfl, hw⟩
        obtain rfl := hw.symm
        rw [hr]
        go_wp2
        go_ret
        exact ⟨by rw [Hk.out]; first | rfl | (show Ending.returned (.bool (decide _)) = _; rw [decide_eq_false (by omega)]), hB.out⟩
    · have Hk : Hid (okdot r n = false) := decide_eq_false (fun h => h1 h.2.2.1)
      go_enter Tryz.func138, Tryz.ntmps138
      go_wp2_with fail
      refine (isreplica_any r _).mono ?_
      rintro e w1 ⟨rfl, hw⟩
      obtain rfl := hw.symm
      rw [hr]
      go_wp2
      go_ret
      exact ⟨by rw [Hk.out]; first | rfl | (show Ending.returned (.bool (decide _)) = _; rw [decide_eq_false (by omega)]), hB.out⟩
  · have hr : isrep r = false := decide_eq_false h0
    have Hk : Hid (okdot r n = false) := decide_eq_false (fun h => h0 ⟨h.1, h.2.1⟩)
    go_enter Tryz.func138, Tryz.ntmps138
    go_wp2_with fail
    refine (isreplica_any r _).mono ?_
    rintro e w1 ⟨rfl, hw⟩
    obtain rfl := hw.symm
    rw [hr]
    go_wp2
    go_ret
    exact ⟨by rw [Hk.out]; first | rfl | (show Ending.returned (.bool (decide _)) = _; rw [decide_eq_false (by omega)]), hB.out⟩

set_option maxHeartbeats 400000 in
theorem rdot_any (r n : Int) (w : World) : Calls Tryz.prog 77 #[.agg (dotc r n)] w fun e w' => e = .returned (.bool (okdot r n)) ∧ Below w.heap.size w w' := by
  have hD := liesD_new w r n
  have c0 := hD.cell0
  have c1 := hD.cell1
  have hB : Hid (Below w.heap.size w (w.alloc (.cells (dotc r n) 46))) := (Below.refl _ _).alloc (Nat.le_refl _) _
  clear hD
  by_cases h0 : 0 ≤ r
  · by_cases h3 : r < 16
    · by_cases h1 : 1 ≤ n
      · by_cases h2 : n ≤ 1048576
        · have Hk : Hid (okdot r n = true) := decide_eq_true ⟨h0, h3, h1, h2⟩
          go_enter Tryz.func77, Tryz.ntmps77
          go_wp2
          go_ret
          exact ⟨by rw [Hk.out]; first | rfl | (show Ending.returned (.bool (decide _)) = _; rw [decide_eq_false (by omega)]), hB.out⟩
        · have Hk : Hid (okdot r n = false) := decide_eq_false (fun h => h2 h.2.2.2)
          go_enter Tryz.func77, Tryz.ntmps77
          go_wp2
          go_ret
          exact ⟨by rw [Hk.out]; first | rfl | (show Ending.returned (.bool (decide _)) = _; rw [decide_eq_false (by omega)]), hB.out⟩
      · have Hk : Hid (okdot r n = false) := decide_eq_false (fun h => h1 h.2.2.1)
        go_enter Tryz.func77, Tryz.ntmps77
        go_wp2
        go_ret
        exact ⟨by rw [Hk.out]; first | rfl | (show Ending.returned (.bool (decide _)) = _; rw [decide_eq_false (by omega)]), hB.out⟩
    · have Hk : Hid (okdot r n = false) := decide_eq_false (fun h => h3 h.2.1)
      go_enter Tryz.func77, Tryz.ntmps77
      go_wp2
      go_ret
      exact ⟨by rw [Hk.out]; first | rfl | (show Ending.returned (.bool (decide _)) = _; rw [decide_eq_false (by omega)]), hB.out⟩
  · have Hk : Hid (okdot r n = false) := decide_eq_false (fun h => h0 h.1)
    go_enter Tryz.func77, Tryz.ntmps77
    go_wp2
    go_ret
    exact ⟨by rw [Hk.out]; first | rfl | (show Ending.returned (.bool (decide _)) = _; rw [decide_eq_false (by omega)]), hB.out⟩
end Go.Proofs.YtmlfekbmbnfkjaaGreatDoor

/-
  What vec.Has and the reference's Has come to: whether the dot can be, and its number is at most that of its replica.
-/
namespace Go.Proofs.YtmlfekbmbnfkjaaGreatDoor
set_option maxRecDepth 100000
open Go.RowKit

/-- Has the vector the dot? -/
def hasv (v : List Int) (r n : Int) : Bool := okdot r n && decide (n ≤ v.getD r.toNat 0)

theorem okcall {f : FuncId} {as' : Array Value} {W : World} {b c : Bool} (h : Calls Tryz.prog f as' W fun e w' => e = .returned (.bool b) ∧ Below W.heap.size W w') (hb : b = c) :
    Calls Tryz.prog f as' W fun e w' => e = .returned (.bool c) ∧ Below W.heap.size W w' := by rw [← hb]; exact h

theorem boxedVD (w : World) (v : List Int) (r n : Int) :
    Lies ((w.alloc (.cells (vals v) 58)).alloc (.cells (dotc r n) 46)) w.heap.size v ∧
    LiesD ((w.alloc (.cells (vals v) 58)).alloc (.cells (dotc r n) 46)) (w.heap.size + 1) r n ∧
    Below w.heap.size w ((w.alloc (.cells (vals v) 58)).alloc (.cells (dotc r n) 46)) := by
  refine ⟨(lies_new w v).alloc _, ?_, ((Below.refl _ _).alloc (Nat.le_refl _) _).alloc (by simp) _⟩
  have := liesD_new (w.alloc (.cells (vals v) 58)) r n
  simpa using this

set_option maxHeartbeats 400000 in
theorem has_any (v : List Int) (r n : Int) (hv : v.length = 16) (w : World) : Calls Tryz.prog 136 #[.agg (vals v), .agg (dotc r n)] w fun e w' => e = .returned (.bool (hasv v r n)) ∧ Below w.heap.size w w' := by
  obtain ⟨hV, hD, hB⟩ := boxedVD w v r n
  have HB : Hid (Below w.heap.size w ((w.alloc (.cells (vals v) 58)).alloc (.cells (dotc r n) 46))) := hB
  clear hB
  rcases Bool.eq_false_or_eq_true (okdot r n) with hk | hk
  · obtain ⟨h0, h1, -, -⟩ := of_decide_eq_true hk
    obtain ⟨k, rfl⟩ : ∃ k : Nat, r = (k : Int) := ⟨r.toNat, by omega⟩
    have hk16 : k < 16 := by omega
    have c0 := hD.cell0
    have c1 := hD.cell1
    have cv := hV.cell (k := k) (by omega)
    have HR : Hid (hasv v (k : Int) n = decide (n ≤ v.getD k 0)) := by show _ = _; rw [hasv, hk, Int.toNat_natCast, Bool.true_and]
    clear h0 h1
    go_enter Tryz.func136, Tryz.ntmps136
    go_wp2_with fail
    refine region_vals [5, 6, 7, 8, 9, 10, 11, 12, 13, 14, 15, 4] [.agg (dotc ((k : Int)) (n)), .bool true, .bool true, .pointer (some ⟨(w.heap.size + 1), 1, none⟩), .int .i64 (n), .pointer (some ⟨(w.heap.size + 1), 0, none⟩), .int .i64 ((k : Int)), .pointer (some ⟨w.heap.size, k, none⟩), .int .i64 ((v.getD k 0)), .bool (decide (n ≤ (v.getD k 0))), .bool (decide (n ≤ (v.getD k 0))), .bool (decide (n ≤ (v.getD k 0)))] _ (by kernel_rfl) (by kernel_rfl) (by rfl) (by decide) (by kernel_rfl) (by simp only [lay, Act.put, List.setIfInBounds_toArray, List.set_cons_zero, List.set_cons_succ, List.getD_cons_zero, List.getD_cons_succ, Nat.reduceAdd]; rfl) ⟨?_, ?_, ?_, ?_, ?_, ?_, ?_, ?_, ?_, ?_, ?_, ?_, trivial⟩ ?_
    · exact .inl ⟨rfl, fun W hb => yields_load rfl rfl (load_dot_run ((hD).below hb (hD).lt))⟩
    · exact .inl ⟨rfl, fun W hb => yields_call (vs := [.agg (dotc ((k : Int)) (n))]) (v := .bool true) rfl rfl (enters_rightdot _ _) (okcall (rightdot_any _ _ W) hk)⟩
    · exact .inl ⟨rfl, fun W hb => yields_move rfl rfl⟩
    · exact .inl ⟨rfl, fun W hb => yields_field rfl rfl (field1_run W _)⟩
    · exact .inl ⟨rfl, fun W hb => yields_load rfl rfl (load_int_run ((hb.cell (block_lt_of_cell c1)).trans c1))⟩
    · exact .inl ⟨rfl, fun W hb => yields_field rfl rfl (field0_run W _)⟩
    · exact .inl ⟨rfl, fun W hb => yields_load rfl rfl (load_int_run ((hb.cell (block_lt_of_cell c0)).trans c0))⟩
    · exact .inl ⟨rfl, fun W hb => yields_indexAddr rfl rfl rfl (run_indexAt_vec W _ k hk16)⟩
    · exact .inl ⟨rfl, fun W hb => yields_load rfl rfl (load_int_run ((hb.cell (block_lt_of_cell cv)).trans cv))⟩
    · exact .inl ⟨rfl, fun W hb => yields_bin rfl rfl rfl (eqGuard_int W) (leq_run W _ _)⟩
    · exact .inl ⟨rfl, fun W hb => yields_pick (b := true) rfl rfl rfl⟩
    · exact .inl ⟨rfl, fun W hb => yields_assign rfl rfl⟩
    intro w2 hb2
    clear c0 c1 cv hD hV
    go_wp2
    go_ret
    exact ⟨by rw [HR.out]; rfl, HB.out.trans (hb2.mono HB.out.size)⟩
  · have HR : Hid (hasv v r n = false) := by show _ = _; rw [hasv, hk, Bool.false_and]
    go_enter Tryz.func136, Tryz.ntmps136
    go_wp2_with fail
    refine region_vals [5, 6, 7, 8, 9, 10, 11, 12, 13, 14, 15, 4] [.agg (dotc (r) (n)), .bool false, .bool false, undef, undef, undef, undef, undef, undef, undef, .bool false, .bool false] _ (by kernel_rfl) (by kernel_rfl) (by rfl) (by decide) (by kernel_rfl) (by simp only [lay, Act.put, List.setIfInBounds_toArray, List.set_cons_zero, List.set_cons_succ, List.getD_cons_zero, List.getD_cons_succ, Nat.reduceAdd]; rfl) ⟨?_, ?_, ?_, ?_, ?_, ?_, ?_, ?_, ?_, ?_, ?_, ?_, trivial⟩ ?_
    · exact .inl ⟨rfl, fun W hb => yields_load rfl rfl (load_dot_run ((hD).below hb (hD).lt))⟩
    · exact .inl ⟨rfl, fun W hb => yields_call (vs := [.agg (dotc (r) (n))]) (v := .bool false) rfl rfl (enters_rightdot _ _) (okcall (rightdot_any _ _ W) hk)⟩
    · exact .inl ⟨rfl, fun W hb => yields_move rfl rfl⟩
    · exact .inr ⟨rfl, rfl⟩
    · exact .inr ⟨rfl, rfl⟩
    · exact .inr ⟨rfl, rfl⟩
    · exact .inr ⟨rfl, rfl⟩
    · exact .inr ⟨rfl, rfl⟩
    · exact .inr ⟨rfl, rfl⟩
    · exact .inr ⟨rfl, rfl⟩
    · exact .inl ⟨rfl, fun W hb => yields_pick (b := false) rfl rfl rfl⟩
    · exact .inl ⟨rfl, fun W hb => yields_assign rfl rfl⟩
    intro w2 hb2
    clear hD hV
    go_wp2
    go_ret
    exact ⟨by rw [HR.out]; rfl, HB.out.trans (hb2.mono HB.out.size)⟩

set_option maxHeartbeats 400000 in
theorem rhas_any (v : List Int) (r n : Int) (hv : v.length = 16) (w : World) : Calls Tryz.prog 80 #[.agg (vals v), .agg (dotc r n)] w fun e w' => e = .returned (.bool (hasv v r n)) ∧ Below w.heap.size w w' := by
  obtain ⟨hV, hD, hB⟩ := boxedVD w v r n
  have HB : Hid (Below w.heap.size w ((w.alloc (.cells (vals v) 58)).alloc (.cells (dotc r n) 46))) := hB
  clear hB
  rcases Bool.eq_false_or_eq_true (okdot r n) with hk | hk
  · obtain ⟨h0, h1, -, -⟩ := of_decide_eq_true hk
    obtain ⟨k, rfl⟩ : ∃ k : Nat, r = (k : Int) := ⟨r.toNat, by omega⟩
    have hk16 : k < 16 := by omega
    have c0 := hD.cell0
    have c1 := hD.cell1
    have cv := hV.cell (k := k) (by omega)
    have HR : Hid (hasv v (k : Int) n = decide (n ≤ v.getD k 0)) := by show _ = _; rw [hasv, hk, Int.toNat_natCast, Bool.true_and]
    clear h0 h1
    go_enter Tryz.func80, Tryz.ntmps80
    go_wp2_with fail
    refine region_vals [5, 6, 7, 8, 9, 10, 11, 12, 13, 14, 15, 4] [.agg (dotc ((k : Int)) (n)), .bool true, .bool true, .pointer (some ⟨(w.heap.size + 1), 1, none⟩), .int .i64 (n), .pointer (some ⟨(w.heap.size + 1), 0, none⟩), .int .i64 ((k : Int)), .pointer (some ⟨w.heap.size, k, none⟩), .int .i64 ((v.getD k 0)), .bool (decide (n ≤ (v.getD k 0))), .bool (decide (n ≤ (v.getD k 0))), .bool (decide (n ≤ (v.getD k 0)))] _ (by kernel_rfl) (by kernel_rfl) (by rfl) (by decide) (by kernel_rfl) (by simp only [lay, Act.put, List.setIfInBounds_toArray, List.set_cons_zero, List.set_cons_succ, List.getD_cons_zero, List.getD_cons_succ, Nat.reduceAdd]; rfl) ⟨?_, ?_, ?_, ?_, ?_, ?_, ?_, ?_, ?_, ?_, ?_, ?_, trivial⟩ ?_
    · exact .inl ⟨rfl, fun W hb => yields_load rfl rfl (load_dot_run ((hD).below hb (hD).lt))⟩
    · exact .inl ⟨rfl, fun W hb => yields_call (vs := [.agg (dotc ((k : Int)) (n))]) (v := .bool true) rfl rfl (enters_rdot _ _) (okcall (rdot_any _ _ W) hk)⟩
    · exact .inl ⟨rfl, fun W hb => yields_move rfl rfl⟩
    · exact .inl ⟨rfl, fun W hb => yields_field rfl rfl (field1_run W _)⟩
    · exact .inl ⟨rfl, fun W hb => yields_load rfl rfl (load_int_run ((hb.cell (block_lt_of_cell c1)).trans c1))⟩
    · exact .inl ⟨rfl, fun W hb => yields_field rfl rfl (field0_run W _)⟩
    · exact .inl ⟨rfl, fun W hb => yields_load rfl rfl (load_int_run ((hb.cell (block_lt_of_cell c0)).trans c0))⟩
    · exact .inl ⟨rfl, fun W hb => yields_indexAddr rfl rfl rfl (run_indexAt_vec W _ k hk16)⟩
    · exact .inl ⟨rfl, fun W hb => yields_load rfl rfl (load_int_run ((hb.cell (block_lt_of_cell cv)).trans cv))⟩
    · exact .inl ⟨rfl, fun W hb => yields_bin rfl rfl rfl (eqGuard_int W) (leq_run W _ _)⟩
    · exact .inl ⟨rfl, fun W hb => yields_pick (b := true) rfl rfl rfl⟩
    · exact .inl ⟨rfl, fun W hb => yields_assign rfl rfl⟩
    intro w2 hb2
    clear c0 c1 cv hD hV
    go_wp2
    go_ret
    exact ⟨by rw [HR.out]; rfl, HB.out.trans (hb2.mono HB.out.size)⟩
  · have HR : Hid (hasv v r n = false) := by show _ = _; rw [hasv, hk, Bool.false_and]
    go_enter Tryz.func80, Tryz.ntmps80
    go_wp2_with fail
    refine region_vals [5, 6, 7, 8, 9, 10, 11, 12, 13, 14, 15, 4] [.agg (dotc (r) (n)), .bool false, .bool false, undef, undef, undef, undef, undef, undef, undef, .bool false, .bool false] _ (by kernel_rfl) (by kernel_rfl) (by rfl) (by decide) (by kernel_rfl) (by simp only [lay, Act.put, List.setIfInBounds_toArray, List.set_cons_zero, List.set_cons_succ, List.getD_cons_zero, List.getD_cons_succ, Nat.reduceAdd]; rfl) ⟨?_, ?_, ?_, ?_, ?_, ?_, ?_, ?_, ?_, ?_, ?_, ?_, trivial⟩ ?_
    · exact .inl ⟨rfl, fun W hb => yields_load rfl rfl (load_dot_run ((hD).below hb (hD).lt))⟩
    · exact .inl ⟨rfl, fun W hb => yields_call (vs := [.agg (dotc (r) (n))]) (v := .bool false) rfl rfl (enters_rdot _ _) (okcall (rdot_any _ _ W) hk)⟩
    · exact .inl ⟨rfl, fun W hb => yields_move rfl rfl⟩
    · exact .inr ⟨rfl, rfl⟩
    · exact .inr ⟨rfl, rfl⟩
    · exact .inr ⟨rfl, rfl⟩
    · exact .inr ⟨rfl, rfl⟩
    · exact .inr ⟨rfl, rfl⟩
    · exact .inr ⟨rfl, rfl⟩
    · exact .inr ⟨rfl, rfl⟩
    · exact .inl ⟨rfl, fun W hb => yields_pick (b := false) rfl rfl rfl⟩
    · exact .inl ⟨rfl, fun W hb => yields_assign rfl rfl⟩
    intro w2 hb2
    clear hD hV
    go_wp2
    go_ret
    exact ⟨by rw [HR.out]; rfl, HB.out.trans (hb2.mono HB.out.size)⟩
end Go.Proofs.YtmlfekbmbnfkjaaGreatDoor

