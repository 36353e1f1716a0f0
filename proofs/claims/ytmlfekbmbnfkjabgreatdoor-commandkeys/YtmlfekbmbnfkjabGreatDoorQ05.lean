/-
  Laws for single operations: a vector or a dot is read, two are compared.
-/
import Derived.Test.YtmlfekbmbnfkjabGreatDoorQ03
import Derived.Test.YtmlfekbmbnfkjabGreatDoorQ04
import Derived.BigQuiet
namespace Go.Proofs.YtmlfekbmbnfkjabGreatDoor
set_option maxRecDepth 100000
open Go.RowKit

theorem load_dot_run {w : World} {g : Nat} {r n : Int} (h : LiesD w g r n) : (loadVar 32 ⟨g, 0, none⟩).run Tryz.prog w = .ok (.agg (dotc r n)) w :=
  run_loadVar_row w g 32 32 _ (0, 0) _ h Tryz.underlying32 rfl (sizeD r n)
theorem eqGuard_int (w : World) {op : BinOp} {x y : Operand} {a b : Int} : (eqGuard op 3 x y (.int .i64 a) (.int .i64 b)).run Tryz.prog w = .ok () w := by
  cases op <;> simp [eqGuard]
theorem load_int_run {w : World} {ad : Addr} {v : Value} (h : w.cell? ad = some v) : (loadVar 3 ad).run Tryz.prog w = .ok v w := by
  have h3 : Tryz.prog.underlying 3 = some (.int .i64) := by kernel_rfl
  simp [loadVar, isAgg, run_underlying h3, Sem.run_bind, h]
theorem field0_run (w : World) (g : Nat) : (Instr.fieldAt 32 (.pointer (some ⟨g, 0, none⟩)) 0).run Tryz.prog w = .ok (.pointer (some ⟨g, 0, none⟩)) w := by kernel_rfl
theorem field1_run (w : World) (g : Nat) : (Instr.fieldAt 32 (.pointer (some ⟨g, 0, none⟩)) 1).run Tryz.prog w = .ok (.pointer (some ⟨g, 1, none⟩)) w := by kernel_rfl
theorem leq_run (w : World) (a b : Int) : (binOp .leq 3 (.int .i64 a) (.int .i64 b)).run Tryz.prog w = .ok (.bool (decide (a ≤ b))) w := by rw [binOp_leq]; rfl
theorem enters_with (xs : Array Value) (w : World) : (callFunc 32 xs).run Tryz.prog w = .ok (.enter 32 xs) w := enters Tryz.func32 (by kernel_rfl) (by kernel_rfl) xs w
theorem enters_rightdot (xs : Array Value) (w : World) : (callFunc 52 xs).run Tryz.prog w = .ok (.enter 52 xs) w := enters Tryz.func52 (by kernel_rfl) (by kernel_rfl) xs w
/-- A whole vector, a dot is read by a guarded operation whose guard holds. -/
theorem load_vec_w {ops : Array Oper} {rest : List Oper} {o : Oper} {a : Act} {w : World} {Q : Exit → Act → World → Prop} {x : Operand} {g : Nat} {l : List Int} (hw : Region.wanted o (yielded ops a.tmps) = true) (ho : o.op = .load 41 x)
    (hx : a.eval x = .pointer (some ⟨g, 0, none⟩)) (hg : Lies w g l) (hl : l.length = 16)
    (h : wpList Tryz.prog ops Q rest (a.put o.dst (.agg (vals l))) w) : wpList Tryz.prog ops Q (o :: rest) a w :=
  wpList_step fun K hK => by
    rw [if_pos hw]
    exact wp_load_row 41 x ho g hx 41 _ (0, 0) _ hg Tryz.underlying41 rfl (size16 l hl) (hK _ _ h)
theorem load_dot_w {ops : Array Oper} {rest : List Oper} {o : Oper} {a : Act} {w : World} {Q : Exit → Act → World → Prop} {x : Operand} {g : Nat} {r n : Int} (hw : Region.wanted o (yielded ops a.tmps) = true) (ho : o.op = .load 32 x)
    (hx : a.eval x = .pointer (some ⟨g, 0, none⟩)) (hg : LiesD w g r n)
    (h : wpList Tryz.prog ops Q rest (a.put o.dst (.agg (dotc r n))) w) : wpList Tryz.prog ops Q (o :: rest) a w :=
  wpList_step fun K hK => by
    rw [if_pos hw]
    exact wp_load_row 32 x ho g hx 32 _ (0, 0) _ hg Tryz.underlying32 rfl (sizeD r n) (hK _ _ h)

theorem Below.drewN {B : Nat} {a w : World} (h : Below B a w) (n : Nat) : Below B a (w.drewN n) := ⟨h.os, h.tape, h.output, h.size, h.block⟩
theorem Lies.drewN {w : World} {g : Nat} {l : List Int} (h : Lies w g l) (n : Nat) : Lies (w.drewN n) g l := h
theorem LiesD.drewN {w : World} {g : Nat} {r m : Int} (h : LiesD w g r m) (n : Nat) : LiesD (w.drewN n) g r m := h

end Go.Proofs.YtmlfekbmbnfkjabGreatDoor

/-
  What vec.isReplica, vec.rightDot and the reference's Dot come to: whether a number is a replica's, whether a dot can be.
-/
namespace Go.Proofs.YtmlfekbmbnfkjabGreatDoor
set_option maxRecDepth 100000
open Go.RowKit

def isrep (r : Int) : Bool := decide (0 ≤ r ∧ r < 16)
/-- Can a dot be? -/
def okdot (r n : Int) : Bool := decide (0 ≤ r ∧ r < 16 ∧ 1 ≤ n ∧ n ≤ 1048576)

set_option maxHeartbeats 400000 in
theorem isreplica_any (r : Int) (w : World) : Calls Tryz.prog 96 #[.int .i64 r] w fun e w' => e = .returned (.bool (isrep r)) ∧ w' = w := by
  by_cases h0 : 0 ≤ r
  · by_cases h1 : r < 16
    · go_enter Tryz.func96, Tryz.ntmps96
      go_wp2
      go_ret
      exact ⟨by rw [isrep, decide_eq_true ⟨h0, h1⟩]; rfl, rfl⟩
    · go_enter Tryz.func96, Tryz.ntmps96
      go_wp2
      go_ret
      exact ⟨by rw [isrep, decide_eq_false (by omega)]; rfl, rfl⟩
  · go_enter Tryz.func96, Tryz.ntmps96
    go_wp2
    go_ret
    exact ⟨by rw [isrep, decide_eq_false (by omega)]; rfl, rfl⟩

set_option maxHeartbeats 400000 in
theorem rightdot_any (r n : Int) (w : World) : Calls Tryz.prog 52 #[.agg (dotc r n)] w fun e w' => e = .returned (.bool (okdot r n)) ∧ Below w.heap.size w w' := by
  have hD := liesD_new w r n
  have c0 := hD.cell0
  have c1 := hD.cell1
  have hB : Hid (Below w.heap.size w (w.alloc (.cells (dotc r n) 32))) := (Below.refl _ _).alloc (Nat.le_refl _) _
  clear hD
  by_cases h0 : 0 ≤ r ∧ r < 16
  · have hr : isrep r = true := decide_eq_true h0
    by_cases h1 : 1 ≤ n
    · by_cases h2 : n ≤ 1048576
      · have Hk : Hid (okdot r n = true) := decide_eq_true ⟨h0.1, h0.2, h1, h2⟩
        go_enter Tryz.func52, Tryz.ntmps52
        go_wp2_with fail
        refine (isreplica_any r _).mono ?_
        rintro e w1 ⟨rfl, hw⟩
        obtain rfl := hw.symm
        rw [hr]
        go_wp2
        go_ret
        exact ⟨by rw [Hk.out]; first | rfl | (show Ending.returned (.bool (decide _)) = _; rw [decide_eq_false (by omega)]), hB.out⟩
      · have Hk : Hid (okdot r n = false) := decide_eq_false (fun h => h2 h.2.2.2)
        go_enter Tryz.func52, Tryz.ntmps52
        go_wp2_with fail
        refine (isreplica_any r _).mono ?_
        rintro e w1 ⟨rfl, hw⟩
        obtain rfl := hw.symm
        rw [hr]
        go_wp2
        go_ret
        exact ⟨by rw [Hk.out]; first | rfl | (show Ending.returned (.bool (decide _)) = _; rw [decide_eq_false (by omega)]), hB.out⟩
    · have Hk : Hid (okdot r n = false) := decide_eq_false (fun h => h1 h.2.2.1)
      go_enter Tryz.func52, Tryz.ntmps52
      go_wp2_with fail
      refine (isreplica_any r _).mono ?_
      rintro e w1 ⟨rfl, hw⟩
      obtain rfl := hw.symm
      rw [hr]
      go_wp2
      go_ret
      exact ⟨by rw [Hk.out]; first | rfl | (show Ending.returned (.bool (decide _)) = _; rw [decide_eq_false (by omega)]), hB.out⟩
  · have hr : isrep r = false := decide_eq_false h0
    have Hk : Hid (okdot r n = false) := decide_eq_false (fun h => h0 ⟨h.1, h.2.1⟩)
    go_enter Tryz.func52, Tryz.ntmps52
    go_wp2_with fail
    refine (isreplica_any r _).mono ?_
    rintro e w1 ⟨rfl, hw⟩
    obtain rfl := hw.symm
    rw [hr]
    go_wp2
    go_ret
    exact ⟨by rw [Hk.out]; first | rfl | (show Ending.returned (.bool (decide _)) = _; rw [decide_eq_false (by omega)]), hB.out⟩

end Go.Proofs.YtmlfekbmbnfkjabGreatDoor

/-
  What vec.Has and the reference's Has come to: whether the dot can be, and its number is at most that of its replica.
-/
namespace Go.Proofs.YtmlfekbmbnfkjabGreatDoor
set_option maxRecDepth 100000
open Go.RowKit

/-- Has the vector the dot? -/
def hasv (v : List Int) (r n : Int) : Bool := okdot r n && decide (n ≤ v.getD r.toNat 0)

theorem okcall {f : FuncId} {as' : Array Value} {W : World} {b c : Bool} (h : Calls Tryz.prog f as' W fun e w' => e = .returned (.bool b) ∧ Below W.heap.size W w') (hb : b = c) :
    Calls Tryz.prog f as' W fun e w' => e = .returned (.bool c) ∧ Below W.heap.size W w' := by rw [← hb]; exact h

theorem boxedVD (w : World) (v : List Int) (r n : Int) :
    Lies ((w.alloc (.cells (vals v) 41)).alloc (.cells (dotc r n) 32)) w.heap.size v ∧
    LiesD ((w.alloc (.cells (vals v) 41)).alloc (.cells (dotc r n) 32)) (w.heap.size + 1) r n ∧
    Below w.heap.size w ((w.alloc (.cells (vals v) 41)).alloc (.cells (dotc r n) 32)) := by
  refine ⟨(lies_new w v).alloc _, ?_, ((Below.refl _ _).alloc (Nat.le_refl _) _).alloc (by simp) _⟩
  have := liesD_new (w.alloc (.cells (vals v) 41)) r n
  simpa using this

set_option maxHeartbeats 400000 in
theorem has_any (v : List Int) (r n : Int) (hv : v.length = 16) (w : World) : Calls Tryz.prog 50 #[.agg (vals v), .agg (dotc r n)] w fun e w' => e = .returned (.bool (hasv v r n)) ∧ Below w.heap.size w w' := by
  obtain ⟨hV, hD, hB⟩ := boxedVD w v r n
  have HB : Hid (Below w.heap.size w ((w.alloc (.cells (vals v) 41)).alloc (.cells (dotc r n) 32))) := hB
  clear hB
  rcases Bool.eq_false_or_eq_true (okdot r n) with hk | hk
  · obtain ⟨h0, h1, -, -⟩ := of_decide_eq_true hk
    obtain ⟨k, rfl⟩ : ∃ k : Nat, r = (k : Int) := ⟨r.toNat, by omega⟩
    have hk16 : k < 16 := by omega
    have c0 := hD.cell0
    have c1 := hD.cell1
    have cv := hV.cell (k := k) (by omega)
    have HR : Hid (hasv v (k : Int) n = decide (n ≤ v.getD k 0)) := by show _ = _; rw [hasv, hk, Int.toNat_natCast, Bool.true_and]
    clear h0 h1
    go_enter Tryz.func50, Tryz.ntmps50
    go_wp2_with fail
    refine region_vals [5, 6, 7, 8, 9, 10, 11, 12, 13, 14, 15, 4] [.agg (dotc ((k : Int)) (n)), .bool true, .bool true, .pointer (some ⟨(w.heap.size + 1), 1, none⟩), .int .i64 (n), .pointer (some ⟨(w.heap.size + 1), 0, none⟩), .int .i64 ((k : Int)), .pointer (some ⟨w.heap.size, k, none⟩), .int .i64 ((v.getD k 0)), .bool (decide (n ≤ (v.getD k 0))), .bool (decide (n ≤ (v.getD k 0))), .bool (decide (n ≤ (v.getD k 0)))] _ (by kernel_rfl) (by kernel_rfl) (by rfl) (by decide) (by kernel_rfl) (by simp only [lay, Act.put, List.setIfInBounds_toArray, List.set_cons_zero, List.set_cons_succ, List.getD_cons_zero, List.getD_cons_succ, Nat.reduceAdd]; rfl) ⟨?_, ?_, ?_, ?_, ?_, ?_, ?_, ?_, ?_, ?_, ?_, ?_, trivial⟩ ?_
    · exact .inl ⟨rfl, fun W hb => yields_load rfl rfl (load_dot_run ((hD).below hb (hD).lt))⟩
    · exact .inl ⟨rfl, fun W hb => yields_call (vs := [.agg (dotc ((k : Int)) (n))]) (v := .bool true) rfl rfl (enters_rightdot _ _) (okcall (rightdot_any _ _ W) hk)⟩
    · exact .inl ⟨rfl, fun W hb => yields_move rfl rfl⟩
    · exact .inl ⟨rfl, fun W hb => yields_field rfl rfl (field1_run W _)⟩
    · exact .inl ⟨rfl, fun W hb => yields_load rfl rfl (load_int_run ((hb.cell (block_lt_of_cell c1)).trans c1))⟩
    · exact .inl ⟨rfl, fun W hb => yields_field rfl rfl (field0_run W _)⟩
    · exact .inl ⟨rfl, fun W hb => yields_load rfl rfl (load_int_run ((hb.cell (block_lt_of_cell c0)).trans c0))⟩
    · exact .inl ⟨rfl, fun W hb => yields_indexAddr rfl rfl rfl (run_indexAt_vec W _ k hk16)⟩
    · exact .inl ⟨rfl, fun W hb => yields_load rfl rfl (load_int_run ((hb.cell (block_lt_of_cell cv)).trans cv))⟩
    · exact .inl ⟨rfl, fun W hb => yields_bin rfl rfl rfl (eqGuard_int W) (leq_run W _ _)⟩
    · exact .inl ⟨rfl, fun W hb => yields_pick (b := true) rfl rfl rfl⟩
    · exact .inl ⟨rfl, fun W hb => yields_assign rfl rfl⟩
    intro w2 hb2
    clear c0 c1 cv hD hV
    go_wp2
    go_ret
    exact ⟨by rw [HR.out]; rfl, HB.out.trans (hb2.mono HB.out.size)⟩
  · have HR : Hid (hasv v r n = false) := by show _ = _; rw [hasv, hk, Bool.false_and]
    go_enter Tryz.func50, Tryz.ntmps50
    go_wp2_with fail
    refine region_vals [5, 6, 7, 8, 9, 10, 11, 12, 13, 14, 15, 4] [.agg (dotc (r) (n)), .bool false, .bool false, undef, undef, undef, undef, undef, undef, undef, .bool false, .bool false] _ (by kernel_rfl) (by kernel_rfl) (by rfl) (by decide) (by kernel_rfl) (by simp only [lay, Act.put, List.setIfInBounds_toArray, List.set_cons_zero, List.set_cons_succ, List.getD_cons_zero, List.getD_cons_succ, Nat.reduceAdd]; rfl) ⟨?_, ?_, ?_, ?_, ?_, ?_, ?_, ?_, ?_, ?_, ?_, ?_, trivial⟩ ?_
    · exact .inl ⟨rfl, fun W hb => yields_load rfl rfl (load_dot_run ((hD).below hb (hD).lt))⟩
    · exact .inl ⟨rfl, fun W hb => yields_call (vs := [.agg (dotc (r) (n))]) (v := .bool false) rfl rfl (enters_rightdot _ _) (okcall (rightdot_any _ _ W) hk)⟩
    · exact .inl ⟨rfl, fun W hb => yields_move rfl rfl⟩
    · exact .inr ⟨rfl, rfl⟩
    · exact .inr ⟨rfl, rfl⟩
    · exact .inr ⟨rfl, rfl⟩
    · exact .inr ⟨rfl, rfl⟩
    · exact .inr ⟨rfl, rfl⟩
    · exact .inr ⟨rfl, rfl⟩
    · exact .inr ⟨rfl, rfl⟩
    · exact .inl ⟨rfl, fun W hb => yields_pick (b := false) rfl rfl rfl⟩
    · exact .inl ⟨rfl, fun W hb => yields_assign rfl rfl⟩
    intro w2 hb2
    clear hD hV
    go_wp2
    go_ret
    exact ⟨by rw [HR.out]; rfl, HB.out.trans (hb2.mono HB.out.size)⟩

end Go.Proofs.YtmlfekbmbnfkjabGreatDoor

/-
  What vec.Right comes to: whether each number is from 0 to 1048576; and the reference's.
-/
namespace Go.Proofs.YtmlfekbmbnfkjabGreatDoor
set_option maxRecDepth 100000
open Go.RowKit

/-- Can a vector be? -/
def fine (v : List Int) : Bool := v.all fun x => decide (0 ≤ x ∧ x ≤ 1048576)
theorem fine_step (v : List Int) (k : Nat) (hv : v.length = 16) (hk : k < 16) (h : fine (v.take k) = true) (h0 : 0 ≤ v.getD k 0) (h1 : v.getD k 0 ≤ 1048576) : fine (v.take (k + 1)) = true := by
  have hkl : k < v.length := by omega
  have e : v.getD k 0 = v[k] := by simp [List.getD, hkl]
  rw [e] at h0 h1
  rw [fine, List.take_succ_eq_append_getElem hkl, List.all_append]
  rw [fine] at h
  rw [h, Bool.true_and, List.all_cons, List.all_nil, Bool.and_true]
  exact decide_eq_true ⟨h0, h1⟩
theorem fine_not (v : List Int) (k : Nat) (hv : v.length = 16) (hk : k < 16) (h : v.getD k 0 < 0 ∨ 1048576 < v.getD k 0) : fine v = false := by
  have hkl : k < v.length := by omega
  have e : v.getD k 0 = v[k] := by simp [List.getD, hkl]
  rw [e] at h
  rw [fine, List.all_eq_false]
  exact ⟨v[k], List.getElem_mem hkl, by simp; omega⟩
theorem fine_get (v : List Int) (k : Nat) (hv : v.length = 16) (hk : k < 16) (h : fine v = true) : 0 ≤ v.getD k 0 ∧ v.getD k 0 ≤ 1048576 := by
  have hkl : k < v.length := by omega
  have e : v.getD k 0 = v[k] := by simp [List.getD, hkl]
  rw [fine, List.all_eq_true] at h
  have := h v[k] (List.getElem_mem hkl)
  rw [e]
  simpa using this

set_option maxHeartbeats 400000 in
theorem right_any (v : List Int) (hv : v.length = 16) (w : World) :
    Calls Tryz.prog 51 #[.agg (vals v)] w fun e w' => e = .returned (.bool (fine v)) ∧ Below w.heap.size w w' := by
  have hA := lies_new w v
  have hB : Hid (Below w.heap.size w (w.alloc (.cells (vals v) 41))) := (Below.refl _ _).alloc (Nat.le_refl _) _
  go_enter Tryz.func51, Tryz.ntmps51
  go_wp2_with (refine load_vec rfl rfl rfl hA hv ?_)
  go_loop [6] (fun i => ∃ k : Nat, k ≤ 16 ∧ i = .int .i64 (k : Int) ∧ fine (v.take k) = true) (fun i => 16 - (intOf i).toNat)
  case atStart => exact ⟨0, by omega, rfl, rfl⟩
  case round =>
    obtain ⟨k, hk, rfl, hf⟩ := hrel
    by_cases h : k < 16
    · have hi := run_index_vec (w.alloc (.cells (vals v) 41)) v k hv h
      have Hs : Hid _ := fine_step v k hv h hf
      have Hn : Hid _ := fine_not v k hv h
      clear hf
      generalize v.getD k 0 = x at *
      by_cases h0 : x < 0
      · go_wp2
        go_ret
        rw [Hn.out (.inl h0)]
        exact ⟨rfl, hB.out⟩
      · by_cases h1 : 1048576 < x
        · go_wp2
          go_ret
          rw [Hn.out (.inr h1)]
          exact ⟨rfl, hB.out⟩
        · go_wp2
          go_round
          case rel => exact ⟨k + 1, by omega, by go_num, Hs.out (by omega) (by omega)⟩
          case measure => simp [intOf]; omega
    · obtain rfl : k = 16 := by omega
      rw [List.take_of_length_le (by omega)] at hf
      have Hf : Hid (fine v = true) := hf
      clear hf
      go_wp2
      go_ret
      rw [Hf.out]
      exact ⟨rfl, hB.out⟩

end Go.Proofs.YtmlfekbmbnfkjabGreatDoor

/-
  What vec.With and the reference's With come to.
-/
namespace Go.Proofs.YtmlfekbmbnfkjabGreatDoor
set_option maxRecDepth 100000
open Go.RowKit

/-- A vector and one dot more, and the error. -/
def withV (v : List Int) (r n : Int) : List Int := if fine v && okdot r n && decide (n = v.getD r.toNat 0 + 1) then v.set r.toNat n else zeros
def withE (v : List Int) (r n : Int) : Int := if fine v && okdot r n then (if n = v.getD r.toNat 0 + 1 then 0 else 11) else 1
theorem withV_length (v : List Int) (r n : Int) (hv : v.length = 16) : (withV v r n).length = 16 := by
  unfold withV
  split
  · rw [List.length_set, hv]
  · rfl

theorem boxedVDZ (w : World) (v : List Int) (r n : Int) :
    Lies (((w.alloc (.cells (vals v) 41)).alloc (.cells (dotc r n) 32)).alloc (.cells (vals zeros) 41)) w.heap.size v ∧
    LiesD (((w.alloc (.cells (vals v) 41)).alloc (.cells (dotc r n) 32)).alloc (.cells (vals zeros) 41)) (w.heap.size + 1) r n ∧
    Lies (((w.alloc (.cells (vals v) 41)).alloc (.cells (dotc r n) 32)).alloc (.cells (vals zeros) 41)) (w.heap.size + 1 + 1) zeros ∧
    Below w.heap.size w (((w.alloc (.cells (vals v) 41)).alloc (.cells (dotc r n) 32)).alloc (.cells (vals zeros) 41)) := by
  refine ⟨((lies_new w v).alloc _).alloc _, ?_, ?_, (((Below.refl _ _).alloc (Nat.le_refl _) _).alloc (by simp) _).alloc (by simp; omega) _⟩
  · have := (liesD_new (w.alloc (.cells (vals v) 41)) r n).alloc (.cells (vals zeros) 41)
    simpa using this
  · have := lies_new ((w.alloc (.cells (vals v) 41)).alloc (.cells (dotc r n) 32)) zeros
    simpa using this

set_option maxHeartbeats 1000000 in
theorem with_any (v : List Int) (r n : Int) (hv : v.length = 16) (w : World) :
    Calls Tryz.prog 32 #[.agg (vals v), .agg (dotc r n)] w fun e w' => e = .returned (.tuple #[.agg (vals (withV v r n)), .int .i64 (withE v r n)]) ∧ Below w.heap.size w w' := by
  obtain ⟨hV, hD, hZ, hb0⟩ := boxedVDZ w v r n
  have H0 : Hid (Below w.heap.size w (((w.alloc (.cells (vals v) 41)).alloc (.cells (dotc r n) 32)).alloc (.cells (vals zeros) 41))) := hb0
  clear hb0
  rcases Bool.eq_false_or_eq_true (fine v) with hf | hf
  · rcases Bool.eq_false_or_eq_true (okdot r n) with hk | hk
    · obtain ⟨r0, r1, n0, n1⟩ := of_decide_eq_true hk
      obtain ⟨k, rfl⟩ : ∃ k : Nat, r = (k : Int) := ⟨r.toNat, by omega⟩
      have hk16 : k < 16 := by omega
      obtain ⟨f0, f1⟩ := fine_get v k hv hk16 hf
      by_cases hm : n = v.getD k 0 + 1
      · have e1 : withV v (k : Int) n = v.set k n := by rw [withV, Int.toNat_natCast, hf, hk, decide_eq_true hm]; rfl
        have e2 : withE v (k : Int) n = 0 := by rw [withE, Int.toNat_natCast, if_pos hm, hf, hk]; rfl
        rw [e1, e2]
        clear e1 e2
        obtain ⟨x, Hx⟩ : ∃ x, Hid (v.getD k 0 = x) := ⟨_, rfl⟩
        have hx := Hx.out
        rw [hx] at hm f0 f1
        clear hx
        have Hm : Hid (n = x + 1) := hm
        clear hm
        go_enter Tryz.func32, Tryz.ntmps32
        go_wp2_with (refine load_vec rfl rfl rfl hV hv ?_)
        refine (right_any v hv _).mono ?_
        rintro e w1 ⟨rfl, hb1⟩
        have hV1 := hV.below hb1 hV.lt
        have hD1 := hD.below hb1 hD.lt
        have hZ1 := hZ.below hb1 hZ.lt
        have H1 : Hid (Below w.heap.size w w1) := H0.out.trans (hb1.mono H0.out.size)
        clear hV hD hZ hb1 H0
        rw [hf]
        go_wp2_with (refine load_dot_w rfl rfl rfl hD1 ?_)
        refine (rightdot_any (k : Int) n _).mono ?_
        rintro e w2 ⟨rfl, hb2⟩
        have hV2 := hV1.below hb2 hV1.lt
        have hD2 := hD1.below hb2 hD1.lt
        have hZ2 := hZ1.below hb2 hZ1.lt
        have H2 : Hid (Below w.heap.size w w2) := H1.out.trans (hb2.mono H1.out.size)
        clear hV1 hD1 hZ1 hb2 H1
        rw [hk]
        have hc := hV2.cell (k := k) (by omega)
        rw [Hx.out] at hc
        have c0 := hD2.cell0
        have c1 := hD2.cell1
        have hfz := hV2.frozen (k := k)
        have hia := fun (W : World) (g : Nat) => run_indexAt_vec W g k hk16
        have hm : n = x + 1 := Hm.out
        have hVs : Hid _ := fun q : Nat => (hV2.drewN q).set (k := k) n
        have hZs : Hid _ := fun q : Nat => (hZ2.drewN q).other (ad := ⟨w.heap.size, k, none⟩) (.int .i64 n) (by simp; omega)
        clear hV2 hD2 hZ2
        go_wp2_with fail
        go_quiet (fail)
        clear hm
        go_wp2_with (first | refine load_vec rfl rfl rfl (hVs.out _) (by rw [List.length_set]; exact hv) ?_ | refine store_vec rfl rfl rfl rfl (hZs.out _) (by rw [List.length_set]; exact hv) rfl ?_)
        exact ret_vec2 rfl rfl rfl rfl ((hZs.out _).row _) (by rw [List.length_set]; exact hv) ⟨rfl, below_setRow ((Below.drewN H2.out _).setCell (Nat.le_refl _) _) (by omega) _⟩
      · have e1 : withV v (k : Int) n = zeros := by rw [withV, Int.toNat_natCast, hf, hk, decide_eq_false hm]; rfl
        have e2 : withE v (k : Int) n = 11 := by rw [withE, Int.toNat_natCast, if_neg hm, hf, hk]; rfl
        rw [e1, e2]
        clear e1 e2
        obtain ⟨x, Hx⟩ : ∃ x, Hid (v.getD k 0 = x) := ⟨_, rfl⟩
        have hx := Hx.out
        rw [hx] at hm f0 f1
        clear hx
        go_enter Tryz.func32, Tryz.ntmps32
        go_wp2_with (refine load_vec rfl rfl rfl hV hv ?_)
        refine (right_any v hv _).mono ?_
        rintro e w1 ⟨rfl, hb1⟩
        have hV1 := hV.below hb1 hV.lt
        have hD1 := hD.below hb1 hD.lt
        have hZ1 := hZ.below hb1 hZ.lt
        have H1 : Hid (Below w.heap.size w w1) := H0.out.trans (hb1.mono H0.out.size)
        clear hV hD hZ hb1 H0
        rw [hf]
        go_wp2_with (refine load_dot_w rfl rfl rfl hD1 ?_)
        refine (rightdot_any (k : Int) n _).mono ?_
        rintro e w2 ⟨rfl, hb2⟩
        have hV2 := hV1.below hb2 hV1.lt
        have hD2 := hD1.below hb2 hD1.lt
        have hZ2 := hZ1.below hb2 hZ1.lt
        have H2 : Hid (Below w.heap.size w w2) := H1.out.trans (hb2.mono H1.out.size)
        clear hV1 hD1 hZ1 hb2 H1
        rw [hk]
        have hc := hV2.cell (k := k) (by omega)
        rw [Hx.out] at hc
        have c0 := hD2.cell0
        have c1 := hD2.cell1
        have hia := fun (W : World) (g : Nat) => run_indexAt_vec W g k hk16
        have hZs : Hid _ := fun q : Nat => hZ2.drewN q
        clear hV2 hD2 hZ2
        go_wp2_with fail
        go_quiet (fail)
        go_wp2_with (refine store_vec (l := zeros) rfl rfl rfl rfl (hZs.out _) rfl rfl ?_)
        exact ret_vec2 rfl rfl rfl rfl ((hZs.out _).row zeros) rfl ⟨rfl, below_setRow (Below.drewN H2.out _) (by omega) _⟩
    · have e1 : withV v r n = zeros := by rw [withV, hf, hk]; rfl
      have e2 : withE v r n = 1 := by rw [withE, hf, hk]; rfl
      rw [e1, e2]
      clear e1 e2
      go_enter Tryz.func32, Tryz.ntmps32
      go_wp2_with (refine load_vec rfl rfl rfl hV hv ?_)
      refine (right_any v hv _).mono ?_
      rintro e w1 ⟨rfl, hb1⟩
      have hV1 := hV.below hb1 hV.lt
      have hD1 := hD.below hb1 hD.lt
      have hZ1 := hZ.below hb1 hZ.lt
      have H1 : Hid (Below w.heap.size w w1) := H0.out.trans (hb1.mono H0.out.size)
      clear hV hD hZ hb1 H0
      rw [hf]
      go_wp2_with (refine load_dot_w rfl rfl rfl hD1 ?_)
      refine (rightdot_any r n _).mono ?_
      rintro e w2 ⟨rfl, hb2⟩
      have hV2 := hV1.below hb2 hV1.lt
      have hD2 := hD1.below hb2 hD1.lt
      have hZ2 := hZ1.below hb2 hZ1.lt
      have H2 : Hid (Below w.heap.size w w2) := H1.out.trans (hb2.mono H1.out.size)
      clear hV1 hD1 hZ1 hb2 H1
      rw [hk]
      go_wp2_with (refine store_vec (l := zeros) rfl rfl rfl rfl hZ2 rfl rfl ?_)
      exact ret_vec2 rfl rfl rfl rfl (hZ2.row zeros) rfl ⟨rfl, below_setRow H2.out (by omega) _⟩
  · have e1 : withV v r n = zeros := by rw [withV, hf]; rfl
    have e2 : withE v r n = 1 := by rw [withE, hf]; rfl
    rw [e1, e2]
    clear e1 e2
    go_enter Tryz.func32, Tryz.ntmps32
    go_wp2_with (refine load_vec rfl rfl rfl hV hv ?_)
    refine (right_any v hv _).mono ?_
    rintro e w1 ⟨rfl, hb1⟩
    have hV1 := hV.below hb1 hV.lt
    have hD1 := hD.below hb1 hD.lt
    have hZ1 := hZ.below hb1 hZ.lt
    have H1 : Hid (Below w.heap.size w w1) := H0.out.trans (hb1.mono H0.out.size)
    clear hV hD hZ hb1 H0
    rw [hf]
    go_wp2_with (refine store_vec (l := zeros) rfl rfl rfl rfl hZ1 rfl rfl ?_)
    exact ret_vec2 rfl rfl rfl rfl (hZ1.row zeros) rfl ⟨rfl, below_setRow H1.out (by omega) _⟩

end Go.Proofs.YtmlfekbmbnfkjabGreatDoor

