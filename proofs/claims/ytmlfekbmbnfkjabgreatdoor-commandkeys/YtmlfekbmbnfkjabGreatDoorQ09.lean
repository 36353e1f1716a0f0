/-
  What typeOf, latestType, ofKey and Type come to.
-/
import Derived.Test.YtmlfekbmbnfkjabGreatDoorQ08
import Derived.Deep.CutRange
import Derived.Test.YtmlfekbmbnfkjabGreatDoorQ05
import Derived.Test.YtmlfekbmbnfkjabGreatDoorQ06
import Derived.Test.YtmlfekbmbnfkjabGreatDoorQ04
import Derived.Test.YtmlfekbmbnfkjabGreatDoorQ02
import Derived.Deep.RegionHeld3
import Derived.BigQuiet
import Derived.OwnWalk
import Derived.Laws.IdiomRangeMap
import Derived.Test.YtmlfekbmbnfkjabGreatDoorProg
import Derived.WalkKit
import Derived.LoopN
namespace Go.Proofs.YtmlfekbmbnfkjabGreatDoor
set_option maxRecDepth 100000
set_option maxRecDepth 100000
open Go.RowKit

set_option maxHeartbeats 400000 in
theorem typeof_any (k : Int) (w : World) : Calls Tryz.prog 129 #[.int .i64 k] w fun e w' => e = .returned (.int .i64 (typE k)) ∧ w' = w := by
  unfold typE
  go_enter Tryz.func129, Tryz.ntmps129
  go_wp2
  all_goals
    go_ret
    refine ⟨?_, rfl⟩
    simp_all
theorem range_at {w : World} {b k : Nat} {e : Ev} (h : w.rangeAt b k (evl e)) (hl : e.deps.length = 16) (j : Nat) : w.cell? ⟨b, k + (19 + j), none⟩ = (opl e)[j]? ∨ (opl e)[j]? = none := by
  cases hj : (opl e)[j]? with
  | none => exact .inr rfl
  | some v => exact .inl (h (19 + j) v (by rw [evl_hi hl]; exact hj))
theorem range_kind {w : World} {b k : Nat} {e : Ev} (h : w.rangeAt b k (evl e)) (hl : e.deps.length = 16) : w.cell? ⟨b, k + 19, none⟩ = some (.int .i64 e.kind) := (range_at h hl 0).resolve_right (by simp [opl])
theorem range_key {w : World} {b k : Nat} {e : Ev} (h : w.rangeAt b k (evl e)) (hl : e.deps.length = 16) : w.cell? ⟨b, k + 20, none⟩ = some (.string (sb e.key)) := (range_at h hl 1).resolve_right (by simp [opl])
theorem range_field {w : World} {b k : Nat} {e : Ev} (h : w.rangeAt b k (evl e)) (hl : e.deps.length = 16) : w.cell? ⟨b, k + 21, none⟩ = some (.string (sb e.field)) := (range_at h hl 2).resolve_right (by simp [opl])
theorem last_at {S : List Ev} {k : Nat} {u : Ev} (hl : S.length = k + 1) (h : S[k]? = some u) : lastE S = typE u.kind := by
  unfold lastE
  rw [List.getLast?_eq_getElem?, hl, Nat.add_sub_cancel, h]
set_option maxHeartbeats 400000 in
theorem latest_any (ao : Option Addr) (m c : Nat) (S : List Ev) (w : World) (hE : Evs w ao m c S) (hm : m ≤ 1000) :
    Calls Tryz.prog 88 #[.slice ao m c] w fun e w' => e = .returned (.int .i64 (lastE S)) ∧ w' = w := by
  have hlen := hE.len
  cases m with
  | zero =>
    have hS : S = [] := List.eq_nil_of_length_eq_zero hlen
    subst hS
    clear hE
    go_enter Tryz.func88, Tryz.ntmps88
    go_wp2
    go_ret
    exact ⟨rfl, rfl⟩
  | succ k =>
    obtain ⟨b, off, u, rfl, hu, hw, hr, hb⟩ := hE.at (Nat.lt_succ_self k)
    have HL : Hid (lastE S = typE u.kind) := last_at hlen hu
    have ck := range_kind hr hw.1
    have hix := fun W : World => index_ev W (b := b) (off := off) (k := k) (m := k + 1) (c := c) (Nat.lt_succ_self k)
    have hne : ¬ ((k + 1 : Nat) : Int) = 0 := by omega
    clear hE hr
    go_enter Tryz.func88, Tryz.ntmps88
    go_wp2_with fail
    refine (typeof_any u.kind w).mono ?_
    rintro e w' ⟨rfl, rfl⟩
    clear ck
    go_wp2
    go_ret
    exact ⟨by rw [HL.out]; rfl, rfl⟩

def keyTo (key : List UInt8) (E : List Ev) (i : Nat) : List Ev := ofKeyE key (E.take i)
theorem keyTo_succ {key : List UInt8} {E : List Ev} {i : Nat} {u : Ev} (h : E[i]? = some u) : keyTo key E (i + 1) = if u.key = key then keyTo key E i ++ [u] else keyTo key E i := by
  unfold keyTo ofKeyE
  rw [take_snoc h, List.filter_append, List.filter_cons, List.filter_nil]
  by_cases hk : u.key = key <;> simp [hk]
theorem keyTo_len (key : List UInt8) (E : List Ev) (i : Nat) : (keyTo key E i).length ≤ i := by
  unfold keyTo ofKeyE
  have := List.length_filter_le (fun e => decide (e.key = key)) (E.take i)
  have := List.length_take_le i E
  omega
theorem sb_beq (a b : List UInt8) : ((sb a).toList == (sb b).toList) = decide (a = b) := by
  rw [ByteArray.toList_eq, ByteArray.toList_eq, data_sb, data_sb, Bool.eq_iff_iff]
  simp
set_option maxHeartbeats 4000000 in
theorem ofkey_any (ao : Option Addr) (m c : Nat) (E : List Ev) (key : List UInt8) (w : World) (hE : Evs w ao m c E) (hm : m ≤ 1000) :
    Calls Tryz.prog 90 #[.slice ao m c, .string (sb key)] w fun e w' => ∃ v, e = .returned v ∧ Row w' w.heap.size v (ofKeyE key E) ∧ Below w.heap.size w w' := by
  have hlen := hE.len
  have HE : Aside (Evs w ao m c E) := hE
  have H0 : Aside (Row w w.heap.size (.slice none 0 0) (keyTo key E 0) ∧ Below w.heap.size w w) := ⟨row_nil _ _, Below.refl _ _⟩
  clear hE
  go_enter Tryz.func90, Tryz.ntmps90
  go_wp2
  go_loopg [5, 10] m (fun kx s5 s10 wr => ∃ i : Nat, s10 = .int .i64 i ∧ i ≤ m ∧ m - i ≤ kx ∧ Aside (Row wr w.heap.size s5 (keyTo key E i) ∧ Below w.heap.size w wr))
  case atStart => exact ⟨0, rfl, Nat.zero_le _, by omega, H0⟩
  case round =>
    clear H0
    obtain ⟨i, rfl, him, hkx, HS⟩ := hrel
    by_cases hlt : i < m
    · have hltz : (i : Int) < (m : Int) := by omega
      obtain ⟨b, off, u, rfl, hui, hu, hr, hbl⟩ := (HE.out.below HS.out.2 (Nat.le_refl _)).at hlt
      have hu16 := hu.1
      have hix := fun W : World => index_ev W (b := b) (off := off) (k := i) (m := m) (c := c) hlt
      have hsz : w.heap.size ≤ wr.heap.size := HS.out.2.size
      have hz := liesE_new wr zv
      have hE1 : LiesE ((wr.alloc (.cells (evc zv) 47)).setRow wr.heap.size (evc u)) wr.heap.size u := hz.row u
      have hB1 : Below wr.heap.size wr ((wr.alloc (.cells (evc zv) 47)).setRow wr.heap.size (evc u)) := below_setRow ((Below.refl _ _).alloc (Nat.le_refl _) _) (Nat.le_refl _) _
      have HS1 : Aside (Row ((wr.alloc (.cells (evc zv) 47)).setRow wr.heap.size (evc u)) w.heap.size u5 (keyTo key E i) ∧ Below w.heap.size w ((wr.alloc (.cells (evc zv) 47)).setRow wr.heap.size (evc u)) ∧ LiesE ((wr.alloc (.cells (evc zv) 47)).setRow wr.heap.size (evc u)) wr.heap.size u) :=
        ⟨HS.out.1.below hB1 (Nat.le_refl _), HS.out.2.trans (hB1.mono hsz), hE1⟩
      clear hB1
      go_upto_region 5 with (first | refine load_ev_mid rfl rfl rfl hr hu16 ?_ | refine store_ev rfl rfl rfl rfl hz hu16 rfl ?_)
      change Code.wp _ _ _ _ ((wr.alloc (.cells (evc zv) 47)).setRow wr.heap.size (evc u))
      clear hE1 hz hr hix HS hbl
      generalize (wr.alloc (.cells (evc zv) 47)).setRow wr.heap.size (evc u) = W at HS1 ⊢
      generalize wr.heap.size = D at *
      have hE1 := HS1.out.2.2
      have c20 := hE1.c20 hu16
      have hkb := sb_beq u.key key
      by_cases hk : u.key = key
      · have HSN : Hid (keyTo key E (i + 1) = keyTo key E i ++ [u]) := by show _ = _; rw [keyTo_succ hui, if_pos hk]
        have hRow : Row (W.alloc (.cells (evc u) 47)) w.heap.size u5 (keyTo key E i) := HS1.out.1.below ((Below.refl _ _).alloc (Nat.le_refl _) _) (Nat.le_refl _)
        have hF : Evs (W.alloc (.cells (evc u) 47)) (some ⟨W.heap.size, 0, none⟩) 1 1 [u] := evs_single _ _ u hu (liesE_new W u)
        have hll := keyTo_len key E i
        have hle : w.heap.size ≤ (W.alloc (.cells (evc u) 47)).heap.size := by have := HS1.out.2.1.size; simp; omega
        have HB3 : Hid (Below w.heap.size w (W.alloc (.cells (evc u) 47))) := HS1.out.2.1.alloc HS1.out.2.1.size _
        rw [decide_eq_true hk] at hkb
        clear HS1 hk
        go_wp2_with (first | refine load_ev rfl rfl rfl hE1 hu16 ?_ | refine build_ev1 rfl rfl rfl hu16 ?_ | refine wpList_appE rfl _ _ rfl w.heap.size _ (keyTo key E i) rfl hRow _ 1 1 [u] rfl hF (by omega) hle ?_)
        intro v4 w4 hR4 hg4 ho4
        have HS4 : Aside (Row w4 w.heap.size v4 (keyTo key E (i + 1)) ∧ Below w.heap.size w w4) := ⟨by rw [HSN.out]; exact hR4, HB3.out.grown hg4 hle hRow.own⟩
        clear hR4 hg4 ho4 hRow hF hE1 HB3 HSN hll hle hkb c20
        go_wp2
        go_roundg (m - (i + 1))
        case measure => omega
        case rel => exact ⟨i + 1, by go_num, by omega, Nat.le_refl _, HS4⟩
      · have HS4 : Aside (Row W w.heap.size u5 (keyTo key E (i + 1)) ∧ Below w.heap.size w W) := ⟨by rw [keyTo_succ hui, if_neg hk]; exact HS1.out.1, HS1.out.2.1⟩
        rw [decide_eq_false hk] at hkb
        clear HS1 hk
        go_wp2
        go_roundg (m - (i + 1))
        case measure => omega
        case rel => exact ⟨i + 1, by go_num, by omega, Nat.le_refl _, HS4⟩
    · obtain rfl : i = m := by omega
      have HR : Hid (Row wr w.heap.size u5 (ofKeyE key E) ∧ Below w.heap.size w wr) := by
        have := HS.out
        rw [keyTo, List.take_of_length_le (by omega)] at this
        exact this
      clear HS
      go_wp2
      go_ret
      exact ⟨_, rfl, HR.out⟩
theorem mem_ofKey {key : List UInt8} {l : List Ev} {e : Ev} (h : e ∈ ofKeyE key l) : e ∈ l := (List.mem_filter.1 h).1
theorem mem_all {l : List Ev} {e : Ev} (h : e ∈ allE l) : e ∈ l := (all_mem.1 h).1
theorem ofKey_len (key : List UInt8) (l : List Ev) : (ofKeyE key l).length ≤ l.length := List.length_filter_le _ _
set_option maxHeartbeats 400000 in
theorem type_any (ao : Option Addr) (m c : Nat) (E : List Ev) (key : List UInt8) (w : World) (hE : Evs w ao m c E) (hm : m ≤ 1000) :
    Calls Tryz.prog 44 #[.slice ao m c, .string (sb key)] w fun e w' => e = .returned (.int .i64 (typeE E key)) ∧ Below w.heap.size w w' := by
  have hlen := hE.len
  have hw : Hid (∀ e ∈ E, Wide e) := hE.wide
  go_enter Tryz.func44, Tryz.ntmps44
  go_wp2_with fail
  refine (ofkey_any ao m c E key w hE hm).mono ?_
  rintro e w1 ⟨v1, rfl, hR1, hb1⟩
  obtain ⟨a1, c1, hv1, hE1⟩ := hR1.evs (fun e he => hw.out e (mem_ofKey he))
  subst hv1
  have hl1 := ofKey_len key E
  have HB1 : Hid (Below w.heap.size w w1) := hb1
  clear hE hb1 hR1
  go_wp2_with fail
  refine (all_any a1 _ c1 _ w1 hE1 (by omega)).mono ?_
  rintro e w2 ⟨v2, rfl, hR2, hb2⟩
  obtain ⟨a2, c2, hv2, hE2⟩ := hR2.evs (fun e he => hw.out e (mem_ofKey (mem_all he)))
  subst hv2
  have hl2 := all_length (ofKeyE key E)
  have HB2 : Hid (Below w.heap.size w w2) := HB1.out.trans (hb2.mono HB1.out.size)
  clear hE1 hb2 hR2 HB1
  go_wp2_with fail
  refine (latest_any a2 _ c2 _ w2 hE2 (by omega)).mono ?_
  rintro e w3 ⟨rfl, hw3⟩
  obtain rfl := hw3.symm
  have HT : Hid (lastE (allE (ofKeyE key E)) = typeE E key) := by show _ = _; rw [all_key]; rfl
  clear hE2 hw3
  go_wp2
  go_ret
  exact ⟨by rw [HT.out]; rfl, HB2.out⟩
end Go.Proofs.YtmlfekbmbnfkjabGreatDoor

/-
  What few comes to (layer 16's, in the place of layer 10's).
-/
namespace Go.Proofs.YtmlfekbmbnfkjabGreatDoor
set_option maxRecDepth 100000
set_option maxRecDepth 100000
open Go.RowKit

end Go.Proofs.YtmlfekbmbnfkjabGreatDoor

/-
  Small laws for the statements' own walks.
-/
namespace Go.Proofs.YtmlfekbmbnfkjabGreatDoor
set_option maxRecDepth 100000
set_option maxRecDepth 100000
open Go.RowKit

theorem Evs.take {w : World} {ao : Option Addr} {m c : Nat} {E : List Ev} (h : Evs w ao m c E) {i : Nat} (hi : i ≤ m) : Evs w ao i c (E.take i) := by
  have hl := h.len
  have hr := h.room
  refine ⟨by rw [List.length_take]; omega, by omega, h.top, fun e => ⟨by have := (h.zero e).1; omega, (h.zero e).2⟩, fun ad ha j u hu => ?_, fun e he => h.wide e (List.mem_of_mem_take he)⟩
  refine h.cells ad ha j u ?_
  have e1 : evs E = evs (E.take i) ++ evs (E.drop i) := by rw [← evs_append, List.take_append_drop]
  rw [e1, List.getElem?_append_left ((List.getElem?_eq_some_iff.1 hu).1)]
  exact hu
theorem exec_pick {o : Oper} {a : Act} {w : World} {x y z : Operand} {b : Bool} {v v' : Value} (ho : o.op = .pick x y z) (hx : a.eval x = .bool b) (hy : a.eval y = v) (hz : a.eval z = v') : (execOp a.eval o).run Tryz.prog w = .ok (.value (if b then v else v')) w := by
  unfold execOp
  simp only [ho, hx, hy, hz]
  cases b <;> rfl
theorem exec_bin {o : Oper} {a : Act} {w : World} {x y : Operand} {op : BinOp} {t r : TypeId} {vx vy v : Value} (ho : o.op = .binOp op t x y r) (hx : a.eval x = vx) (hy : a.eval y = vy) (hg : (eqGuard op t x y vx vy).run Tryz.prog w = .ok () w) (hv : (binOp op t vx vy).run Tryz.prog w = .ok v w) : (execOp a.eval o).run Tryz.prog w = .ok (.value v) w := by
  unfold execOp; simp only [ho, hx, hy, Sem.run_bind, hg, hv, Result.andThen_ok, Sem.run_pure]
end Go.Proofs.YtmlfekbmbnfkjabGreatDoor

/-
  What the laws' unlike comes to.
-/
namespace Go.Proofs.YtmlfekbmbnfkjabGreatDoor
set_option maxRecDepth 100000
set_option maxRecDepth 100000
open Go.RowKit

end Go.Proofs.YtmlfekbmbnfkjabGreatDoor

/-
  Laws of earlier layers that name no function of theirs: single operations, events read and laid, a row's own block, dots compared.
-/
namespace Go.Proofs.YtmlfekbmbnfkjabGreatDoor
set_option maxRecDepth 100000
set_option maxRecDepth 100000
open Go.RowKit
deriving instance DecidableEq for Ev

section
variable {o : Oper} {a : Act} {w w' : World} {K : Act → World → Prop} {Q : Exit → Act → World → Prop} {x y z : Operand} {v : Value} {m n : Int}
end

theorem range_value {w : World} {b k : Nat} {e : Ev} (h : w.rangeAt b k (evl e)) (hl : e.deps.length = 16) : w.cell? ⟨b, k + 22, none⟩ = some (.string (sb e.value)) := (range_at h hl 3).resolve_right (by simp [opl])
end Go.Proofs.YtmlfekbmbnfkjabGreatDoor

/-
  Laws for single operations of regions that draw their order.
-/
namespace Go.Proofs.YtmlfekbmbnfkjabGreatDoor
set_option maxRecDepth 100000
open Go.RowKit
open Go.ChangeMaps (setBlock)

section
variable {o : Oper} {a : Act} {w w' : World} {K : Act → World → Prop} {Q : Exit → Act → World → Prop} {x y z u : Operand} {v p q r s : Value} {ty t1 t2 : TypeId} {ad : Addr}
theorem y_move (ho : o.op = .move x) (hx : a.eval x = v) : (execOp a.eval o).run Tryz.prog w = .ok (.value v) w := by
  unfold execOp; simp only [ho, hx]; rfl
theorem y_assign (ho : o.op = .assign x) (hx : a.eval x = v) : (execOp a.eval o).run Tryz.prog w = .ok (.value v) w := by
  unfold execOp; simp only [ho, hx]; rfl
theorem y_nil (ho : o.op = .nilCheck x) (hx : a.eval x = .pointer (some ad)) : (execOp a.eval o).run Tryz.prog w = .ok (.value (.pointer (some ad))) w := by
  unfold execOp; simp only [ho, hx]; rfl
theorem y_load (ho : o.op = .load ty x) (hx : a.eval x = .pointer (some ad)) (hr : (loadVar ty ad).run Tryz.prog w = .ok v w) : (execOp a.eval o).run Tryz.prog w = .ok (.value v) w := by
  unfold execOp
  simp only [ho, hx, Instr.loadAt, Instr.sureAddr, Sem.run_bind, Sem.run_pure, Result.andThen_ok, hr]
theorem y_index (ho : o.op = .indexAddr ty x y) (hx : a.eval x = p) (hy : a.eval y = q) (hv : (Instr.indexAt ty p q).run Tryz.prog w = .ok v w) : (execOp a.eval o).run Tryz.prog w = .ok (.value v) w := by
  unfold execOp; simp only [ho, hx, hy, Sem.run_bind, hv, Result.andThen_ok, Sem.run_pure]
theorem y_field {k : Nat} (ho : o.op = .fieldAddr ty x k) (hx : a.eval x = p) (hv : (Instr.fieldAt ty p k).run Tryz.prog w = .ok v w) : (execOp a.eval o).run Tryz.prog w = .ok (.value v) w := by
  unfold execOp; simp only [ho, hx, Sem.run_bind, hv, Result.andThen_ok, Sem.run_pure]
theorem y_extract {k : Nat} {vs : Array Value} (ho : o.op = .extract x k) (hx : a.eval x = .tuple vs) (hk : vs[k]? = some v) : (execOp a.eval o).run Tryz.prog w = .ok (.value v) w := by
  unfold execOp
  simp [ho, hx, Instr.extract, hk]
theorem y_b2 {i j : Nat} (ho : o.op = .build ty #[(i, x), (j, y)]) (hx : a.eval x = p) (hy : a.eval y = q) (hr : (Instr.build ty #[(i, p), (j, q)]).run Tryz.prog w = .ok v w) : (execOp a.eval o).run Tryz.prog w = .ok (.value v) w := by
  unfold execOp
  simp only [ho, List.map_toArray, List.map_cons, List.map_nil, hx, hy, Sem.run_bind, Sem.run_pure, Result.andThen_ok, hr]
theorem y_mapu (ho : o.op = .mapUpdate ty x y z) (hx : a.eval x = p) (hy : a.eval y = q) (hz : a.eval z = r) (hr : (Instr.mapUpdate ty p q r).run Tryz.prog w = .ok () w') (h : K (a.put o.dst undef) w') : o.wp Tryz.prog a w K Q := by
  unfold Oper.wp execOp
  simp only [ho, hx, hy, hz, Sem.run_bind, Sem.run_pure, Result.andThen_ok, hr]
  exact h
theorem y_del (ho : o.op = .call { callee := .builtin .delete, args := #[x, y], argTypes := #[t1, t2] }) (hx : a.eval x = p) (hy : a.eval y = q) (hr : (Builtin.delete_ #[t1, t2] o.type #[p, q]).run Tryz.prog w = .ok v w') (h : K (a.put o.dst v) w') : o.wp Tryz.prog a w K Q := by
  unfold Oper.wp execOp
  simp only [ho, resolve, invoke, builtin, Sem.run_bind, Sem.run_pure, Result.andThen_ok, List.map_toArray, List.map_cons, List.map_nil, hx, hy, hr]
  exact h
theorem y_call {f : FuncId} {xs : List Operand} {ts : Array TypeId} {vs : List Value} {R : Ending → World → Prop} (ho : o.op = .call ⟨.value (.func f), xs.toArray, ts⟩) (ha : xs.map a.eval = vs) (hr : (callFunc f vs.toArray).run Tryz.prog w = .ok (.enter f vs.toArray) w)
    (hc : Calls Tryz.prog f vs.toArray w R) (h : ∀ e w', R e w' → ∃ u, e = .returned u ∧ K (a.put o.dst u) w') : o.wp Tryz.prog a w K Q := by
  have ha' : xs.toArray.map a.eval = vs.toArray := by rw [List.map_toArray, ha]
  have h1 : (execOp a.eval o).run Tryz.prog w = .ok (.enter f vs.toArray) w := by
    unfold execOp
    simp only [ho, resolve, Act.eval, Deferred.ofValue, Sem.run_bind, Sem.run_pure, Result.andThen_ok, invoke, Array.append_empty, Array.empty_append]
    rw [show xs.toArray.map (fun x => a.eval x) = vs.toArray from ha']
    exact hr
  unfold Oper.wp
  rw [h1, Oper.upon_enter]
  refine hc.mono (fun e w' hR => ?_)
  obtain ⟨u, rfl, hk⟩ := h e w' hR
  exact hk
theorem y_store (ho : o.op = .store ty x y) (hx : a.eval x = .pointer (some ad)) (hy : a.eval y = v) (hr : (storeVar ty ad v).run Tryz.prog w = .ok () w') (h : K (a.put o.dst undef) w') : o.wp Tryz.prog a w K Q := by
  unfold Oper.wp execOp
  simp only [ho, hx, hy, Instr.storeAt, Instr.sureAddr, Sem.run_bind, Sem.run_pure, Result.andThen_ok, hr]
  exact h
end

section
variable {P : Program} {w w' : World} {ops : Array Oper} {rest : List Oper} {o : Oper} {a : Act} {Q : Exit → Act → World → Prop} {x y : Operand} {ty : TypeId} {ad : Addr} {v : Value}
theorem wpList_loadR (hg : o.guard = none) (ho : o.op = .load ty x) (hx : a.eval x = .pointer (some ad)) (hr : (loadVar ty ad).run P w = .ok v w) (hK : wpList P ops Q rest (a.put o.dst v) w) : wpList P ops Q (o :: rest) a w :=
  wpList_plain hg fun K hK' => by
    unfold Oper.wp execOp
    simp only [ho, hx, Instr.loadAt, Instr.sureAddr, Sem.run_bind, Sem.run_pure, Result.andThen_ok, hr]
    exact hK' _ _ hK
theorem wpList_loadW (hw : Region.wanted o (yielded ops a.tmps) = true) (ho : o.op = .load ty x) (hx : a.eval x = .pointer (some ad)) (hr : (loadVar ty ad).run P w = .ok v w) (hK : wpList P ops Q rest (a.put o.dst v) w) : wpList P ops Q (o :: rest) a w := by
  refine wpList_step fun K hK' => ?_
  rw [if_pos hw]
  unfold Oper.wp execOp
  simp only [ho, hx, Instr.loadAt, Instr.sureAddr, Sem.run_bind, Sem.run_pure, Result.andThen_ok, hr]
  exact hK' _ _ hK
theorem wpList_storeR (hg : o.guard = none) (ho : o.op = .store ty x y) (hx : a.eval x = .pointer (some ad)) (hy : a.eval y = v) (hr : (storeVar ty ad v).run P w = .ok () w') (hK : wpList P ops Q rest (a.put o.dst undef) w') : wpList P ops Q (o :: rest) a w :=
  wpList_plain hg fun K hK' => by
    unfold Oper.wp execOp
    simp only [ho, hx, hy, Instr.storeAt, Instr.sureAddr, Sem.run_bind, Sem.run_pure, Result.andThen_ok, hr]
    exact hK' _ _ hK
end

end Go.Proofs.YtmlfekbmbnfkjabGreatDoor

/-
  Structs in blocks of their own: read whole, laid whole, handed back.
-/
namespace Go.Proofs.YtmlfekbmbnfkjabGreatDoor
set_option maxRecDepth 100000
open Go.RowKit

theorem storeVar_cl {w : World} {g : Nat} {cs zs : Array Value} (hg : w.heap[g]? = some (.cells zs 38 (0, 0))) (hl : cs.size = 6) (hz : zs.size = 6) (h1 : cs.all (·.oneCell') = true) : (storeVar 38 ⟨g, 0, none⟩ (.agg cs)).run Tryz.prog w = .ok () (w.setRow g cs) :=
  run_storeVar_row (P := Tryz.prog) w g 38 38 zs cs hg (by rw [hl]; kernel_rfl) (by rw [hl, hz]) h1
theorem loadVar_cl {w : World} {g : Nat} {cs : Array Value} (hg : w.heap[g]? = some (.cells cs 38 (0, 0))) (hl : cs.size = 6) : (loadVar 38 ⟨g, 0, none⟩).run Tryz.prog w = .ok (.agg cs) w :=
  run_loadVar_row w g 38 38 _ (0, 0) _ hg Tryz.underlying38 rfl (by rw [hl]; kernel_rfl)
theorem ret_cl2 {fn : Func} {R : Ending → World → Prop} {a : Act} {w : World} {p u : Tmp} {g : Nat} {cs : Array Value} {v : Value} (h : fn.results = #[.cell p 38, .tmp u]) (hp : a.tmps.getD p undef = .pointer (some ⟨g, 0, none⟩))
    (hu : a.tmps.getD u undef = v) (hd : a.defers = []) (hg : w.heap[g]? = some (.cells cs 38 (0, 0))) (hl : cs.size = 6) (hR : R (.returned (.tuple #[.agg cs, v])) w) : bodyPost Tryz.prog fn R .ret a w := by
  refine bodyPost_ret ?_ hd hR
  rw [results_cell_tmp h, hp, hu]
  simp only [asAddr, Sem.run_pure, Result.andThen_ok, run_loadVar_row w g 38 38 _ (0, 0) _ hg Tryz.underlying38 rfl (by rw [hl]; kernel_rfl)]
theorem storeVar_rw {w : World} {g : Nat} {cs zs : Array Value} (hg : w.heap[g]? = some (.cells zs 62 (0, 0))) (hl : cs.size = 4) (hz : zs.size = 4) (h1 : cs.all (·.oneCell') = true) : (storeVar 62 ⟨g, 0, none⟩ (.agg cs)).run Tryz.prog w = .ok () (w.setRow g cs) :=
  run_storeVar_row (P := Tryz.prog) w g 62 62 zs cs hg (by rw [hl]; kernel_rfl) (by rw [hl, hz]) h1
theorem loadVar_rw {w : World} {g : Nat} {cs : Array Value} (hg : w.heap[g]? = some (.cells cs 62 (0, 0))) (hl : cs.size = 4) : (loadVar 62 ⟨g, 0, none⟩).run Tryz.prog w = .ok (.agg cs) w :=
  run_loadVar_row w g 62 62 _ (0, 0) _ hg Tryz.underlying62 rfl (by rw [hl]; kernel_rfl)
theorem ret_rw2 {fn : Func} {R : Ending → World → Prop} {a : Act} {w : World} {p u : Tmp} {g : Nat} {cs : Array Value} {v : Value} (h : fn.results = #[.cell p 62, .tmp u]) (hp : a.tmps.getD p undef = .pointer (some ⟨g, 0, none⟩))
    (hu : a.tmps.getD u undef = v) (hd : a.defers = []) (hg : w.heap[g]? = some (.cells cs 62 (0, 0))) (hl : cs.size = 4) (hR : R (.returned (.tuple #[.agg cs, v])) w) : bodyPost Tryz.prog fn R .ret a w := by
  refine bodyPost_ret ?_ hd hR
  rw [results_cell_tmp h, hp, hu]
  simp only [asAddr, Sem.run_pure, Result.andThen_ok, run_loadVar_row w g 62 62 _ (0, 0) _ hg Tryz.underlying62 rfl (by rw [hl]; kernel_rfl)]
theorem storeVar_rep {w : World} {g : Nat} {cs zs : Array Value} (hg : w.heap[g]? = some (.cells zs 30 (0, 0))) (hl : cs.size = 4) (hz : zs.size = 4) (h1 : cs.all (·.oneCell') = true) : (storeVar 30 ⟨g, 0, none⟩ (.agg cs)).run Tryz.prog w = .ok () (w.setRow g cs) :=
  run_storeVar_row (P := Tryz.prog) w g 30 30 zs cs hg (by rw [hl]; kernel_rfl) (by rw [hl, hz]) h1
theorem loadVar_rep {w : World} {g : Nat} {cs : Array Value} (hg : w.heap[g]? = some (.cells cs 30 (0, 0))) (hl : cs.size = 4) : (loadVar 30 ⟨g, 0, none⟩).run Tryz.prog w = .ok (.agg cs) w :=
  run_loadVar_row w g 30 30 _ (0, 0) _ hg Tryz.underlying30 rfl (by rw [hl]; kernel_rfl)
theorem ret_rep {fn : Func} {R : Ending → World → Prop} {a : Act} {w : World} {p : Tmp} {g : Nat} {cs : Array Value} (h : fn.results = #[.cell p 30]) (hp : a.tmps.getD p undef = .pointer (some ⟨g, 0, none⟩))
    (hd : a.defers = []) (hg : w.heap[g]? = some (.cells cs 30 (0, 0))) (hl : cs.size = 4) (hR : R (.returned (.agg cs)) w) : bodyPost Tryz.prog fn R .ret a w :=
  bodyPost_ret (results_cell_row h a.tmps w g 30 _ (0, 0) _ hp hg Tryz.underlying30 rfl (by rw [hl]; kernel_rfl)) hd hR
theorem storeVar_out {w : World} {g : Nat} {cs zs : Array Value} (hg : w.heap[g]? = some (.cells zs 53 (0, 0))) (hl : cs.size = 12) (hz : zs.size = 12) (h1 : cs.all (·.oneCell') = true) : (storeVar 53 ⟨g, 0, none⟩ (.agg cs)).run Tryz.prog w = .ok () (w.setRow g cs) :=
  run_storeVar_row (P := Tryz.prog) w g 53 53 zs cs hg (by rw [hl]; kernel_rfl) (by rw [hl, hz]) h1
theorem ret_out {fn : Func} {R : Ending → World → Prop} {a : Act} {w : World} {p : Tmp} {g : Nat} {cs : Array Value} (h : fn.results = #[.cell p 53]) (hp : a.tmps.getD p undef = .pointer (some ⟨g, 0, none⟩))
    (hd : a.defers = []) (hg : w.heap[g]? = some (.cells cs 53 (0, 0))) (hl : cs.size = 12) (hR : R (.returned (.agg cs)) w) : bodyPost Tryz.prog fn R .ret a w :=
  bodyPost_ret (results_cell_row h a.tmps w g 53 _ (0, 0) _ hp hg Tryz.underlying53 rfl (by rw [hl]; kernel_rfl)) hd hR
theorem storeVar_opr {w : World} {g : Nat} {cs zs : Array Value} (hg : w.heap[g]? = some (.cells zs 34 (0, 0))) (hl : cs.size = 7) (hz : zs.size = 7) (h1 : cs.all (·.oneCell') = true) : (storeVar 34 ⟨g, 0, none⟩ (.agg cs)).run Tryz.prog w = .ok () (w.setRow g cs) :=
  run_storeVar_row (P := Tryz.prog) w g 34 34 zs cs hg (by rw [hl]; kernel_rfl) (by rw [hl, hz]) h1
theorem loadVar_opr {w : World} {g : Nat} {cs : Array Value} (hg : w.heap[g]? = some (.cells cs 34 (0, 0))) (hl : cs.size = 7) : (loadVar 34 ⟨g, 0, none⟩).run Tryz.prog w = .ok (.agg cs) w :=
  run_loadVar_row w g 34 34 _ (0, 0) _ hg Tryz.underlying34 rfl (by rw [hl]; kernel_rfl)
end Go.Proofs.YtmlfekbmbnfkjabGreatDoor

/-
  What lists of nothing come to: sorted, gathered, told.
-/
namespace Go.Proofs.YtmlfekbmbnfkjabGreatDoor
set_option maxRecDepth 100000
open Go.RowKit

end Go.Proofs.YtmlfekbmbnfkjabGreatDoor

/-
  What Refuse comes to, the program's and the reference's.
-/
namespace Go.Proofs.YtmlfekbmbnfkjabGreatDoor
set_option maxRecDepth 100000
open Go.RowKit

def WD : List (List UInt8) := [[111, 107], [97, 114, 103], [115, 104, 111, 114, 116], [102, 111, 114, 109], [108, 111, 110, 103], [115, 117, 109], [111, 118, 101, 114], [110, 111, 110, 101], [116, 121, 112, 101], [102, 117, 108, 108], [108, 111, 115, 116], [115, 116, 97, 116, 101], [97, 114, 105, 116, 121], [105, 110, 116], [117, 110, 107, 110, 111, 119, 110], [100, 111, 119, 110]]
def wordE (e : Int) : List UInt8 := if 0 ≤ e ∧ e < 16 then WD.getD e.toNat [] else [63]
def errE (e : Int) : List UInt8 := [69, 82, 82, 32] ++ wordE e
/-- A reply. -/
def repc (k : Int) (t : List UInt8) (n : Int) (v : Value) : Array Value := #[.int .i64 k, .string (sb t), .int .i64 n, v]
theorem repc_one (k : Int) (t : List UInt8) (n : Int) (ao : Option Addr) (m c : Nat) : (repc k t n (.slice ao m c)).all (·.oneCell') = true := by simp [repc, Value.oneCell']
def wdA : Array Value := (WD.map fun t => Value.string (sb t)).toArray
theorem wdA_at {i : Nat} (h : i < 16) : wdA[i]? = some (.string (sb (WD.getD i []))) := by
  unfold wdA
  rw [List.getElem?_toArray, List.getElem?_map, List.getD_eq_getElem?_getD, List.getElem?_eq_getElem (show i < WD.length from h)]
  rfl
set_option maxHeartbeats 1000000 in
theorem word_any (e : Int) (w : World) : Calls Tryz.prog 25 #[.int .i64 e] w fun x w' => x = .returned (.string (sb (wordE e))) ∧ Below w.heap.size w w' := by
  have hb : Below w.heap.size w (w.alloc (.cells wdA 9)) := (Below.refl _ w).alloc (Nat.le_refl _) _
  have hn := heap_alloc_new w (.cells wdA 9)
  have FIN : Hid (Below w.heap.size w (w.alloc (.cells wdA 9))) := hb
  by_cases h : 0 ≤ e ∧ e < 16
  · obtain ⟨h0, h1⟩ := h
    obtain ⟨n, rfl⟩ : ∃ n : Nat, e = (n : Int) := ⟨e.toNat, by omega⟩
    have hc : (w.alloc (.cells wdA 9)).cell? ⟨w.heap.size, n, none⟩ = some (.string (sb (WD.getD n []))) := by
      rw [cell_of_row _ w.heap.size n _ _ _ hn]; exact wdA_at (by omega)
    have e1 : wordE (n : Int) = WD.getD n [] := by unfold wordE; rw [if_pos ⟨h0, h1⟩, Int.toNat_natCast]
    rw [e1]
    generalize WD.getD n [] = t at *
    clear hb hn e1
    have hW := Eq.refl (w.alloc (.cells wdA 9))
    obtain ⟨W, hW⟩ : ∃ W, w.alloc (.cells wdA 9) = W := ⟨_, rfl⟩
    rw [hW] at hc FIN
    have hW : w.alloc (.cells #[.string ⟨#[111, 107]⟩, .string ⟨#[97, 114, 103]⟩, .string ⟨#[115, 104, 111, 114, 116]⟩, .string ⟨#[102, 111, 114, 109]⟩, .string ⟨#[108, 111, 110, 103]⟩, .string ⟨#[115, 117, 109]⟩, .string ⟨#[111, 118, 101, 114]⟩, .string ⟨#[110, 111, 110, 101]⟩, .string ⟨#[116, 121, 112, 101]⟩, .string ⟨#[102, 117, 108, 108]⟩, .string ⟨#[108, 111, 115, 116]⟩, .string ⟨#[115, 116, 97, 116, 101]⟩, .string ⟨#[97, 114, 105, 116, 121]⟩, .string ⟨#[105, 110, 116]⟩, .string ⟨#[117, 110, 107, 110, 111, 119, 110]⟩, .string ⟨#[100, 111, 119, 110]⟩] 9) = W := hW
    go_enter Tryz.func25, Tryz.ntmps25
    go_wp2
    go_ret
    exact ⟨rfl, FIN.out⟩
  · have e1 : wordE e = [63] := if_neg h
    rw [e1]
    clear hb hn
    by_cases h0 : e < 0
    · go_enter Tryz.func25, Tryz.ntmps25
      go_wp2
      go_ret
      exact ⟨rfl, FIN.out⟩
    · have h1 : 16 ≤ e := by omega
      have h2 : ¬ e < 0 := h0
      go_enter Tryz.func25, Tryz.ntmps25
      go_wp2
      go_ret
      exact ⟨rfl, FIN.out⟩
def repz : Array Value := #[.int .i64 0, .string ⟨#[]⟩, .int .i64 0, .slice none 0 0]
theorem refusal_any (t : List UInt8) (w : World) : Calls Tryz.prog 24 #[.string (sb t)] w fun x w' => x = .returned (.agg (repc 2 t 0 (.slice none 0 0))) ∧ Below w.heap.size w w' := by
  have hb : Below w.heap.size w ((w.alloc (.cells repz 30)).setRow w.heap.size (repc 2 t 0 (.slice none 0 0))) := below_setRow ((Below.refl _ w).alloc (Nat.le_refl _) _) (Nat.le_refl _) _
  have hn := heap_alloc_new w (.cells repz 30)
  have hst := storeVar_rep (cs := repc 2 t 0 (.slice none 0 0)) hn rfl rfl (repc_one _ _ _ _ _ _)
  have hg := setRow_heap (w.alloc (.cells repz 30)) w.heap.size _ (repc 2 t 0 (.slice none 0 0)) _ _ hn
  generalize (w.alloc (.cells repz 30)).setRow w.heap.size (repc 2 t 0 (.slice none 0 0)) = W at *
  have FIN : Hid (Below w.heap.size w W) := hb
  clear hb hn
  go_enter Tryz.func24, Tryz.ntmps24
  go_wp2_with (first
    | (refine wpList_storeR (ty := 30) (x := .tmp 2) (y := .tmp 4) (ad := ⟨w.heap.size, 0, none⟩) (v := .agg (repc 2 t 0 (.slice none 0 0))) (w' := W) rfl rfl rfl rfl hst ?_))
  refine ret_rep rfl rfl rfl hg rfl ?_
  exact ⟨rfl, FIN.out⟩
theorem wordE_len (e : Int) : (wordE e).length ≤ 7 := by
  unfold wordE
  split
  · rename_i h
    have h1 : ∀ i, i < 16 → (WD.getD i []).length ≤ 7 := by decide
    exact h1 _ (by omega)
  · decide
theorem sb_app (a b : List UInt8) : sb a ++ sb b = sb (a ++ b) := by
  apply ByteArray.ext
  simp [sb]
theorem refuse_any (e : Int) (w : World) : Calls Tryz.prog 13 #[.int .i64 e] w fun x w' => x = .returned (.agg (repc 2 (errE e) 0 (.slice none 0 0))) ∧ Below w.heap.size w w' := by
  have hb0 : Below w.heap.size w (w.alloc (.cells repz 30)) := (Below.refl _ w).alloc (Nat.le_refl _) _
  have hn := heap_alloc_new w (.cells repz 30)
  have hW := word_any e (w.alloc (.cells repz 30))
  have hR := fun W => refusal_any (errE e) W
  have hap : (⟨#[69, 82, 82, 32]⟩ : ByteArray) ++ sb (wordE e) = sb (errE e) := sb_app [69, 82, 82, 32] (wordE e)
  have hs1 : (sb (wordE e)).size ≤ 7 := by have := wordE_len e; simpa [sb, ByteArray.size] using this
  have H0 : Aside (Below w.heap.size w (w.alloc (.cells repz 30))) := hb0
  generalize errE e = t at *
  generalize wordE e = wd at *
  have HN : Hid _ := hn
  clear hn hb0
  go_enter Tryz.func13, Tryz.ntmps13
  go_wp2_with fail
  refine Calls.mono hW ?_
  rintro x w1 ⟨rfl, hb1⟩
  clear hW
  go_wp2_with fail
  refine Calls.mono (hR _) ?_
  rintro x w2 ⟨rfl, hb2⟩
  have hb3 := hb1.trans (hb2.mono hb1.size)
  have hz2 : w2.heap[w.heap.size]? = some (.cells repz 30 (0, 0)) := by rw [hb3.block _ (by simp)]; exact HN.out
  have hst := storeVar_rep (cs := repc 2 t 0 (.slice none 0 0)) hz2 rfl rfl (repc_one _ _ _ _ _ _)
  have hg := setRow_heap w2 w.heap.size _ (repc 2 t 0 (.slice none 0 0)) _ _ hz2
  have FIN : Hid (Below w.heap.size w (w2.setRow w.heap.size (repc 2 t 0 (.slice none 0 0)))) := below_setRow (H0.out.trans (hb3.mono H0.out.size)) (Nat.le_refl _) _
  generalize w2.setRow w.heap.size (repc 2 t 0 (.slice none 0 0)) = W at *
  clear hb1 hb2 hb3 hz2 hR H0 HN
  go_wp2_with (first
    | (refine wpList_storeR (ty := 30) (x := .tmp 2) (y := .tmp 6) (ad := ⟨w.heap.size, 0, none⟩) (v := .agg (repc 2 t 0 (.slice none 0 0))) (w' := W) rfl rfl rfl rfl hst ?_))
  refine ret_rep rfl rfl rfl hg rfl ?_
  exact ⟨rfl, FIN.out⟩
end Go.Proofs.YtmlfekbmbnfkjabGreatDoor

/-
  What comes of a command: the small makers of replies and outcomes.
-/
namespace Go.Proofs.YtmlfekbmbnfkjabGreatDoor
set_option maxRecDepth 100000
open Go.RowKit

def opx (k : Int) (ky f v : List UInt8) (n r m : Int) : Array Value := #[.int .i64 k, .string (sb ky), .string (sb f), .string (sb v), .int .i64 n, .int .i64 r, .int .i64 m]
def opzz : Array Value := opx 0 [] [] [] 0 0 0
def outx (k : Int) (t : List UInt8) (n : Int) (ao : Option Addr) (m c : Nat) (o : Array Value) (b : Bool) : Array Value := #[.int .i64 k, .string (sb t), .int .i64 n, .slice ao m c] ++ o ++ #[.bool b]
def outz : Array Value := #[.int .i64 0, .string ⟨#[]⟩, .int .i64 0, .slice none 0 0, .int .i64 0, .string ⟨#[]⟩, .string ⟨#[]⟩, .string ⟨#[]⟩, .int .i64 0, .int .i64 0, .int .i64 0, .bool false]
theorem outx_one (k : Int) (t : List UInt8) (n : Int) (ao : Option Addr) (m c : Nat) (k' : Int) (ky f v : List UInt8) (n' r' m' : Int) (b : Bool) : (outx k t n ao m c (opx k' ky f v n' r' m') b).all (·.oneCell') = true := by simp [outx, opx, Value.oneCell']
theorem alloc_two (w : World) (a b : Obj) : ((w.alloc a).alloc b).heap[w.heap.size + 1]? = some b := by
  have := heap_alloc_new (w.alloc a) b
  simpa using this
theorem below_two (w : World) (a b : Obj) : Below w.heap.size w ((w.alloc a).alloc b) := ((Below.refl _ w).alloc (Nat.le_refl _) _).alloc (by simp) _
theorem below_three (w : World) (a b c : Obj) : Below w.heap.size w (((w.alloc a).alloc b).alloc c) := (below_two w a b).alloc (by simp; omega) _
theorem alloc_three (w : World) (a b c : Obj) : (((w.alloc a).alloc b).alloc c).heap[w.heap.size + 2]? = some c := by
  have := heap_alloc_new ((w.alloc a).alloc b) c
  simpa using this
theorem ctell_any (k : Int) (t : List UInt8) (n : Int) (ao : Option Addr) (m c : Nat) (w : World) : Calls Tryz.prog 43 #[.agg (repc k t n (.slice ao m c))] w fun x w' => x = .returned (.agg (outx k t n ao m c opzz false)) ∧ Below w.heap.size w w' := by
  unfold repc
  go_enter Tryz.func43, Tryz.ntmps43
  go_wp2
  refine ret_out rfl rfl rfl (alloc_two w _ _) rfl ?_
  exact ⟨rfl, below_two w _ _⟩
theorem cdo_any (k : Int) (t : List UInt8) (n : Int) (ao : Option Addr) (m c : Nat) (k' : Int) (ky f v : List UInt8) (n' r' m' : Int) (w : World) : Calls Tryz.prog 105 #[.agg (repc k t n (.slice ao m c)), .agg (opx k' ky f v n' r' m')] w fun x w' => x = .returned (.agg (outx k t n ao m c (opx k' ky f v n' r' m') true)) ∧ Below w.heap.size w w' := by
  unfold repc opx
  go_enter Tryz.func105, Tryz.ntmps105
  go_wp2
  refine ret_out rfl rfl rfl (alloc_three w _ _ _) rfl ?_
  exact ⟨rfl, below_three w _ _ _⟩
theorem csimple_any (t : List UInt8) (w : World) : Calls Tryz.prog 106 #[.string (sb t)] w fun x w' => x = .returned (.agg (repc 1 t 0 (.slice none 0 0))) ∧ Below w.heap.size w w' := by
  go_enter Tryz.func106, Tryz.ntmps106
  go_wp2
  refine ret_rep rfl rfl rfl (heap_alloc_new w _) rfl ?_
  exact ⟨rfl, (Below.refl _ w).alloc (Nat.le_refl _) _⟩
theorem cwhole_any (n : Int) (w : World) : Calls Tryz.prog 110 #[.int .i64 n] w fun x w' => x = .returned (.agg (repc 3 [] n (.slice none 0 0))) ∧ Below w.heap.size w w' := by
  go_enter Tryz.func110, Tryz.ntmps110
  go_wp2
  refine ret_rep rfl rfl rfl (heap_alloc_new w _) rfl ?_
  exact ⟨rfl, (Below.refl _ w).alloc (Nat.le_refl _) _⟩
theorem carray_any (ao : Option Addr) (m c : Nat) (w : World) : Calls Tryz.prog 115 #[.slice ao m c] w fun x w' => x = .returned (.agg (repc 6 [] 0 (.slice ao m c))) ∧ Below w.heap.size w w' := by
  go_enter Tryz.func115, Tryz.ntmps115
  go_wp2
  refine ret_rep rfl rfl rfl (heap_alloc_new w _) rfl ?_
  exact ⟨rfl, (Below.refl _ w).alloc (Nat.le_refl _) _⟩
theorem cisit_any (b : Bool) (w : World) : Calls Tryz.prog 114 #[.bool b] w fun x w' => x = .returned (.agg (repc 3 [] (if b then 1 else 0) (.slice none 0 0))) ∧ Below w.heap.size w w' := by
  have hn := heap_alloc_new w (.cells repz 30)
  have hb0 : Below w.heap.size w (w.alloc (.cells repz 30)) := (Below.refl _ w).alloc (Nat.le_refl _) _
  obtain ⟨W, hW⟩ : ∃ W, w.alloc (.cells repz 30) = W := ⟨_, rfl⟩
  have hW' : w.alloc (.cells #[.int .i64 0, .string ⟨#[]⟩, .int .i64 0, .slice none 0 0] 30) = W := hW
  rw [hW] at hn hb0
  obtain ⟨R, hR⟩ : ∃ R, w.heap.size = R := ⟨_, rfl⟩
  have HB : Hid (Below w.heap.size w W) := hb0
  rw [hR] at hn
  have hlt : R < W.heap.size := (Array.getElem?_eq_some_iff.1 hn).1
  clear hb0 hW
  cases b
  · have hc := cwhole_any 0 W
    go_enter Tryz.func114, Tryz.ntmps114
    go_wp2_with fail
    refine Calls.mono hc ?_
    rintro x w1 ⟨rfl, hb1⟩
    have hn1 : w1.heap[R]? = some (.cells repz 30 (0, 0)) := (hb1.block _ hlt).trans hn
    have hst := storeVar_rep (cs := repc 3 [] 0 (.slice none 0 0)) hn1 rfl rfl (repc_one _ _ _ _ _ _)
    have hg := setRow_heap w1 R _ (repc 3 [] 0 (.slice none 0 0)) _ _ hn1
    have FIN : Hid (Below w.heap.size w (w1.setRow R (repc 3 [] 0 (.slice none 0 0)))) := below_setRow (HB.out.trans (hb1.mono HB.out.size)) (by omega) _
    generalize w1.setRow R (repc 3 [] 0 (.slice none 0 0)) = W2 at *
    clear hc hb1 hn1 hn
    go_wp2_with (first
      | (refine wpList_storeR (ty := 30) (x := .tmp 2) (y := .tmp 5) (ad := ⟨R, 0, none⟩) (v := .agg (repc 3 [] 0 (.slice none 0 0))) (w' := W2) rfl rfl rfl rfl hst ?_))
    refine ret_rep rfl rfl rfl hg rfl ?_
    exact ⟨rfl, by rw [← hR]; exact FIN.out⟩
  · have hc := cwhole_any 1 W
    go_enter Tryz.func114, Tryz.ntmps114
    go_wp2_with fail
    refine Calls.mono hc ?_
    rintro x w1 ⟨rfl, hb1⟩
    have hn1 : w1.heap[R]? = some (.cells repz 30 (0, 0)) := (hb1.block _ hlt).trans hn
    have hst := storeVar_rep (cs := repc 3 [] 1 (.slice none 0 0)) hn1 rfl rfl (repc_one _ _ _ _ _ _)
    have hg := setRow_heap w1 R _ (repc 3 [] 1 (.slice none 0 0)) _ _ hn1
    have FIN : Hid (Below w.heap.size w (w1.setRow R (repc 3 [] 1 (.slice none 0 0)))) := below_setRow (HB.out.trans (hb1.mono HB.out.size)) (by omega) _
    generalize w1.setRow R (repc 3 [] 1 (.slice none 0 0)) = W2 at *
    clear hc hb1 hn1 hn
    go_wp2_with (first
      | (refine wpList_storeR (ty := 30) (x := .tmp 2) (y := .tmp 4) (ad := ⟨R, 0, none⟩) (v := .agg (repc 3 [] 1 (.slice none 0 0))) (w' := W2) rfl rfl rfl rfl hst ?_))
    refine ret_rep rfl rfl rfl hg rfl ?_
    exact ⟨rfl, by rw [← hR]; exact FIN.out⟩
end Go.Proofs.YtmlfekbmbnfkjabGreatDoor

/-
  What cmp.Compare and cmp.Or come to.
-/
namespace Go.Proofs.YtmlfekbmbnfkjabGreatDoor
set_option maxRecDepth 100000
open Go.RowKit

def cmpI (x y : Int) : Int := if x < y then -1 else if y < x then 1 else 0
theorem isnan_any (x : Int) (w : World) : Calls Tryz.prog 212 #[.int .i64 x] w fun e w' => e = .returned (.bool false) ∧ w' = w := by
  go_enter Tryz.func212, Tryz.ntmps212
  go_wp2
  go_ret
  exact ⟨rfl, rfl⟩
set_option maxHeartbeats 400000 in
theorem compare_any (x y : Int) (w : World) : Calls Tryz.prog 174 #[.int .i64 x, .int .i64 y] w fun e w' => e = .returned (.int .i64 (cmpI x y)) ∧ w' = w := by
  have hx := isnan_any x w
  have hy := isnan_any y w
  have key : (x < y ∧ cmpI x y = -1) ∨ (¬ x < y ∧ y < x ∧ cmpI x y = 1) ∨ (¬ x < y ∧ ¬ y < x ∧ cmpI x y = 0) := by
    unfold cmpI
    by_cases h1 : x < y
    · exact .inl ⟨h1, by simp [h1]⟩
    · by_cases h2 : y < x
      · exact .inr (.inl ⟨h1, h2, by simp [h1, h2]⟩)
      · exact .inr (.inr ⟨h1, h2, by simp [h1, h2]⟩)
  generalize cmpI x y = c at *
  rcases key with ⟨h1, rfl⟩ | ⟨h1, h2, rfl⟩ | ⟨h1, h2, rfl⟩
  all_goals
    go_enter Tryz.func174, Tryz.ntmps174
    go_wp2_with fail
    refine Calls.mono hx ?_
    rintro e w1 ⟨rfl, hw1⟩
    obtain rfl := hw1.symm
    go_wp2_with fail
    refine Calls.mono hy ?_
    rintro e w1 ⟨rfl, hw2⟩
    obtain rfl := hw2.symm
    go_wp2
    go_ret
    exact ⟨rfl, rfl⟩
def orI (a c : Int) : Int := if a = 0 then c else a
set_option maxHeartbeats 800000 in
theorem or_any (a c : Int) (b : Nat) (w : World) (h0 : w.cell? ⟨b, 0, none⟩ = some (.int .i64 a)) (h1 : w.cell? ⟨b, 1, none⟩ = some (.int .i64 c)) :
    Calls Tryz.prog 173 #[.slice (some ⟨b, 0, none⟩) 2 2] w fun e w' => e = .returned (.int .i64 (orI a c)) ∧ w' = w := by
  unfold orI
  by_cases ha : a = 0
  · subst ha
    by_cases hc : c = 0
    · subst hc
      go_enter Tryz.func173, Tryz.ntmps173
      go_wp2
      refine wp_loop_rounds 3 ?_
      rw [rounds_succ]
      go_wp2
      rw [rounds_succ]
      go_wp2
      rw [rounds_succ]
      go_wp2
      go_ret
      exact ⟨rfl, rfl⟩
    · go_enter Tryz.func173, Tryz.ntmps173
      go_wp2
      refine wp_loop_rounds 3 ?_
      rw [rounds_succ]
      go_wp2
      rw [rounds_succ]
      go_wp2
      go_ret
      exact ⟨rfl, rfl⟩
  · go_enter Tryz.func173, Tryz.ntmps173
    go_wp2
    refine wp_loop_rounds 3 ?_
    rw [rounds_succ]
    go_wp2
    go_ret
    exact ⟨rfl, rfl⟩
end Go.Proofs.YtmlfekbmbnfkjabGreatDoor

/-
  The table of commands: what table and rowOf come to.
-/
namespace Go.Proofs.YtmlfekbmbnfkjabGreatDoor
set_option maxRecDepth 100000
open Go.RowKit

/-- What there is to know of a command. -/
structure Rw22 where
  name : List UInt8
  takes : List UInt8
  is : Int
  fn : Nat
deriving DecidableEq
def rwc (r : Rw22) : List Value := [.string (sb r.name), .string (sb r.takes), .int .i64 r.is, .func (.func r.fn) #[] #[]]
def TB : List Rw22 := [
  ⟨[83, 69, 84], [107, 118], 1, 61⟩,
  ⟨[71, 69, 84], [107], 1, 62⟩,
  ⟨[73, 78, 67, 82, 66, 89], [107, 110], 2, 63⟩,
  ⟨[67, 79, 85, 78, 84], [107], 2, 64⟩,
  ⟨[83, 65, 68, 68], [107, 102], 3, 65⟩,
  ⟨[83, 82, 69, 77], [107, 102], 3, 66⟩,
  ⟨[83, 73, 83, 77, 69, 77, 66, 69, 82], [107, 102], 3, 67⟩,
  ⟨[83, 77, 69, 77, 66, 69, 82, 83], [107], 3, 68⟩,
  ⟨[72, 83, 69, 84], [107, 102, 118], 4, 69⟩,
  ⟨[72, 68, 69, 76], [107, 102], 4, 70⟩,
  ⟨[72, 71, 69, 84], [107, 102], 4, 71⟩,
  ⟨[72, 71, 69, 84, 65, 76, 76], [107], 4, 72⟩,
  ⟨[90, 65, 68, 68], [107, 110, 102], 5, 73⟩,
  ⟨[90, 82, 69, 77], [107, 102], 5, 74⟩,
  ⟨[90, 83, 67, 79, 82, 69], [107, 102], 5, 75⟩,
  ⟨[90, 82, 65, 78, 75], [107, 102], 5, 76⟩,
  ⟨[90, 82, 65, 78, 71, 69], [107, 110, 109], 5, 77⟩,
  ⟨[76, 80, 85, 83, 72], [107, 118], 6, 78⟩,
  ⟨[82, 80, 85, 83, 72], [107, 118], 6, 79⟩,
  ⟨[76, 73, 78, 83, 69, 82, 84], [107, 110, 118], 6, 80⟩,
  ⟨[76, 82, 69, 77], [107, 110], 6, 81⟩,
  ⟨[76, 82, 65, 78, 71, 69], [107, 110, 109], 6, 82⟩,
  ⟨[68, 69, 76], [107], 0, 83⟩,
  ⟨[84, 89, 80, 69], [107], 0, 84⟩,
  ⟨[75, 69, 89, 83], [], 0, 85⟩]
def tbc : Array Value := (TB.flatMap rwc).toArray
set_option maxHeartbeats 4000000 in
theorem table_any (w : World) : Calls Tryz.prog 39 #[] w fun e w' => e = .returned (.slice (some ⟨w.heap.size, 0, none⟩) 25 25) ∧ w' = w.alloc (.cells tbc 62) := by
  go_enter Tryz.func39, Tryz.ntmps39
  go_wp2
  go_ret
  exact ⟨rfl, rfl⟩
end Go.Proofs.YtmlfekbmbnfkjabGreatDoor

