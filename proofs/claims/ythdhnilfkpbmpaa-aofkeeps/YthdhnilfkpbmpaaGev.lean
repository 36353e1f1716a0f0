/-
  What the reader's way event comes to.
-/
import Derived.Test.YthdhnilfkpbmpaaGop
import Derived.Test.YthdhnilfkpbmpaaZer
namespace Go.Proofs.Ythdhnilfkpbmpaa
set_option maxRecDepth 100000

open Go.RowKit

/-- The zero event. -/
def zv : Ev := ⟨0, 0, 0, zeros, 0, [], [], [], 0, 0, 0⟩

/-! Parts of an event are laid. -/
section
variable {w : World} {g : Nat} {e : Ev}
theorem LiesE.setL (h : LiesE w g e) (j : Nat) (v : Value) : (w.setCell ⟨g, j, none⟩ v).heap[g]? = some (.cells ((evl e).set j v).toArray 30 (0, 0)) := by
  rw [heap_setCell_same w g j _ _ _ h, evc, List.setIfInBounds_toArray]
theorem LiesE.setT (h : LiesE w g e) (t : Int) : LiesE (w.setCell ⟨g, 2, none⟩ (.int .i64 t)) g { e with t := t } := h.setL 2 _
theorem LiesE.setR (h : LiesE w g e) (t : Int) : LiesE (w.setCell ⟨g, 0, none⟩ (.int .i64 t)) g { e with r := t } := h.setL 0 _
theorem LiesE.setN (h : LiesE w g e) (t : Int) : LiesE (w.setCell ⟨g, 1, none⟩ (.int .i64 t)) g { e with n := t } := h.setL 1 _
theorem LiesE.setDot (h : LiesE w g e) (r n : Int) : LiesE (w.setCells g 0 (dotc r n).toList) g { e with r := r, n := n } := (h.setR r).setN n
theorem LiesE.setDep (h : LiesE w g e) (hl : e.deps.length = 16) (j : Nat) (hj : j < 16) (x : Int) : LiesE (w.setCell ⟨g, 3 + j, none⟩ (.int .i64 x)) g { e with deps := e.deps.set j x } := by
  rw [LiesE, h.setL]
  congr 2
  rw [evc]
  congr 1
  rw [evl, List.set_append_right _ _ (by simp), List.set_append_left _ _ (by simp; omega), evl]
  simp only [List.length_cons, List.length_nil]
  rw [show 3 + j - (0 + 1 + 1 + 1) = j by omega, List.map_set]
  rfl
/-- Ahead of the operation. -/
def evh (e : Ev) : List Value := [.int .i64 e.r, .int .i64 e.n, .int .i64 e.t] ++ e.deps.map (Value.int .i64)
theorem evh_length (hl : e.deps.length = 16) : (evh e).length = 19 := by simp [evh, hl]
theorem evl_evh (e : Ev) : evl e = evh e ++ opl e := by simp [evl, evh]
theorem set_op {w : World} {g : Nat} {e : Ev} {vs : List Value} (hl : e.deps.length = 16) (h : w.heap[g]? = some (.cells (evh e ++ vs).toArray 30 (0, 0))) (j : Nat) (v : Value) :
    (w.setCell ⟨g, 19 + j, none⟩ v).heap[g]? = some (.cells (evh e ++ vs.set j v).toArray 30 (0, 0)) := by
  rw [heap_setCell_same w g (19 + j) _ _ _ h, List.setIfInBounds_toArray, List.set_append_right _ _ (by rw [evh_length hl]; omega), evh_length hl, Nat.add_sub_cancel_left]
/-- The event with another one's operation. -/
def wop (e o : Ev) : Ev := ⟨e.r, e.n, e.t, e.deps, o.kind, o.key, o.field, o.value, o.num, o.rr, o.rn⟩
theorem LiesE.setOp (h : LiesE w g e) (hl : e.deps.length = 16) (o : Ev) : LiesE (w.setCells g 19 (opc o).toList) g (wop e o) := by
  have h0 : w.heap[g]? = some (.cells (evh e ++ opl e).toArray 30 (0, 0)) := by rw [← evl_evh]; exact h
  have h1 := set_op hl h0 0 (.int .i64 o.kind)
  have h2 := set_op hl h1 1 (.string (sb o.key))
  have h3 := set_op hl h2 2 (.string (sb o.field))
  have h4 := set_op hl h3 3 (.string (sb o.value))
  have h5 := set_op hl h4 4 (.int .i64 o.num)
  have h6 := set_op hl h5 5 (.int .i64 o.rr)
  have h7 := set_op hl h6 6 (.int .i64 o.rn)
  rw [LiesE, evc, evl_evh]
  exact h7
theorem LiesE.thereD (h : LiesE w g e) : w.there g 0 2 := fun j hj => by
  refine ⟨?_, h.frozen⟩
  match j, hj with
  | 0, _ => rw [h.c0]; rfl
  | 1, _ => rw [h.c1]; rfl
theorem LiesE.thereO (h : LiesE w g e) (hl : e.deps.length = 16) : w.there g 19 7 := fun j hj => by
  refine ⟨?_, h.frozen⟩
  rw [h.co hl]
  match j, hj with
  | 0, _ => rfl
  | 1, _ => rfl
  | 2, _ => rfl
  | 3, _ => rfl
  | 4, _ => rfl
  | 5, _ => rfl
  | 6, _ => rfl
theorem LiesE.other (h : LiesE w g e) (ad : Addr) (v : Value) (hg : g ≠ ad.block) : LiesE (w.setCell ad v) g e := by
  rw [LiesE, heap_setCell_other w ad g v hg]; exact h
end
theorem LiesE.others {g k : Nat} {e : Ev} (hg : g ≠ k) : ∀ {vs : List Value} {o : Nat} {w : World}, LiesE w g e → LiesE (w.setCells k o vs) g e
  | [], _, _, h => h
  | v :: vs, o, _, h => LiesE.others hg (vs := vs) (o := o + 1) (h.other ⟨k, o, none⟩ v hg)
theorem Chg.others {g k : Nat} {a : World} (hk : a.heap.size ≤ k) : ∀ {vs : List Value} {o : Nat} {w : World}, Chg g a w → Chg g a (w.setCells k o vs)
  | [], _, _, h => h
  | v :: vs, o, _, h => Chg.others hk (vs := vs) (o := o + 1) (h.other (j := o) hk v)
theorem Rdr.others {g k : Nat} {ao : Option Addr} {c : Nat} {l : List UInt8} {s : Rd} (hk : k ≠ g) (ha : ∀ ad, ao = some ad → ad.block ≠ k) : ∀ {vs : List Value} {o : Nat} {w : World}, Rdr w g ao c l s → Rdr (w.setCells k o vs) g ao c l s
  | [], _, _, h => h
  | v :: vs, o, _, h => Rdr.others hk ha (vs := vs) (o := o + 1) (h.other (j := o) v hk ha)
theorem store_op_at {ops : Array Oper} {rest : List Oper} {o : Oper} {a : Act} {w : World} {Q : Exit → Act → World → Prop} {x y : Operand} {g k : Nat} {e : Ev} (hgd : o.guard = none) (ho : o.op = .store 28 x y)
    (hx : a.eval x = .pointer (some ⟨g, k, none⟩)) (hy : a.eval y = .agg (opc e)) (hg : w.there g k 7)
    (h : wpList Try.prog ops Q rest (a.put o.dst undef) (w.setCells g k (opc e).toList)) : wpList Try.prog ops Q (o :: rest) a w :=
  wpList_store_mid hgd 28 x y ho g k (opc e) hx hy hg (size7 e) (opc_one e) h
theorem ret_ev {fn : Func} {R : Ending → World → Prop} {a : Act} {w : World} {p : Tmp} {g : Nat} {e : Ev} (h : fn.results = #[.cell p 30]) (hp : a.tmps.getD p undef = .pointer (some ⟨g, 0, none⟩))
    (hd : a.defers = []) (hg : LiesE w g e) (hl : e.deps.length = 16) (hR : R (.returned (.agg (evc e))) w) : bodyPost Try.prog fn R .ret a w :=
  bodyPost_ret (results_cell_row h a.tmps w g 30 _ (0, 0) _ hp hg Try.underlying30 rfl (size26 e hl)) hd hR
theorem run_indexAt_at (w : World) (g o k : Nat) (hk : k < 16) : (Instr.indexAt 26 (.pointer (some ⟨g, o, none⟩)) (.int .i64 (k : Int))).run Try.prog w = .ok (.pointer (some ⟨g, o + k, none⟩)) w := by
  have hu : Try.prog.underlying 26 = some (.array 16 3) := by kernel_rfl
  have e : (⟨g, o, none⟩ : Addr).add k = ⟨g, o + k, none⟩ := by unfold Addr.add; split <;> simp_all
  simp [Instr.indexAt, asIntOf, run_underlying hu, Sem.run_bind, Instr.sureAddr, hk, e]

/-! Reading an event, part by part. -/
theorem rdNs_succ : ∀ (k : Nat) (s : Rd), rdNs (k + 1) s = ((rdNs k s).1 ++ [(rdN (rdNs k s).2).1], (rdN (rdNs k s).2).2)
  | 0, s => rfl
  | k + 1, s => by
    have h := rdNs_succ k (rdN s).2
    rw [rdNs, h]
    rfl
theorem rdNs_len : ∀ (k : Nat) (s : Rd), (rdNs k s).1.length = k
  | 0, _ => rfl
  | k + 1, s => by rw [rdNs, List.length_cons, rdNs_len k]
def A2 (s : Rd) : Ev := { zv with r := (rdN s).1, n := (rdN (rdN s).2).1 }
def S2 (s : Rd) : Rd := (rdN (rdN s).2).2
def A3 (s : Rd) : Ev := { A2 s with t := (rdN (S2 s)).1 }
def S3 (s : Rd) : Rd := (rdN (S2 s)).2
def Ai (s : Rd) (k : Nat) : Ev := { A3 s with deps := (rdNs k (S3 s)).1 ++ zeros.drop k }
def Si (s : Rd) (k : Nat) : Rd := (rdNs k (S3 s)).2
theorem Ai_zero (s : Rd) : Ai s 0 = A3 s := rfl
theorem Si_succ (s : Rd) (k : Nat) : Si s (k + 1) = (rdN (Si s k)).2 := by rw [Si, rdNs_succ]; rfl
theorem Ai_succ (s : Rd) (k : Nat) (hk : k < 16) : { Ai s k with deps := (Ai s k).deps.set k (rdN (Si s k)).1 } = Ai s (k + 1) := by
  have hl := rdNs_len k (S3 s)
  have e : ((rdNs k (S3 s)).1 ++ zeros.drop k).set k (rdN (Si s k)).1 = (rdNs (k + 1) (S3 s)).1 ++ zeros.drop (k + 1) := by
    rw [List.set_append_right _ _ (by omega), hl, Nat.sub_self, rdNs_succ, List.drop_eq_getElem_cons (by show k < zeros.length; simpa [zeros] using hk), List.set_cons_zero, List.append_assoc]
    rfl
  simp only [Ai, e]
def Af (s : Rd) : Ev := wop (Ai s 16) (U11 (Si s 16))

/-- Where event stands. -/
structure Evn (w0 w : World) (g z k : Nat) (ao : Option Addr) (c : Nat) (l : List UInt8) (S : Rd) (U u : Ev) : Prop where
  e : LiesE w k u
  len : u.deps.length = 16
  z : LiesE w z zv
  r : Rdr w g ao c l S
  c : Chg g w0 w
  m : S.e = 0 → u = U
section
variable {w0 w w' : World} {g z k : Nat} {ao : Option Addr} {c : Nat} {l : List UInt8} {S S' : Rd} {U U' u : Ev}
theorem Evn.dot (h : Evn w0 w g z k ao c l S U u) (d : Side w0 g z k ao) (hc : Chg g w w') (hr : Rdr w' g ao c l S') (r n : Int) (hm : S'.e = 0 → { u with r := r, n := n } = U') : Evn w0 (w'.setCells k 0 (dotc r n).toList) g z k ao c l S' U' { u with r := r, n := n } :=
  ⟨(hc.liesE h.e d.kg).setDot r n, h.len, (hc.liesE h.z d.zg).others d.zk, hr.others d.kg (d.a.ne d.k0), (h.c.trans hc).others d.k0, hm⟩
theorem Evn.time (h : Evn w0 w g z k ao c l S U u) (d : Side w0 g z k ao) (hc : Chg g w w') (hr : Rdr w' g ao c l S') (t : Int) (hm : S'.e = 0 → { u with t := t } = U') : Evn w0 (w'.setCell ⟨k, 2, none⟩ (.int .i64 t)) g z k ao c l S' U' { u with t := t } :=
  ⟨(hc.liesE h.e d.kg).setT t, h.len, (hc.liesE h.z d.zg).other _ _ d.zk, hr.other _ d.kg (d.a.ne d.k0), (h.c.trans hc).other d.k0 _, hm⟩
theorem Evn.dep (h : Evn w0 w g z k ao c l S U u) (d : Side w0 g z k ao) (hc : Chg g w w') (hr : Rdr w' g ao c l S') (j : Nat) (hj : j < 16) (x : Int) (hm : S'.e = 0 → { u with deps := u.deps.set j x } = U') : Evn w0 (w'.setCell ⟨k, 3 + j, none⟩ (.int .i64 x)) g z k ao c l S' U' { u with deps := u.deps.set j x } :=
  ⟨(hc.liesE h.e d.kg).setDep h.len j hj x, by rw [List.length_set]; exact h.len, (hc.liesE h.z d.zg).other _ _ d.zk, hr.other _ d.kg (d.a.ne d.k0), (h.c.trans hc).other d.k0 _, hm⟩
theorem Evn.op (h : Evn w0 w g z k ao c l S U u) (d : Side w0 g z k ao) (hc : Chg g w w') (hr : Rdr w' g ao c l S') (o : Ev) (hm : S'.e = 0 → wop u o = U') : Evn w0 (w'.setCells k 19 (opc o).toList) g z k ao c l S' U' (wop u o) :=
  ⟨(hc.liesE h.e d.kg).setOp h.len o, h.len, (hc.liesE h.z d.zg).others d.zk, hr.others d.kg (d.a.ne d.k0), (h.c.trans hc).others d.k0, hm⟩
end
theorem evn_start {w : World} {g : Nat} {ao : Option Addr} {c : Nat} {l : List UInt8} {s : Rd} (h : Rdr w g ao c l s) (ha : Ahead ao w.heap.size) :
    Evn w ((w.alloc (.cells (evc zv) 30)).alloc (.cells (evc zv) 30)) g w.heap.size (w.heap.size + 1) ao c l s zv zv ∧ Side w g w.heap.size (w.heap.size + 1) ao := by
  have hg := h.lt
  have h2 := liesE_new (w.alloc (.cells (evc zv) 30)) zv
  refine ⟨⟨by simpa using h2, rfl, (liesE_new w zv).alloc _, (h.alloc _).alloc _, ((Chg.refl g w).alloc _).alloc _, fun _ => rfl⟩, ⟨by omega, by omega, by omega, ha, by omega⟩⟩
theorem Ahead.mono {ao : Option Addr} {B C : Nat} (h : Ahead ao B) (hBC : B ≤ C) : Ahead ao C := fun ad had => Nat.lt_of_lt_of_le (h ad had) hBC

/-- An event that was read. -/
def GotE (w : World) (g : Nat) (ao : Option Addr) (c : Nat) (l : List UInt8) (s : Rd) (e : Ending) (w' : World) : Prop :=
  ∃ u : Ev, e = .returned (.agg (evc u)) ∧ u.deps.length = 16 ∧ Rdr w' g ao c l (t11 (Si s 16)).2 ∧ ((t11 (Si s 16)).2.e = 0 → u = Af s) ∧ Chg g w w'

theorem zv_cells : evc zv = #[.int .i64 0, .int .i64 0, .int .i64 0, .int .i64 0, .int .i64 0, .int .i64 0, .int .i64 0, .int .i64 0, .int .i64 0, .int .i64 0, .int .i64 0, .int .i64 0, .int .i64 0, .int .i64 0, .int .i64 0, .int .i64 0, .int .i64 0, .int .i64 0, .int .i64 0, .int .i64 0, .string ⟨#[]⟩, .string ⟨#[]⟩, .string ⟨#[]⟩, .int .i64 0, .int .i64 0, .int .i64 0] := rfl

theorem op_sticky {s : Rd} (h : (t11 s).2.e = 0) : s.e = 0 := by
  have h10 := (whenN_ok (c := usesR (k5 s).1) (s := (t10 s).2) h).1
  have h9 := (whenN_ok (c := usesR (k5 s).1) (s := (t9 s).2) h10).1
  have h8 := (whenI_ok (c := usesN (k5 s).1) (s := (t8 s).2) h9).1
  have h7 := (whenT_ok (c := usesV (k5 s).1) (s := (t7 s).2) h8).1
  have h6 := (whenT_ok (c := usesF (k5 s).1) (s := (t6 s).2) h7).1
  have h5 := (rdT_ok (s := (k5 s).2) h6).1
  exact (rdN_ok (known_ok (k := (rdN s).1) (s := (rdN s).2) h5).1).1

end Go.Proofs.Ythdhnilfkpbmpaa
