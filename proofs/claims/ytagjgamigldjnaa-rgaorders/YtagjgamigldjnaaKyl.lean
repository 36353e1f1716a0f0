/-
  Laws for single operations.
-/
import Derived.Test.YtagjgamigldjnaaKpa
namespace Go.Proofs.Ytagjgamigldjnaa
set_option maxRecDepth 100000
open Go.RowKit

section
variable {o : Oper} {a : Act} {w w' : World} {K : Act → World → Prop} {Q : Exit → Act → World → Prop} {x y z : Operand} {ty : TypeId} {v v' p q : Value}
theorem yields_ex {E : Act} (h : (execOp E.eval o).run Try.prog w = .ok (.value v) w) : Yields Try.prog v w ((execOp E.eval o).run Try.prog w) := by
  rw [h]; exact ⟨rfl, Below.refl _ _⟩
theorem exec_lookupK {b : Bool} (ho : o.op = .lookup ty x y b) (hx : a.eval x = p) (hy : a.eval y = q) (hr : (Instr.lookup ty p q b).run Try.prog w = .ok v w) : (execOp a.eval o).run Try.prog w = .ok (.value v) w := by
  unfold execOp
  simp only [ho, hx, hy, Sem.run_bind, Sem.run_pure, Result.andThen_ok, hr]
theorem exec_lenI {b : Option Addr} {n c : Nat} (ho : o.op = .call { callee := .builtin .len, args := #[x], argTypes := #[50] }) (hx : a.eval x = .slice b n c) : (execOp a.eval o).run Try.prog w = .ok (.value (.int .i64 (n : Int))) w := by
  unfold execOp
  simp only [ho, resolve, invoke, builtin, Sem.run_bind, Sem.run_pure, Result.andThen_ok, List.map_toArray, List.map_cons, List.map_nil, hx]
  rw [run_len_slice w 50 o.type b n c Try.underlying50]
  rfl
theorem exec_lenE {b : Option Addr} {n c : Nat} (ho : o.op = .call { callee := .builtin .len, args := #[x], argTypes := #[22] }) (hx : a.eval x = .slice b n c) : (execOp a.eval o).run Try.prog w = .ok (.value (.int .i64 (n : Int))) w := by
  unfold execOp
  simp only [ho, resolve, invoke, builtin, Sem.run_bind, Sem.run_pure, Result.andThen_ok, List.map_toArray, List.map_cons, List.map_nil, hx]
  rw [run_len_slice w 22 o.type b n c Try.underlying22]
  rfl
theorem wp_buildK {n : Nat} {z : Value} (ho : o.op = .buildSlice ty n #[(0, x)]) (hx : a.eval x = z) (hr : (Instr.buildSlice ty n #[(0, z)]).run Try.prog w = .ok v w') (h : K (a.put o.dst v) w') : o.wp Try.prog a w K Q := by
  unfold Oper.wp execOp
  simp only [ho, List.map_toArray, List.map_cons, List.map_nil, hx, Sem.run_bind, Sem.run_pure, Result.andThen_ok, hr]
  exact h
theorem wp_appK {t1 t2 : TypeId} (ho : o.op = .call { callee := .builtin .append, args := #[x, y], argTypes := #[t1, t2] }) (hx : a.eval x = v) (hy : a.eval y = v') {z : Value} (hr : (Builtin.append_ #[t1, t2] o.type #[v, v']).run Try.prog w = .ok z w') (h : K (a.put o.dst z) w') : o.wp Try.prog a w K Q := by
  unfold Oper.wp execOp
  simp only [ho, resolve, invoke, builtin, Sem.run_bind, Sem.run_pure, Result.andThen_ok, List.map_toArray, List.map_cons, List.map_nil, hx, hy, hr]
  exact h
theorem wp_storeK {ad : Addr} (ho : o.op = .store ty x y) (hx : a.eval x = .pointer (some ad)) (hy : a.eval y = v) (hr : (Instr.storeAt ty (.pointer (some ad)) v).run Try.prog w = .ok () w') (h : K (a.put o.dst undef) w') : o.wp Try.prog a w K Q := by
  unfold Oper.wp execOp
  simp only [ho, hx, hy, Sem.run_bind, Sem.run_pure, Result.andThen_ok, hr]
  exact h
end
theorem eqGuard_ik {P : Program} (w : World) {op : BinOp} {x y : Operand} {a b : Int} : (eqGuard op 3 x y (.int .i64 a) (.int .i64 b)).run P w = .ok () w := by
  cases op <;> rfl
theorem eql_ib (W : World) (m n : Int) {t : Bool} (h : decide (m = n) = t) : (binOp .eql 3 (.int .i64 m) (.int .i64 n)).run Try.prog W = .ok (.bool t) W := by
  subst h
  have : (m == n) = decide (m = n) := by rw [Bool.eq_iff_iff]; simp
  simp [go_sem, this]
theorem sub_oneK (W : World) (q : Nat) (hq : q ≤ 1048576) : (binOp .sub 3 (.int .i64 ((q + 1 : Nat) : Int)) (.int .i64 1)).run Try.prog W = .ok (.int .i64 (q : Int)) W := by
  have hw : IntKind.i64.wrap (q : Int) = (q : Int) := by simp [IntKind.wrap, IntKind.signed, IntKind.bits]; omega
  have he : (((q + 1 : Nat) : Int) - 1) = (q : Int) := by omega
  simp only [go_sem, he, hw]
  rfl
theorem gtr_bK (W : World) (m n : Int) {t : Bool} (h : decide (n < m) = t) : (binOp .gtr 3 (.int .i64 m) (.int .i64 n)).run Try.prog W = .ok (.bool t) W := by
  subst h
  simp [go_sem]
theorem LiesE.keptK {w w' : World} {g : Nat} {e : Ev} (h : LiesE w g e) (hk : w'.heap[g]? = w.heap[g]?) : LiesE w' g e := hk.trans h
theorem field_e3i (w : World) (b i : Nat) : (Instr.fieldAt 41 (.pointer (some ⟨b, i, none⟩)) 3).run Try.prog w = .ok (.pointer (some ⟨b, i + 19, none⟩)) w := by go_simp
theorem field_p5 (w : World) (b i : Nat) : (Instr.fieldAt 39 (.pointer (some ⟨b, i, none⟩)) 5).run Try.prog w = .ok (.pointer (some ⟨b, i + 5, none⟩)) w := by go_simp
theorem load_dtr {w : World} {b k : Nat} {r n : Int} (h : w.rangeAt b k (dotc r n).toList) : (loadVar 26 ⟨b, k, none⟩).run Try.prog w = .ok (.agg (dotc r n)) w :=
  run_loadVar_mid (P := Try.prog) w b k 26 _ _ h Try.underlying26 rfl (by show _ = some 2; kernel_rfl)
theorem LiesE.dotK {w : World} {g : Nat} {e : Ev} (h : LiesE w g e) : w.rangeAt g 0 (dotc e.r e.n).toList := h.dot
/-! ### the places of a dot, one node more -/
theorem Plc.none (N : List Ev) (d : Dt) : Plc N 0 d [] := ⟨by simp, by simp, List.Pairwise.nil, fun j hj => by omega⟩
theorem Plc.other {N : List Ev} {i : Nat} {d : Dt} {L : List Nat} (h : Plc N i d L) (hd : ¬ ((atN N i).r = d.1 ∧ (atN N i).n = d.2)) : Plc N (i + 1) d L :=
  ⟨fun n hn => Nat.lt_succ_of_lt (h.lt n hn), h.dot, h.fall, fun j hj h1 h2 => by
    by_cases e : j = i
    · subst e; exact absurd ⟨h1, h2⟩ hd
    · exact h.all j (by omega) h1 h2⟩
theorem Plc.pass {N : List Ev} {i k : Nat} {d : Dt} {L : List Nat} (h : Plc N i d L) (hk : k ∈ L) (hl : laterE (atN N k) (atN N i) = false) : Plc N (i + 1) d L :=
  ⟨fun n hn => Nat.lt_succ_of_lt (h.lt n hn), h.dot, h.fall, fun j hj h1 h2 => by
    by_cases e : j = i
    · subst e; exact ⟨k, hk, Nat.le_of_lt (h.lt k hk), hl⟩
    · exact h.all j (by omega) h1 h2⟩
theorem Plc.push {N : List Ev} {i : Nat} {d : Dt} {L : List Nat} (h : Plc N i d L) (hd : (atN N i).r = d.1 ∧ (atN N i).n = d.2) (hl : ∀ k, L.getLast? = some k → laterE (atN N k) (atN N i) = true) : Plc N (i + 1) d (L ++ [i]) := by
  have allL : ∀ k ∈ L, laterE (atN N k) (atN N i) = true := fun k hk => by
    obtain ⟨t, ht, rfl⟩ := List.mem_iff_getElem.1 hk
    have hlast : L.getLast? = some L[L.length - 1] := by rw [List.getLast?_eq_getElem?, List.getElem?_eq_getElem (by omega)]
    have h1 := hl _ hlast
    by_cases e : t = L.length - 1
    · subst e; exact h1
    · exact lat_tr (List.pairwise_iff_getElem.1 h.fall t (L.length - 1) ht (by omega) (by omega)).2 h1
  refine ⟨fun n hn => ?_, fun n hn => ?_, ?_, fun j hj h1 h2 => ?_⟩
  · rcases List.mem_append.1 hn with hn | hn
    · exact Nat.lt_succ_of_lt (h.lt n hn)
    · rw [List.mem_singleton.1 hn]; omega
  · rcases List.mem_append.1 hn with hn | hn
    · exact h.dot n hn
    · rw [List.mem_singleton.1 hn]; exact hd
  · rw [List.pairwise_append]
    refine ⟨h.fall, List.pairwise_singleton _ _, fun a ha b hb => ?_⟩
    rw [List.mem_singleton.1 hb]
    exact ⟨h.lt a ha, allL a ha⟩
  · by_cases e : j = i
    · subst e; exact ⟨j, by simp, Nat.le_refl _, lat_self _⟩
    · obtain ⟨n, hn, h3, h4⟩ := h.all j (by omega) h1 h2
      exact ⟨n, by simp [hn], h3, h4⟩
end Go.Proofs.Ytagjgamigldjnaa
