/-
  Laws for single operations.
-/
import Derived.Test.YtagjgamigldjnaaKpa
import Derived.Deep.RegionHeld3
namespace Go.Proofs.Ytagjgamigldjnaa
set_option maxRecDepth 100000
open Go.RowKit

section
variable {o : Oper} {a : Act} {w w' : World} {K : Act → World → Prop} {Q : Exit → Act → World → Prop} {x y z : Operand} {ty : TypeId} {v v' p q : Value}
theorem yields_ex {E : Act} (h : (execOp E.eval o).run Try.prog w = .ok (.value v) w) : Yields Try.prog v w ((execOp E.eval o).run Try.prog w) := by
  rw [h]; exact ⟨rfl, Below.refl _ _⟩
theorem exec_lookupK {b : Bool} (ho : o.op = .lookup ty x y b) (hx : a.eval x = p) (hy : a.eval y = q) (hr : (Instr.lookup ty p q b).run Try.prog w = .ok v w) : (execOp a.eval o).run Try.prog w = .ok (.value v) w := by
  unfold execOp
  simp only [ho, hx, hy, Sem.run_bind, Sem.run_pure, Result.andThen_ok, hr]
theorem exec_lenI {b : Option Addr} {n c : Nat} (ho : o.op = .call { callee := .builtin .len, args := #[x], argTypes := #[50] }) (hx : a.eval x = .slice b n c) : (execOp a.eval o).run Try.prog w = .ok (.value (.int .i64 (n : Int))) w := by
  unfold execOp
  simp only [ho, resolve, invoke, builtin, Sem.run_bind, Sem.run_pure, Result.andThen_ok, List.map_toArray, List.map_cons, List.map_nil, hx]
  rw [run_len_slice w 50 o.type b n c Try.underlying50]
  rfl
theorem exec_lenE {b : Option Addr} {n c : Nat} (ho : o.op = .call { callee := .builtin .len, args := #[x], argTypes := #[22] }) (hx : a.eval x = .slice b n c) : (execOp a.eval o).run Try.prog w = .ok (.value (.int .i64 (n : Int))) w := by
  unfold execOp
  simp only [ho, resolve, invoke, builtin, Sem.run_bind, Sem.run_pure, Result.andThen_ok, List.map_toArray, List.map_cons, List.map_nil, hx]
  rw [run_len_slice w 22 o.type b n c Try.underlying22]
  rfl
theorem wp_buildK {n : Nat} {z : Value} (ho : o.op = .buildSlice ty n #[(0, x)]) (hx : a.eval x = z) (hr : (Instr.buildSlice ty n #[(0, z)]).run Try.prog w = .ok v w') (h : K (a.put o.dst v) w') : o.wp Try.prog a w K Q := by
  unfold Oper.wp execOp
  simp only [ho, List.map_toArray, List.map_cons, List.map_nil, hx, Sem.run_bind, Sem.run_pure, Result.andThen_ok, hr]
  exact h
theorem wp_appK {t1 t2 : TypeId} (ho : o.op = .call { callee := .builtin .append, args := #[x, y], argTypes := #[t1, t2] }) (hx : a.eval x = v) (hy : a.eval y = v') {z : Value} (hr : (Builtin.append_ #[t1, t2] o.type #[v, v']).run Try.prog w = .ok z w') (h : K (a.put o.dst z) w') : o.wp Try.prog a w K Q := by
  unfold Oper.wp execOp
  simp only [ho, resolve, invoke, builtin, Sem.run_bind, Sem.run_pure, Result.andThen_ok, List.map_toArray, List.map_cons, List.map_nil, hx, hy, hr]
  exact h
theorem wp_storeK {ad : Addr} (ho : o.op = .store ty x y) (hx : a.eval x = .pointer (some ad)) (hy : a.eval y = v) (hr : (Instr.storeAt ty (.pointer (some ad)) v).run Try.prog w = .ok () w') (h : K (a.put o.dst undef) w') : o.wp Try.prog a w K Q := by
  unfold Oper.wp execOp
  simp only [ho, hx, hy, Sem.run_bind, Sem.run_pure, Result.andThen_ok, hr]
  exact h
end
theorem eqGuard_ik {P : Program} (w : World) {op : BinOp} {x y : Operand} {a b : Int} : (eqGuard op 3 x y (.int .i64 a) (.int .i64 b)).run P w = .ok () w := by
  cases op <;> rfl
theorem eql_ib (W : World) (m n : Int) {t : Bool} (h : decide (m = n) = t) : (binOp .eql 3 (.int .i64 m) (.int .i64 n)).run Try.prog W = .ok (.bool t) W := by
  subst h
  have : (m == n) = decide (m = n) := by rw [Bool.eq_iff_iff]; simp
  simp [go_sem, this]
theorem sub_oneK (W : World) (q : Nat) (hq : q ≤ 1048576) : (binOp .sub 3 (.int .i64 ((q + 1 : Nat) : Int)) (.int .i64 1)).run Try.prog W = .ok (.int .i64 (q : Int)) W := by
  have hw : IntKind.i64.wrap (q : Int) = (q : Int) := by simp [IntKind.wrap, IntKind.signed, IntKind.bits]; omega
  have he : (((q + 1 : Nat) : Int) - 1) = (q : Int) := by omega
  simp only [go_sem, he, hw]
  rfl
theorem gtr_bK (W : World) (m n : Int) {t : Bool} (h : decide (n < m) = t) : (binOp .gtr 3 (.int .i64 m) (.int .i64 n)).run Try.prog W = .ok (.bool t) W := by
  subst h
  simp [go_sem]
theorem LiesE.keptK {w w' : World} {g : Nat} {e : Ev} (h : LiesE w g e) (hk : w'.heap[g]? = w.heap[g]?) : LiesE w' g e := hk.trans h
theorem field_e3i (w : World) (b i : Nat) : (Instr.fieldAt 41 (.pointer (some ⟨b, i, none⟩)) 3).run Try.prog w = .ok (.pointer (some ⟨b, i + 19, none⟩)) w := by go_simp
theorem field_p5 (w : World) (b i : Nat) : (Instr.fieldAt 39 (.pointer (some ⟨b, i, none⟩)) 5).run Try.prog w = .ok (.pointer (some ⟨b, i + 5, none⟩)) w := by go_simp
theorem load_dtr {w : World} {b k : Nat} {r n : Int} (h : w.rangeAt b k (dotc r n).toList) : (loadVar 26 ⟨b, k, none⟩).run Try.prog w = .ok (.agg (dotc r n)) w :=
  run_loadVar_mid (P := Try.prog) w b k 26 _ _ h Try.underlying26 rfl (by show _ = some 2; kernel_rfl)
theorem LiesE.dotK {w : World} {g : Nat} {e : Ev} (h : LiesE w g e) : w.rangeAt g 0 (dotc e.r e.n).toList := h.dot
/-! ### the places of a dot, one node more -/
theorem Plc.none (N : List Ev) (d : Dt) : Plc N 0 d [] := ⟨by simp, by simp, List.Pairwise.nil, fun j hj => by omega⟩
theorem Plc.other {N : List Ev} {i : Nat} {d : Dt} {L : List Nat} (h : Plc N i d L) (hd : ¬ ((atN N i).r = d.1 ∧ (atN N i).n = d.2)) : Plc N (i + 1) d L :=
  ⟨fun n hn => Nat.lt_succ_of_lt (h.lt n hn), h.dot, h.fall, fun j hj h1 h2 => by
    by_cases e : j = i
    · subst e; exact absurd ⟨h1, h2⟩ hd
    · exact h.all j (by omega) h1 h2⟩
theorem Plc.pass {N : List Ev} {i k : Nat} {d : Dt} {L : List Nat} (h : Plc N i d L) (hk : k ∈ L) (hl : laterE (atN N k) (atN N i) = false) : Plc N (i + 1) d L :=
  ⟨fun n hn => Nat.lt_succ_of_lt (h.lt n hn), h.dot, h.fall, fun j hj h1 h2 => by
    by_cases e : j = i
    · subst e; exact ⟨k, hk, Nat.le_of_lt (h.lt k hk), hl⟩
    · exact h.all j (by omega) h1 h2⟩
theorem Plc.push {N : List Ev} {i : Nat} {d : Dt} {L : List Nat} (h : Plc N i d L) (hd : (atN N i).r = d.1 ∧ (atN N i).n = d.2) (hl : ∀ k, L.getLast? = some k → laterE (atN N k) (atN N i) = true) : Plc N (i + 1) d (L ++ [i]) := by
  have allL : ∀ k ∈ L, laterE (atN N k) (atN N i) = true := fun k hk => by
    obtain ⟨t, ht, rfl⟩ := List.mem_iff_getElem.1 hk
    have hlast : L.getLast? = some L[L.length - 1] := by rw [List.getLast?_eq_getElem?, List.getElem?_eq_getElem (by omega)]
    have h1 := hl _ hlast
    by_cases e : t = L.length - 1
    · subst e; exact h1
    · exact lat_tr (List.pairwise_iff_getElem.1 h.fall t (L.length - 1) ht (by omega) (by omega)).2 h1
  refine ⟨fun n hn => ?_, fun n hn => ?_, ?_, fun j hj h1 h2 => ?_⟩
  · rcases List.mem_append.1 hn with hn | hn
    · exact Nat.lt_succ_of_lt (h.lt n hn)
    · rw [List.mem_singleton.1 hn]; omega
  · rcases List.mem_append.1 hn with hn | hn
    · exact h.dot n hn
    · rw [List.mem_singleton.1 hn]; exact hd
  · rw [List.pairwise_append]
    refine ⟨h.fall, List.pairwise_singleton _ _, fun a ha b hb => ?_⟩
    rw [List.mem_singleton.1 hb]
    exact ⟨h.lt a ha, allL a ha⟩
  · by_cases e : j = i
    · subst e; exact ⟨j, by simp, Nat.le_refl _, lat_self _⟩
    · obtain ⟨n, hn, h3, h4⟩ := h.all j (by omega) h1 h2
      exact ⟨n, by simp [hn], h3, h4⟩
end Go.Proofs.Ytagjgamigldjnaa

namespace Go.Proofs.Ytagjgamigldjnaa
set_option maxRecDepth 100000
open Go.RowKit

/-- What byDot knows of the first i nodes. -/
def Bdt (N : List Ev) (w0 : World) (i : Nat) (W : World) : Prop := (∃ f G, Gri dv W w0.heap.size (w0.heap.size + 1) f G ∧ (∀ d, Plc N i d (G d)) ∧ ∀ d, (G d).length ≤ i) ∧ Below w0.heap.size w0 W ∧ w0.heap.size + 1 ≤ W.heap.size
theorem Bdt.below {N : List Ev} {w0 W W' : World} {i : Nat} (h : Bdt N w0 i W) (hb : Below W.heap.size W W') : Bdt N w0 i W' := by
  obtain ⟨⟨f, G, h1, h2, h3⟩, h4, h5⟩ := h
  exact ⟨⟨f, G, h1.below hb (Nat.le_refl _), h2, h3⟩, h4.trans (hb.mono h4.size), Nat.le_trans h5 hb.size⟩
theorem bdt_push {N : List Ev} {i : Nat} {u : Ev} {G : Dt → List Nat} (hat : atN N i = u) (hP : ∀ d, Plc N i d (G d)) (hl : ∀ d, (G d).length ≤ i) (hk : ∀ k, (G (u.r, u.n)).getLast? = some k → laterE (atN N k) u = true) :
    (∀ d, Plc N (i + 1) d (if (u.r, u.n) = d then G (u.r, u.n) ++ [i] else G d)) ∧ ∀ d, (if (u.r, u.n) = d then G (u.r, u.n) ++ [i] else G d).length ≤ i + 1 := by
  refine ⟨fun d => ?_, fun d => ?_⟩
  · by_cases hd : (u.r, u.n) = d
    · rw [if_pos hd]
      subst hd
      exact (hP _).push (by rw [hat]; exact ⟨rfl, rfl⟩) (by rw [hat]; exact hk)
    · rw [if_neg hd]
      exact (hP d).other (fun h => hd (by rw [hat] at h; exact Prod.ext h.1 h.2))
  · split
    · have := hl (u.r, u.n); simp; omega
    · have := hl d; omega
theorem bdt_pass {N : List Ev} {i k : Nat} {u : Ev} {G : Dt → List Nat} (hat : atN N i = u) (hP : ∀ d, Plc N i d (G d)) (hk : k ∈ G (u.r, u.n)) (hl : laterE (atN N k) u = false) : ∀ d, Plc N (i + 1) d (G d) := fun d => by
  by_cases hd : (u.r, u.n) = d
  · subst hd
    exact (hP _).pass hk (by rw [hat]; exact hl)
  · exact (hP d).other (fun h => hd (by rw [hat] at h; exact Prod.ext h.1 h.2))
set_option maxHeartbeats 4000000 in
theorem bydot_any (ao : Option Addr) (m c : Nat) (N : List Ev) (w : World) (hE : Evs w ao m c N) (hm : m ≤ 1000) :
    Calls Try.prog 29 #[.slice ao m c] w fun e w' => e = .returned (.map (some w.heap.size)) ∧ (∃ f G, Gri dv w' w.heap.size (w.heap.size + 1) f G ∧ (∀ d, Plc N m d (G d)) ∧ ∀ d, (G d).length ≤ m) ∧ Below w.heap.size w w' := by
  have hlen := hE.len
  have HE : Aside (Evs w ao m c N) := hE
  have H0 : Aside (Bdt N w 0 (w.alloc (.map #[] 0))) := ⟨⟨_, _, gri_new dv w, fun d => Plc.none N d, fun d => Nat.le_refl _⟩, (Below.refl _ _).alloc (Nat.le_refl _) _, by simp⟩
  clear hE
  have hmm := @run_makeMap Try.prog
  go_enter Try.func29, Try.ntmps29
  go_wp2
  clear hmm
  go_loopg [10] m (fun kx s10 wr => ∃ i : Nat, s10 = .int .i64 i ∧ i ≤ m ∧ m - i ≤ kx ∧ Aside (Bdt N w i wr))
  case atStart => exact ⟨0, rfl, Nat.zero_le _, by omega, H0⟩
  case round =>
    clear H0
    obtain ⟨i, rfl, him, hkx, HS⟩ := hrel
    by_cases hlt : i < m
    · have hltz : (i : Int) < (m : Int) := by omega
      obtain ⟨b, off, u, rfl, hui, hu, hr, hbl⟩ := (HE.out.below HS.out.2.1 (Nat.le_refl _)).at hlt
      have hu16 := hu.1
      have hat : Hid (atN N i = u) := atN_get hui
      have hix := fun W : World => index_ev W (b := b) (off := off) (k := i) (m := m) (c := c) hlt
      have hz := liesE_new wr zv
      have hB1 : Below wr.heap.size wr ((wr.alloc (.cells (evc zv) 41)).setRow wr.heap.size (evc u)) := below_setRow ((Below.refl _ _).alloc (Nat.le_refl _) _) (Nat.le_refl _) _
      obtain ⟨f, G, hG, hPl, hGl⟩ := HS.out.1
      have HFD : Hid (∀ t k, (rowOf f t).ownBlock = some k → k < wr.heap.size) := fun t k hk => ((hG.rows t).lt k hk).2
      have HS1 : Aside (LiesE ((wr.alloc (.cells (evc zv) 41)).setRow wr.heap.size (evc u)) wr.heap.size u ∧ Gri dv ((wr.alloc (.cells (evc zv) 41)).setRow wr.heap.size (evc u)) w.heap.size (w.heap.size + 1) f G ∧ Below w.heap.size w ((wr.alloc (.cells (evc zv) 41)).setRow wr.heap.size (evc u)) ∧ w.heap.size + 1 ≤ ((wr.alloc (.cells (evc zv) 41)).setRow wr.heap.size (evc u)).heap.size) := ⟨hz.row u, hG.below hB1 (Nat.le_refl _), HS.out.2.1.trans (hB1.mono HS.out.2.1.size), Nat.le_trans HS.out.2.2 hB1.size⟩
      have HPl : Hid (∀ d, Plc N i d (G d)) := hPl
      have HGl : Hid (∀ d, (G d).length ≤ i) := hGl
      have hDb : w.heap.size < wr.heap.size := HS.out.2.2
      clear hB1 HS hui hG hPl hGl
      go_upto_region 5 with (first | refine load_ev_mid rfl rfl rfl hr hu16 ?_ | refine store_ev rfl rfl rfl rfl hz hu16 rfl ?_)
      change Code.wp _ _ _ _ ((wr.alloc (.cells (evc zv) 41)).setRow wr.heap.size (evc u))
      clear hz hr hix hbl
      generalize (wr.alloc (.cells (evc zv) 41)).setRow wr.heap.size (evc u) = W at HS1 ⊢
      generalize wr.heap.size = D at *
      obtain ⟨a2, c2, hv0, hIV⟩ := (HS1.out.2.1.rows (u.r, u.n)).iv
      have hlk := HS1.out.2.1.look keyDot mapD (u.r, u.n)
      rw [hv0] at hlk
      have hdt := HS1.out.1.dotK
      have HIV : Aside (IV W a2 (G (u.r, u.n)).length c2 (G (u.r, u.n))) := hIV
      have HV0 : Hid (rowOf f (u.r, u.n) = .slice a2 (G (u.r, u.n)).length c2) := hv0
      clear hIV hv0
      go_upto_region 6 with (first | refine load_dot_at rfl rfl rfl hdt ?_ | refine wpl_exK rfl (exec_lookupK rfl rfl rfl hlk) ?_)
      have hlen2 := HGl.out (u.r, u.n)
      obtain ⟨q, hq⟩ : ∃ q, (G (u.r, u.n)).length = q := ⟨_, rfl⟩
      rw [hq] at hlk HIV HV0 hlen2 ⊢
      have HQ : Hid ((G (u.r, u.n)).length = q) := hq
      clear hq
      rcases (show q = 0 ∨ ∃ t, q = t + 1 from by cases q with | zero => exact .inl rfl | succ t => exact .inr ⟨t, rfl⟩) with rfl | ⟨t, rfl⟩
      · clear hlk HIV hdt
        refine region_vals [19, 20, 21, 22, 23, 24, 25, 26, 27, 28, 29, 30, 31, 32, 33, 34] [.slice a2 0 c2, .int .i64 ((0 : Nat) : Int), .bool true, .bool true, undef, undef, undef, undef, undef, undef, undef, undef, undef, undef, undef, .bool true] _ (by kernel_rfl) (by kernel_rfl) (by rfl) (by decide) (by kernel_rfl) (by simp only [lay, Act.put, List.setIfInBounds_toArray, List.set_cons_zero, List.set_cons_succ, List.getD_cons_zero, List.getD_cons_succ, Nat.reduceAdd]; rfl) ⟨?_, ?_, ?_, ?_, ?_, ?_, ?_, ?_, ?_, ?_, ?_, ?_, ?_, ?_, ?_, ?_, trivial⟩ ?_
        · exact .inl ⟨rfl, fun W hb => yields_move rfl rfl⟩
        · exact .inl ⟨rfl, fun W hb => yields_ex (exec_lenI rfl rfl)⟩
        · exact .inl ⟨rfl, fun W hb => yields_bin rfl rfl rfl (eqGuard_ik W) (eql_ib W _ _ (by decide))⟩
        · exact .inl ⟨rfl, fun W hb => yields_move rfl rfl⟩
        · exact .inr ⟨rfl, rfl⟩
        · exact .inr ⟨rfl, rfl⟩
        · exact .inr ⟨rfl, rfl⟩
        · exact .inr ⟨rfl, rfl⟩
        · exact .inr ⟨rfl, rfl⟩
        · exact .inr ⟨rfl, rfl⟩
        · exact .inr ⟨rfl, rfl⟩
        · exact .inr ⟨rfl, rfl⟩
        · exact .inr ⟨rfl, rfl⟩
        · exact .inr ⟨rfl, rfl⟩
        · exact .inr ⟨rfl, rfl⟩
        · exact .inl ⟨rfl, fun W hb => yields_pick rfl rfl rfl⟩
        intro W1 hb1
        have HS2 : Aside (LiesE W1 D u ∧ Gri dv W1 w.heap.size (w.heap.size + 1) f G ∧ Below w.heap.size w W1 ∧ w.heap.size + 1 ≤ W1.heap.size) := ⟨HS1.out.1.below hb1 HS1.out.1.lt, HS1.out.2.1.below hb1 (Nat.le_refl _), HS1.out.2.2.1.trans (hb1.mono HS1.out.2.2.1.size), Nat.le_trans HS1.out.2.2.2 hb1.size⟩
        clear hb1 HS1
        have hE2 : LiesE W1.drew D u := HS2.out.1
        have hG2 : Gri dv W1.drew w.heap.size (w.heap.size + 1) f G := HS2.out.2.1.below (Below.refl _ _).drew (Nat.le_refl _)
        have hBA : Below W1.drew.heap.size W1.drew (W1.drew.alloc (.cells #[.int .i64 (i : Int)] 3)) := (Below.refl _ _).alloc (Nat.le_refl _) _
        have hE3 : LiesE (W1.drew.alloc (.cells #[.int .i64 (i : Int)] 3)) D u := hE2.below hBA hE2.lt
        obtain ⟨v, w4, w5, hr4, hr5, hG5, hk4, hk5, hb5⟩ := hG2.push keyDot mapD (u.r, u.n) i (by have := HGl.out (u.r, u.n); omega) HS2.out.2.2.2 50
        rw [HV0.out] at hr4
        have hDr : some D ≠ (rowOf f (u.r, u.n)).ownBlock := fun e => Nat.lt_irrefl _ (HFD.out _ _ e.symm)
        have hE4 : LiesE w4 D u := hE2.keptK (hk4 D hE2.lt hDr)
        have hE5 : LiesE w5 D u := hE2.keptK (hk5 D hE2.lt hDr (by omega))
        have hps := bdt_push hat.out HPl.out HGl.out (fun k hk => by rw [List.eq_nil_of_length_eq_zero HQ.out] at hk; cases hk)
        have HS4 : Aside (Bdt N w (i + 1) w5) := ⟨⟨_, _, hG5, hps.1, hps.2⟩, HS2.out.2.2.1.drew.trans hb5, Nat.le_trans HS2.out.2.2.2 hb5.size⟩
        clear hps hG2 hG5 hk4 hk5 hb5 hBA HFD hDr HPl HGl hat HV0
        clear HS2 HQ
        go_wp2_with fail
        refine wp_region_noPanic ?_
        refine wp_region_held_drew (S := fun W' : World => LiesE W' D u) (by kernel_rfl) hE2 (fun hHeld => ?_)
        refine wpAnyH_take (i := 0) (oi := { dst := some 35, op := _, type := _, pos := _, after := _, guard := _ }) (v := .map (some w.heap.size)) rfl (by kernel_rfl) (by kernel_rfl) (by kernel_rfl) (fun _ _ _ h => h) (Or.inl ⟨by rfl, ?_⟩) (by assumption) ?_
        · intro w9 hSw
          exact exec_move rfl rfl
        simp only [Act.put, List.setIfInBounds_toArray, List.set_cons_zero, List.set_cons_succ]
        refine wpAnyH_take (i := 1) (oi := { dst := some 36, op := _, type := _, pos := _, after := _, guard := _ }) (v := .pointer (some ⟨D, 0, none⟩)) rfl (by kernel_rfl) (by kernel_rfl) (by kernel_rfl) (fun _ _ _ h => h) (Or.inl ⟨by rfl, ?_⟩) (by assumption) ?_
        · intro w9 hSw
          exact exec_field rfl rfl (fun w => field_e0 w _ _)
        simp only [Act.put, List.setIfInBounds_toArray, List.set_cons_zero, List.set_cons_succ]
        refine wpAnyH_take (i := 2) (oi := { dst := some 37, op := _, type := _, pos := _, after := _, guard := _ }) (v := .agg (dotc u.r u.n)) rfl (by kernel_rfl) (by kernel_rfl) (by kernel_rfl) (fun _ _ _ h => h) (Or.inl ⟨by rfl, ?_⟩) (by assumption) ?_
        · intro w9 hSw
          exact exec_load (ad := ⟨D, 0, none⟩) rfl rfl (load_dtr hSw.dotK)
        simp only [Act.put, List.setIfInBounds_toArray, List.set_cons_zero, List.set_cons_succ]
        refine wpAnyH_take (i := 3) (oi := { dst := some 38, op := _, type := _, pos := _, after := _, guard := _ }) (v := .slice a2 0 c2) rfl (by kernel_rfl) (by kernel_rfl) (by kernel_rfl) (fun _ _ _ h => h) (Or.inl ⟨by rfl, ?_⟩) (by assumption) ?_
        · intro w9 hSw
          exact exec_move rfl rfl
        simp only [Act.put, List.setIfInBounds_toArray, List.set_cons_zero, List.set_cons_succ]
        refine wpAnyH_take (i := 4) (oi := { dst := some 39, op := _, type := _, pos := _, after := _, guard := _ }) (v := .int .i64 (i : Int)) rfl (by kernel_rfl) (by kernel_rfl) (by kernel_rfl) (fun _ _ _ h => h) (Or.inl ⟨by rfl, ?_⟩) (by assumption) ?_
        · intro w9 hSw
          exact exec_move rfl rfl
        simp only [Act.put, List.setIfInBounds_toArray, List.set_cons_zero, List.set_cons_succ]
        clear hHeld
        refine wpAnyH_ready (rs := [5]) (by kernel_rfl) (by simp) ?_
        refine AllReadyH.cons (o := { dst := some 40, op := _, type := _, pos := _, after := _, guard := _ }) rfl (fun K hK => ?_) AllReadyH.nil
        rw [if_pos (by rfl)]
        refine wp_buildK rfl rfl (run_buildI _ i) ?_
        refine hK.out _ _ hE3 (fun hHeld => ?_)
        clear hK K
        simp only [Act.put, List.setIfInBounds_toArray, List.set_cons_zero, List.set_cons_succ]
        refine wpAnyH_ready (rs := [6]) (by kernel_rfl) (by simp) ?_
        refine AllReadyH.cons (o := { dst := some 41, op := _, type := _, pos := _, after := _, guard := _ }) rfl (fun K hK => ?_) AllReadyH.nil
        rw [if_pos (by rfl)]
        refine wp_appK rfl rfl rfl hr4 ?_
        refine hK.out _ _ hE4 (fun hHeld => ?_)
        clear hK K
        simp only [Act.put, List.setIfInBounds_toArray, List.set_cons_zero, List.set_cons_succ]
        refine wpAnyH_ready (rs := [7]) (by kernel_rfl) (by simp) ?_
        refine AllReadyH.cons (o := { dst := none, op := _, type := _, pos := _, after := _, guard := _ }) rfl (fun K hK => ?_) AllReadyH.nil
        rw [if_pos (by rfl)]
        refine wp_mapu rfl rfl rfl rfl hr5 ?_
        refine hK.out _ _ hE5 (fun hHeld => ?_)
        clear hK K
        simp only [Act.put]
        refine wpAnyH_done (by kernel_rfl) ?_ _
        refine NoPanic.normal ?_
        clear hHeld
        clear hE2 hE3 hE4 hE5 hr4 hr5
        go_wp2
        go_roundg (m - (i + 1))
        case measure => omega
        case rel => exact ⟨i + 1, by go_num, by omega, Nat.le_refl _, HS4⟩
      · obtain ⟨b2, off2, n, rfl, hni, hcl, -⟩ := HIV.out.at (Nat.lt_succ_self t)
        have hnm0 := (HPl.out (u.r, u.n)).lt n (List.mem_of_getElem? hni)
        have hnm : n < m := by omega
        obtain ⟨b', off', x, hao, hxn, hx, hrx, hbx⟩ := (HE.out.below HS1.out.2.2.1 (Nat.le_refl _)).at hnm
        obtain ⟨rfl, rfl⟩ : b = b' ∧ off = off' := by simpa using hao
        have hLE := HS1.out.1
        have HX : Hid (atN N n = x) := atN_get hxn
        have HNI : Hid ((G (u.r, u.n))[t]? = some n) := hni
        clear hni hxn hao hlk HIV hdt
        refine region_vals [19, 20, 21, 22, 23, 24, 25, 26, 27, 28, 29, 30, 31, 32, 33, 34] [.slice (some ⟨b2, off2, none⟩) (t + 1) c2, .int .i64 ((t + 1 : Nat) : Int), .bool false, .bool false, .slice (some ⟨b, off, none⟩) m c, .slice (some ⟨b2, off2, none⟩) (t + 1) c2, .slice (some ⟨b2, off2, none⟩) (t + 1) c2, .int .i64 ((t + 1 : Nat) : Int), .int .i64 (t : Int), .pointer (some ⟨b2, off2 + t, none⟩), .int .i64 (n : Int), .pointer (some ⟨b, off + n * 26, none⟩), .agg (evc x), .agg (evc u), .bool (laterE x u), .bool (laterE x u)] _ (by kernel_rfl) (by kernel_rfl) (by rfl) (by decide) (by kernel_rfl) (by simp only [lay, Act.put, List.setIfInBounds_toArray, List.set_cons_zero, List.set_cons_succ, List.getD_cons_zero, List.getD_cons_succ, Nat.reduceAdd]; rfl) ⟨?_, ?_, ?_, ?_, ?_, ?_, ?_, ?_, ?_, ?_, ?_, ?_, ?_, ?_, ?_, ?_, trivial⟩ ?_
        · exact .inl ⟨rfl, fun W hb => yields_move rfl rfl⟩
        · exact .inl ⟨rfl, fun W hb => yields_ex (exec_lenI rfl rfl)⟩
        · exact .inl ⟨rfl, fun W hb => yields_bin rfl rfl rfl (eqGuard_ik W) (eql_ib W _ _ (decide_eq_false (by omega)))⟩
        · exact .inl ⟨rfl, fun W hb => yields_move rfl rfl⟩
        · exact .inl ⟨rfl, fun W hb => yields_move rfl rfl⟩
        · exact .inl ⟨rfl, fun W hb => yields_move rfl rfl⟩
        · exact .inl ⟨rfl, fun W hb => yields_move rfl rfl⟩
        · exact .inl ⟨rfl, fun W hb => yields_ex (exec_lenI rfl rfl)⟩
        · exact .inl ⟨rfl, fun W hb => yields_bin rfl rfl rfl (eqGuard_ik W) (sub_oneK W t (by omega))⟩
        · exact .inl ⟨rfl, fun W hb => yields_indexAddr rfl rfl rfl (index_i W (Nat.lt_succ_self t))⟩
        · exact .inl ⟨rfl, fun W hb => yields_load rfl rfl (load_i ((hb.cell (block_lt_of_cell hcl)).trans hcl))⟩
        · exact .inl ⟨rfl, fun W hb => yields_indexAddr rfl rfl rfl (index_ev W hnm)⟩
        · exact .inl ⟨rfl, fun W hb => yields_load rfl rfl (load_part (range_below hrx hb hbx) hx.1)⟩
        · exact .inl ⟨rfl, fun W hb => yields_load rfl rfl (load_ev_run (hLE.below hb hLE.lt) hu16)⟩
        · exact .inl ⟨rfl, fun W hb => yields_call (xs := [.tmp 31, .tmp 32]) (vs := [.agg (evc x), .agg (evc u)]) rfl rfl (enters_later _ _) (later_any x u W)⟩
        · exact .inl ⟨rfl, fun W hb => yields_pick rfl rfl rfl⟩
        intro W1 hb1
        have HS2 : Aside (LiesE W1 D u ∧ Gri dv W1 w.heap.size (w.heap.size + 1) f G ∧ Below w.heap.size w W1 ∧ w.heap.size + 1 ≤ W1.heap.size) := ⟨HS1.out.1.below hb1 HS1.out.1.lt, HS1.out.2.1.below hb1 (Nat.le_refl _), HS1.out.2.2.1.trans (hb1.mono HS1.out.2.2.1.size), Nat.le_trans HS1.out.2.2.2 hb1.size⟩
        clear hb1 HS1 hLE hrx hcl hbx
        rcases Bool.eq_false_or_eq_true (laterE x u) with hl | hl
        · rw [hl]
          have hE2 : LiesE W1.drew D u := HS2.out.1
          have hG2 : Gri dv W1.drew w.heap.size (w.heap.size + 1) f G := HS2.out.2.1.below (Below.refl _ _).drew (Nat.le_refl _)
          have hBA : Below W1.drew.heap.size W1.drew (W1.drew.alloc (.cells #[.int .i64 (i : Int)] 3)) := (Below.refl _ _).alloc (Nat.le_refl _) _
          have hE3 : LiesE (W1.drew.alloc (.cells #[.int .i64 (i : Int)] 3)) D u := hE2.below hBA hE2.lt
          obtain ⟨v, w4, w5, hr4, hr5, hG5, hk4, hk5, hb5⟩ := hG2.push keyDot mapD (u.r, u.n) i (by have := HGl.out (u.r, u.n); omega) HS2.out.2.2.2 50
          rw [HV0.out] at hr4
          have hDr : some D ≠ (rowOf f (u.r, u.n)).ownBlock := fun e => Nat.lt_irrefl _ (HFD.out _ _ e.symm)
          have hE4 : LiesE w4 D u := hE2.keptK (hk4 D hE2.lt hDr)
          have hE5 : LiesE w5 D u := hE2.keptK (hk5 D hE2.lt hDr (by omega))
          have hps := bdt_push hat.out HPl.out HGl.out (fun k hk => by rw [List.getLast?_eq_getElem?, HQ.out, Nat.add_sub_cancel, HNI.out] at hk; rw [← Option.some.inj hk, HX.out]; exact hl)
          have HS4 : Aside (Bdt N w (i + 1) w5) := ⟨⟨_, _, hG5, hps.1, hps.2⟩, HS2.out.2.2.1.drew.trans hb5, Nat.le_trans HS2.out.2.2.2 hb5.size⟩
          clear hps hG2 hG5 hk4 hk5 hb5 hBA HFD hDr HPl HGl hat HV0
          clear HS2 HQ HX HNI hl
          go_wp2_with fail
          refine wp_region_noPanic ?_
          refine wp_region_held_drew (S := fun W' : World => LiesE W' D u) (by kernel_rfl) hE2 (fun hHeld => ?_)
          refine wpAnyH_take (i := 0) (oi := { dst := some 35, op := _, type := _, pos := _, after := _, guard := _ }) (v := .map (some w.heap.size)) rfl (by kernel_rfl) (by kernel_rfl) (by kernel_rfl) (fun _ _ _ h => h) (Or.inl ⟨by rfl, ?_⟩) (by assumption) ?_
          · intro w9 hSw
            exact exec_move rfl rfl
          simp only [Act.put, List.setIfInBounds_toArray, List.set_cons_zero, List.set_cons_succ]
          refine wpAnyH_take (i := 1) (oi := { dst := some 36, op := _, type := _, pos := _, after := _, guard := _ }) (v := .pointer (some ⟨D, 0, none⟩)) rfl (by kernel_rfl) (by kernel_rfl) (by kernel_rfl) (fun _ _ _ h => h) (Or.inl ⟨by rfl, ?_⟩) (by assumption) ?_
          · intro w9 hSw
            exact exec_field rfl rfl (fun w => field_e0 w _ _)
          simp only [Act.put, List.setIfInBounds_toArray, List.set_cons_zero, List.set_cons_succ]
          refine wpAnyH_take (i := 2) (oi := { dst := some 37, op := _, type := _, pos := _, after := _, guard := _ }) (v := .agg (dotc u.r u.n)) rfl (by kernel_rfl) (by kernel_rfl) (by kernel_rfl) (fun _ _ _ h => h) (Or.inl ⟨by rfl, ?_⟩) (by assumption) ?_
          · intro w9 hSw
            exact exec_load (ad := ⟨D, 0, none⟩) rfl rfl (load_dtr hSw.dotK)
          simp only [Act.put, List.setIfInBounds_toArray, List.set_cons_zero, List.set_cons_succ]
          refine wpAnyH_take (i := 3) (oi := { dst := some 38, op := _, type := _, pos := _, after := _, guard := _ }) (v := .slice (some ⟨b2, off2, none⟩) (t + 1) c2) rfl (by kernel_rfl) (by kernel_rfl) (by kernel_rfl) (fun _ _ _ h => h) (Or.inl ⟨by rfl, ?_⟩) (by assumption) ?_
          · intro w9 hSw
            exact exec_move rfl rfl
          simp only [Act.put, List.setIfInBounds_toArray, List.set_cons_zero, List.set_cons_succ]
          refine wpAnyH_take (i := 4) (oi := { dst := some 39, op := _, type := _, pos := _, after := _, guard := _ }) (v := .int .i64 (i : Int)) rfl (by kernel_rfl) (by kernel_rfl) (by kernel_rfl) (fun _ _ _ h => h) (Or.inl ⟨by rfl, ?_⟩) (by assumption) ?_
          · intro w9 hSw
            exact exec_move rfl rfl
          simp only [Act.put, List.setIfInBounds_toArray, List.set_cons_zero, List.set_cons_succ]
          clear hHeld
          refine wpAnyH_ready (rs := [5]) (by kernel_rfl) (by simp) ?_
          refine AllReadyH.cons (o := { dst := some 40, op := _, type := _, pos := _, after := _, guard := _ }) rfl (fun K hK => ?_) AllReadyH.nil
          rw [if_pos (by rfl)]
          refine wp_buildK rfl rfl (run_buildI _ i) ?_
          refine hK.out _ _ hE3 (fun hHeld => ?_)
          clear hK K
          simp only [Act.put, List.setIfInBounds_toArray, List.set_cons_zero, List.set_cons_succ]
          refine wpAnyH_ready (rs := [6]) (by kernel_rfl) (by simp) ?_
          refine AllReadyH.cons (o := { dst := some 41, op := _, type := _, pos := _, after := _, guard := _ }) rfl (fun K hK => ?_) AllReadyH.nil
          rw [if_pos (by rfl)]
          refine wp_appK rfl rfl rfl hr4 ?_
          refine hK.out _ _ hE4 (fun hHeld => ?_)
          clear hK K
          simp only [Act.put, List.setIfInBounds_toArray, List.set_cons_zero, List.set_cons_succ]
          refine wpAnyH_ready (rs := [7]) (by kernel_rfl) (by simp) ?_
          refine AllReadyH.cons (o := { dst := none, op := _, type := _, pos := _, after := _, guard := _ }) rfl (fun K hK => ?_) AllReadyH.nil
          rw [if_pos (by rfl)]
          refine wp_mapu rfl rfl rfl rfl hr5 ?_
          refine hK.out _ _ hE5 (fun hHeld => ?_)
          clear hK K
          simp only [Act.put]
          refine wpAnyH_done (by kernel_rfl) ?_ _
          refine NoPanic.normal ?_
          clear hHeld
          clear hE2 hE3 hE4 hE5 hr4 hr5
          go_wp2
          go_roundg (m - (i + 1))
          case measure => omega
          case rel => exact ⟨i + 1, by go_num, by omega, Nat.le_refl _, HS4⟩
        · rw [hl]
          have HS4 : Aside (Bdt N w (i + 1) W1) := ⟨⟨f, G, HS2.out.2.1, bdt_pass hat.out HPl.out (List.mem_of_getElem? HNI.out) (by rw [HX.out]; exact hl), fun d => Nat.le_succ_of_le (HGl.out d)⟩, HS2.out.2.2⟩
          clear HS2 HQ HX HNI hl HFD HPl HGl hat HV0
          go_wp2
          go_roundg (m - (i + 1))
          case measure => omega
          case rel => exact ⟨i + 1, by go_num, by omega, Nat.le_refl _, HS4⟩
    · obtain rfl : m = i := by omega
      have HS1 : Hid _ := HS.out
      clear HS
      go_wp2
      go_ret
      exact ⟨rfl, HS1.out.1, HS1.out.2.1⟩
end Go.Proofs.Ytagjgamigldjnaa
