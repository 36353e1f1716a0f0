/-
  PeerServes, the walk.
-/
import Derived.Test.YteanpepmncgagaaPsp
namespace Go.Proofs.Yteanpepmncgagaa
set_option maxRecDepth 100000
open Go.RowKit

theorem enters_reright (xs : Array Value) (w : World) : (callFunc 19 xs).run Try.prog w = .ok (.enter 19 xs) w := enters Try.func19 (by kernel_rfl) (by kernel_rfl) xs w
theorem enters_rmay (xs : Array Value) (w : World) : (callFunc 20 xs).run Try.prog w = .ok (.enter 20 xs) w := enters Try.func20 (by kernel_rfl) (by kernel_rfl) xs w
theorem field_dm0 (w : World) (b k : Nat) : (Instr.fieldAt 33 (.pointer (some ⟨b, k, none⟩)) 0).run Try.prog w = .ok (.pointer (some ⟨b, k, none⟩)) w := by go_simp
theorem field_dm1 (w : World) (b k : Nat) : (Instr.fieldAt 33 (.pointer (some ⟨b, k, none⟩)) 1).run Try.prog w = .ok (.pointer (some ⟨b, k + 1, none⟩)) w := by go_simp
theorem st_int {w : World} {ad : Addr} {u v : Value} (h : w.cell? ad = some u) (hf : w.frozen? ad = false) (hv : ∃ i, v = .int .i64 i) : (storeVar 3 ad v).run Try.prog w = .ok () (w.setCell ad v) := by
  obtain ⟨i, rfl⟩ := hv
  have h3 : Try.prog.underlying 3 = some (.int .i64) := by kernel_rfl
  go_simp
theorem eqGuard_u8 (w : World) {op : BinOp} {x y : Operand} {a b : Int} : (eqGuard op 5 x y (.int .u8 a) (.int .u8 b)).run Try.prog w = .ok () w := by
  cases op <;> simp [eqGuard]
theorem eqGuard_u64 (w : World) {op : BinOp} {x y : Operand} {a b : Int} : (eqGuard op 49 x y (.int .u64 a) (.int .u64 b)).run Try.prog w = .ok () w := by
  cases op <;> simp [eqGuard]
theorem eqGuard_vv (w : World) {op : BinOp} {x y : Operand} (a b : List Int) : (eqGuard op 35 x y (.agg (vals a)) (.agg (vals b))).run Try.prog w = .ok () w := by
  have := plain_vec
  go_simp
theorem run_eql_vec_same (w : World) (a : List Int) (la : a.length = 16) : (binOp .eql 35 (.agg (vals a)) (.agg (vals a))).run Try.prog w = .ok (.bool true) w := by
  rw [run_eql_vec w a a la la, decide_eq_true rfl]
theorem load_vmid {w : World} {b k : Nat} {l : List Int} (h : w.rangeAt b k (l.map (Value.int .i64))) (hl : l.length = 16) : (loadVar 35 ⟨b, k, none⟩).run Try.prog w = .ok (.agg (vals l)) w :=
  run_loadVar_mid w b k 35 _ _ h Try.underlying35 rfl (by have := size16 l hl; rwa [vals_size, ← List.length_map (f := Value.int .i64)] at this)
theorem index_vvs (w : World) {b n c k : Nat} (hk : k < n) : (Instr.indexAt 50 (.slice (some ⟨b, 0, none⟩) n c) (.int .i64 (k : Int))).run Try.prog w = .ok (.pointer (some ⟨b, k * 16, none⟩)) w := by
  have hk' : (k : Int) < (n : Int) := by omega
  have hs : (Try.prog.info? 35).map (·.size) = some 16 := by kernel_rfl
  have ht : Try.prog.underlying 50 = some (.slice 35) := Try.underlying50
  go_simp
theorem conv_iu (w : World) {n : Nat} (h : n ≤ 1000) : (convert 3 49 (.int .i64 (n : Int))).run Try.prog w = .ok (.int .u64 (n : Int)) w := by
  have hw : IntKind.u64.wrap (n : Int) = n := by simp [IntKind.wrap, IntKind.signed, IntKind.bits]; omega
  have h5 : Try.prog.underlying 49 = some (.int .u64) := by kernel_rfl
  have h3 : Try.prog.underlying 3 = some (.int .i64) := by kernel_rfl
  go_simp
theorem conv_ui (w : World) {n : Nat} (h : n ≤ 1000) : (convert 49 3 (.int .u64 (n : Int))).run Try.prog w = .ok (.int .i64 (n : Int)) w := by
  have hw : IntKind.i64.wrap (n : Int) = n := by simp [IntKind.wrap, IntKind.signed, IntKind.bits]; omega
  have h5 : Try.prog.underlying 49 = some (.int .u64) := by kernel_rfl
  have h3 : Try.prog.underlying 3 = some (.int .i64) := by kernel_rfl
  go_simp
theorem rem_u (x : Int) (n : Nat) (hn : 0 < n) (h : (Lit.int .u64 x).wf = true) : ∃ k : Nat, k < n ∧ ∀ w : World, (binOp .rem 49 (.int .u64 x) (.int .u64 (n : Int))).run Try.prog w = .ok (.int .u64 (k : Int)) w := by
  have h0 : 0 ≤ x := by
    simp [Lit.wf, IntKind.min, IntKind.max, IntKind.signed] at h
    omega
  have h1 := Int.emod_nonneg x (show (n : Int) ≠ 0 by omega)
  have h2 := Int.emod_lt_of_pos x (show (0 : Int) < (n : Int) by omega)
  refine ⟨(x % (n : Int)).toNat, by omega, fun w => ?_⟩
  have e : x.tmod (n : Int) = ((x % (n : Int)).toNat : Int) := by rw [Int.tmod_eq_emod_of_nonneg h0]; omega
  have hne : ¬ n = 0 := by omega
  simp [go_sem, hne, e]
theorem rem_8 (x : Int) (h : 0 ≤ x ∧ x ≤ 255) : ∃ r : Nat, r < 8 ∧ ∀ w : World, (binOp .rem 5 (.int .u8 x) (.int .u8 8)).run Try.prog w = .ok (.int .u8 (r : Int)) w := by
  refine ⟨(x % 8).toNat, by omega, fun w => ?_⟩
  have e : x.tmod 8 = ((x % 8).toNat : Int) := by rw [Int.tmod_eq_emod_of_nonneg h.1]; omega
  simp [go_sem, e]
theorem add_1r (w : World) {r : Nat} (h : r < 8) : (binOp .add 3 (.int .i64 1) (.int .i64 (r : Int))).run Try.prog w = .ok (.int .i64 ((r + 1 : Nat) : Int)) w := by
  have hw : IntKind.i64.wrap (1 + (r : Int)) = ((r + 1 : Nat) : Int) := by simp [IntKind.wrap, IntKind.signed, IntKind.bits]; omega
  simp only [go_sem, hw]
  rfl
theorem add_n1 (w : World) {n : Nat} (h : n ≤ 1000) : (binOp .add 3 (.int .i64 (n : Int)) (.int .i64 1)).run Try.prog w = .ok (.int .i64 ((n + 1 : Nat) : Int)) w := by
  have hw : IntKind.i64.wrap ((n : Int) + 1) = ((n + 1 : Nat) : Int) := by simp [IntKind.wrap, IntKind.signed, IntKind.bits]; omega
  simp only [go_sem, hw]
  rfl
theorem wpList_val {P : Program} {ops : Array Oper} {rest : List Oper} {o : Oper} {a : Act} {w : World} {Q : Exit → Act → World → Prop} {v : Value} (hw : Region.wanted o (yielded ops a.tmps) = true) (hr : (execOp a.eval o).run P w = .ok (.value v) w) (hK : wpList P ops Q rest (a.put o.dst v) w) : wpList P ops Q (o :: rest) a w := by
  refine wpList_step fun K hK' => ?_
  rw [if_pos hw]
  unfold Oper.wp
  rw [hr]
  exact hK' _ _ hK
theorem wpList_apv {P : Program} {ops : Array Oper} {rest : List Oper} {o : Oper} {a : Act} {w w' : World} {Q : Exit → Act → World → Prop} {x y : Operand} {t1 t2 : TypeId} {v q z : Value} (hw : Region.wanted o (yielded ops a.tmps) = true) (ho : o.op = .call { callee := .builtin .append, args := #[x, y], argTypes := #[t1, t2] }) (hx : a.eval x = v) (hy : a.eval y = q) (hr : (Builtin.append_ #[t1, t2] o.type #[v, q]).run P w = .ok z w') (hK : wpList P ops Q rest (a.put o.dst z) w') : wpList P ops Q (o :: rest) a w := by
  refine wpList_step fun K hK' => ?_
  rw [if_pos hw]
  unfold Oper.wp execOp
  simp only [ho, resolve, invoke, builtin, Sem.run_bind, Sem.run_pure, Result.andThen_ok, List.map_toArray, List.map_cons, List.map_nil, hx, hy, hr]
  exact hK' _ _ hK
theorem own_not {t : TypeId} {w : World} {g B : Nat} {lv : Value} {E : List Ev} {l : List Int} (h : Lp t w g lv E) (hB : Lies w B l) : lv.ownBlock ≠ some B := fun e => by
  obtain ⟨cur, hc⟩ := row_block h.row e
  rw [hB] at hc
  injection hc with e1
  injection e1 with _ e2
  exact absurd e2 (by decide)
theorem Lw.cell {t : TypeId} {F : Nat} {w : World} {g B k : Nat} {lv : Value} {E : List Ev} (h : Lw t F w g lv E) (hg : g ≠ B) (ho : lv.ownBlock ≠ some B) (x : Value) : Lw t F (w.setCell ⟨B, k, none⟩ x) g lv E :=
  ⟨h.lp.kept (Below.heap_setCell w ⟨B, k, none⟩ x g hg) fun j hj => Below.heap_setCell w ⟨B, k, none⟩ x j (fun e => ho (by rw [← (show j = B from e)]; exact hj)), h.lo, h.own⟩
theorem RV.cell {w : World} {base B k : Nat} {v : Value} {U : List (List Int)} (h : RV w base v U) (hB : v.ownBlock ≠ some B) (x : Value) : RV (w.setCell ⟨B, k, none⟩ x) base v U :=
  h.kept fun j hj => Below.heap_setCell w ⟨B, k, none⟩ x j (fun e => hB (by rw [← (show j = B from e)]; exact hj))
theorem row_headV {w : World} {base : Nat} {v : Value} {L : List Ev} (h : Row w base v L) : v = .slice none 0 0 ∨ ∃ g c, v = .slice (some ⟨g, 0, none⟩) L.length c ∧ base ≤ g := by
  rcases h.2 with ⟨rfl, h0⟩ | ⟨g, cap, cur, rfl, hb, -⟩
  · exact .inl rfl
  · exact .inr ⟨g, cap, rfl, hb⟩
set_option maxHeartbeats 1000000 in
theorem lserves_far (ao : Option Addr) (len cap : Nat) (se tl bt : Int) (w : World) (hl : 200 < len) : Calls Try.prog 4 #[.slice ao len cap, .int .u64 se, .int .u64 tl, .int .u8 bt] w fun e w' => e = .returned (.bool true) ∧ Below w.heap.size w w' := by
  have hA := pawake_any w
  go_enter Try.func4, Try.ntmps4
  go_wp2_with fail
  refine Calls.mono hA ?_
  rintro e w1 ⟨rfl, hb1⟩
  have hA2 := pawake_any w1
  have HB1 : Hid (Below w.heap.size w w1) := hb1
  clear hb1 hA
  go_wp2_with fail
  refine Calls.mono hA2 ?_
  rintro e w3 ⟨rfl, hb3⟩
  have HB3 : Hid (Below w.heap.size w w3) := HB1.out.trans (hb3.mono HB1.out.size)
  clear hb3 hA2
  go_wp2
  go_ret
  exact ⟨rfl, HB3.out⟩
set_option maxHeartbeats 16000000 in
theorem lserves_go (ao : Option Addr) (len cap : Nat) (E : List Ev) (se tl bt : Int) (hse : (Lit.int .u64 se).wf = true) (htl : (Lit.int .u64 tl).wf = true) (hbt : 0 ≤ bt ∧ bt ≤ 255) (w : World) (hE : Evs w ao len cap E) (hl : ¬ 200 < len) : Calls Try.prog 4 #[.slice ao len cap, .int .u64 se, .int .u64 tl, .int .u8 bt] w fun e w' => e = .returned (.bool true) ∧ Below w.heap.size w w' := by
  have hd : decide ((200 : Int) < (len : Int)) = false := decide_eq_false (by omega)
  have hAw := pawake_any w
  have hlen := hE.len
  go_enter Try.func4, Try.ntmps4
  go_wp2_with fail
  refine Calls.mono hAw ?_
  rintro e w1 ⟨rfl, hb1⟩
  have hB1 : Below w.heap.size w w1 := hb1
  clear hb1 hAw
  have hN1 := pnew_any w1
  have hA0 := lw_new (F := w.heap.size) w1 31 hB1.size
  have hb2 : Below w1.heap.size w1 (w1.alloc (.cells #[.slice none 0 0] 31)) := (Below.refl _ w1).alloc (Nat.le_refl _) _
  have hB2 := hB1.trans (hb2.mono hB1.size)
  obtain ⟨g, hg⟩ : ∃ g, w1.heap.size = g := ⟨_, rfl⟩
  have hgl : w1.heap.size < (w1.alloc (.cells #[.slice none 0 0] 31)).heap.size := by simp
  generalize hW2 : w1.alloc (.cells #[.slice none 0 0] 31) = w2 at *
  rw [hg] at hA0 hN1 hgl
  have hAl2 := lies_new w2 zeros
  have hb3 : Below w2.heap.size w2 (w2.alloc (.cells (vals zeros) 35)) := (Below.refl _ w2).alloc (Nat.le_refl _) _
  have hA3 := hA0.below hb3
  have hB3 := hB2.trans (hb3.mono hB2.size)
  have hbl3 : w2.heap.size < (w2.alloc (.cells (vals zeros) 35)).heap.size := by simp
  obtain ⟨Ba, hBa⟩ : ∃ Ba, w2.heap.size = Ba := ⟨_, rfl⟩
  have hFB : w.heap.size ≤ w2.heap.size := hB2.size
  generalize hW3 : w2.alloc (.cells (vals zeros) 35) = w3 at *
  rw [zeros_vals] at hW3
  rw [hBa] at hAl2 hbl3 hgl hFB
  clear hb2 hb3 hA0 hB1 hB2 hg
  obtain ⟨base, hbase⟩ : ∃ base, base = w3.heap.size := ⟨_, rfl⟩
  have hS3 : RV w3 base (.slice none 0 0) [] := World.ownsRow_nil w3 base _ _
  obtain ⟨sv1, w5, hap, hS5, hg5⟩ := rv_push 50 hS3 (l := zeros) rfl (by simp) (by omega)
  have hbu := rv_build w3 zeros rfl
  have hb4 : Below w3.heap.size w3 (w3.alloc (.cells (vals zeros) 35)) := (Below.refl _ w3).alloc (Nat.le_refl _) _
  have hb5 : Below w3.heap.size w3 w5 := hb4.grown hg5 hb4.size (fun k hk => by cases hk)
  have hl0 := load_v hAl2 rfl
  generalize hW4 : w3.alloc (.cells (vals zeros) 35) = w4 at *
  have he := fun W ad => eql_lp W ad
  go_wp2_with fail
  refine Calls.mono hN1 ?_
  rintro e wx ⟨rfl, hw⟩
  obtain rfl := hw.symm
  clear hw hN1 hW2
  obtain ⟨S3, hS3e⟩ : ∃ S3, w3.heap.size = S3 := ⟨_, rfl⟩
  go_wp2_with (first
    | (refine wpList_loadR (ty := 35) (x := .tmp 10) (ad := ⟨Ba, 0, none⟩) (v := .agg (vals zeros)) rfl rfl rfl hl0 ?_)
    | (refine wpList_buildR (ty := 50) (k := 1) (x := .tmp 28) (u := .agg (vals zeros)) (v := .slice (some ⟨w3.heap.size, 0, none⟩) 1 1) (w' := w4) rfl rfl rfl hbu ?_)
    | (refine wpList_apv (x := .tmp 27) (y := .tmp 29) (v := .slice none 0 0) (q := .slice (some ⟨w3.heap.size, 0, none⟩) 1 1) (z := sv1) (w' := w5) rfl rfl rfl rfl hap ?_))
  have hA5 := hA3.below hb5
  have hAl5 := hAl2.below hb5 hAl2.lt
  have hB5 := hB3.trans (hb5.mono hB3.size)
  have hbz5 : base ≤ w5.heap.size := by rw [hbase]; exact hb5.size
  have hC0 : Chn [] := fun i x h => by simp at h
  have hS5 : RV w5 base sv1 (Vs []) := hS5
  have hab : Ba < base := by omega
  clear hap hg5 hbu hb4 hb5 hl0 hW4 he hS3 hA3 hAl2 hB3 hW3 hbase hS3e hbl3 hBa
  go_loopw [11, 33] (fun sv s33 wr => ∃ (k : Nat) (L : List Ev) (lv : Value), k ≤ len ∧ s33 = .int .i64 (k : Int) ∧ L.length ≤ k ∧ Hid (Chn L) ∧ Lw 31 w.heap.size wr g lv L ∧ Lies wr Ba (V L L.length) ∧ RV wr base sv (Vs L) ∧ Below w.heap.size w wr ∧ base ≤ wr.heap.size) (fun _ s33 _ => len - (intOf s33).toNat)
  case atStart => exact ⟨0, [], _, Nat.zero_le _, rfl, Nat.le_refl _, hC0, hA5, hAl5, hS5, hB5, hbz5⟩
  case round =>
    clear hA5 hAl5 hS5 hB5 hbz5 hC0
    obtain ⟨k, L, lv, hk, rfl, hLk, HC, hA, hAl, hS, hB, hbz⟩ := hrel
    have hC := HC.out
    by_cases hkl : k < len
    · obtain ⟨b, off, u, rfl, hui, hu, hr, hbl⟩ := (hE.below hB (Nat.le_refl _)).at hkl
      have hbF0 : b < w.heap.size := by
        obtain ⟨b', off', u', hb', -, -, -, h5⟩ := hE.at hkl
        simp only [Option.some.injEq, Addr.mk.injEq, and_true] at hb'
        omega
      have hrW : ∀ W, Below w.heap.size w W → W.rangeAt b (off + k * 26) (evl u) := fun W hbW => by
        obtain ⟨b', off', u', hb', h2, -, h4, -⟩ := (hE.below hbW (Nat.le_refl _)).at hkl
        simp only [Option.some.injEq, Addr.mk.injEq, and_true] at hb'
        obtain ⟨rfl, rfl⟩ := hb'
        obtain rfl : u = u' := by rw [hui] at h2; exact Option.some.inj h2
        exact h4
      clear hui
      cases hok : okev u
      · clear hd
        go_wp2_with fail
        refine region_vals [36, 37, 38, 39, 40, 41, 42, 43, 44, 45, 46, 47, 48] [.slice (some ⟨b, off, none⟩) len cap, .int .i64 (k : Int), .pointer (some ⟨b, off + k * 26, none⟩), .agg (evc u), .bool false, .bool false, undef, undef, undef, undef, undef, undef, .bool false] _ (by kernel_rfl) (by kernel_rfl) (by rfl) (by decide) (by kernel_rfl) (by simp only [lay, Act.put, List.setIfInBounds_toArray, List.set_cons_zero, List.set_cons_succ, List.getD_cons_zero, List.getD_cons_succ, Nat.reduceAdd]; rfl) ⟨?_, ?_, ?_, ?_, ?_, ?_, ?_, ?_, ?_, ?_, ?_, ?_, ?_, trivial⟩ ?_
        · exact .inl ⟨rfl, fun W hb => yields_move rfl rfl⟩
        · exact .inl ⟨rfl, fun W hb => yields_move rfl rfl⟩
        · exact .inl ⟨rfl, fun W hb => yields_indexAddr rfl rfl rfl (index_ev _ hkl)⟩
        · exact .inl ⟨rfl, fun W hb => yields_load rfl rfl (load_part (range_below hr hb hbl) hu.1)⟩
        · exact .inl ⟨rfl, fun W hb => yields_call (f := 19) (xs := [.tmp 39]) (vs := [.agg (evc u)]) (v := .bool false) rfl rfl (enters_reright _ _) (by rw [← hok]; exact reright_any u hu.1 W)⟩
        · exact .inl ⟨rfl, fun W hb => yields_move rfl rfl⟩
        · exact .inr ⟨rfl, rfl⟩
        · exact .inr ⟨rfl, rfl⟩
        · exact .inr ⟨rfl, rfl⟩
        · exact .inr ⟨rfl, rfl⟩
        · exact .inr ⟨rfl, rfl⟩
        · exact .inr ⟨rfl, rfl⟩
        · exact .inl ⟨rfl, fun W hb => yields_pick (b := false) rfl rfl rfl⟩
        intro w6 hb6
        have HALL : Hid (Lw 31 w.heap.size w6 g lv L ∧ Lies w6 Ba (V L L.length) ∧ RV w6 base u11 (Vs L) ∧ Below w.heap.size w w6 ∧ base ≤ w6.heap.size) := ⟨hA.below hb6, hAl.below hb6 hAl.lt, hS.below hb6 (Nat.le_refl _), hB.trans (hb6.mono hB.size), Nat.le_trans hbz hb6.size⟩
        clear hA hAl hS hB hb6 hr hbl hok hC hbz
        go_wp2
        go_roundw
        case rel => exact ⟨k + 1, L, lv, by omega, by go_num, by omega, HC, HALL.out⟩
        case measure => simp [intOf]; omega
      · cases hma : mayE u (V L L.length)
        · clear hd
          go_wp2_with fail
          refine region_vals [36, 37, 38, 39, 40, 41, 42, 43, 44, 45, 46, 47, 48] [.slice (some ⟨b, off, none⟩) len cap, .int .i64 (k : Int), .pointer (some ⟨b, off + k * 26, none⟩), .agg (evc u), .bool true, .bool true, .slice (some ⟨b, off, none⟩) len cap, .int .i64 (k : Int), .pointer (some ⟨b, off + k * 26, none⟩), .agg (evc u), .agg (vals (V L L.length)), .bool false, .bool false] _ (by kernel_rfl) (by kernel_rfl) (by rfl) (by decide) (by kernel_rfl) (by simp only [lay, Act.put, List.setIfInBounds_toArray, List.set_cons_zero, List.set_cons_succ, List.getD_cons_zero, List.getD_cons_succ, Nat.reduceAdd]; rfl) ⟨?_, ?_, ?_, ?_, ?_, ?_, ?_, ?_, ?_, ?_, ?_, ?_, ?_, trivial⟩ ?_
          · exact .inl ⟨rfl, fun W hb => yields_move rfl rfl⟩
          · exact .inl ⟨rfl, fun W hb => yields_move rfl rfl⟩
          · exact .inl ⟨rfl, fun W hb => yields_indexAddr rfl rfl rfl (index_ev _ hkl)⟩
          · exact .inl ⟨rfl, fun W hb => yields_load rfl rfl (load_part (range_below hr hb hbl) hu.1)⟩
          · exact .inl ⟨rfl, fun W hb => yields_call (f := 19) (xs := [.tmp 39]) (vs := [.agg (evc u)]) (v := .bool true) rfl rfl (enters_reright _ _) (by rw [← hok]; exact reright_any u hu.1 W)⟩
          · exact .inl ⟨rfl, fun W hb => yields_move rfl rfl⟩
          · exact .inl ⟨rfl, fun W hb => yields_move rfl rfl⟩
          · exact .inl ⟨rfl, fun W hb => yields_move rfl rfl⟩
          · exact .inl ⟨rfl, fun W hb => yields_indexAddr rfl rfl rfl (index_ev _ hkl)⟩
          · exact .inl ⟨rfl, fun W hb => yields_load rfl rfl (load_part (range_below hr hb hbl) hu.1)⟩
          · exact .inl ⟨rfl, fun W hb => yields_load rfl rfl (load_v (hAl.below hb hAl.lt) (V_len _))⟩
          · exact .inl ⟨rfl, fun W hb => yields_call (f := 20) (xs := [.tmp 45, .tmp 46]) (vs := [.agg (evc u), .agg (vals (V L L.length))]) (v := .bool false) rfl rfl (enters_rmay _ _) (by rw [← hma]; exact rmay_any u (V L L.length) hu (okev_dot hok) (V_len _) (V_fit hC _) W)⟩
          · exact .inl ⟨rfl, fun W hb => yields_pick (b := true) rfl rfl rfl⟩
          intro w6 hb6
          have HALL : Hid (Lw 31 w.heap.size w6 g lv L ∧ Lies w6 Ba (V L L.length) ∧ RV w6 base u11 (Vs L) ∧ Below w.heap.size w w6 ∧ base ≤ w6.heap.size) := ⟨hA.below hb6, hAl.below hb6 hAl.lt, hS.below hb6 (Nat.le_refl _), hB.trans (hb6.mono hB.size), Nat.le_trans hbz hb6.size⟩
          clear hA hAl hS hB hb6 hr hbl hok hma hC hbz
          go_wp2
          go_roundw
          case rel => exact ⟨k + 1, L, lv, by omega, by go_num, by omega, HC, HALL.out⟩
          case measure => simp [intOf]; omega
        · clear hd
          go_wp2_with fail
          refine region_vals [36, 37, 38, 39, 40, 41, 42, 43, 44, 45, 46, 47, 48] [.slice (some ⟨b, off, none⟩) len cap, .int .i64 (k : Int), .pointer (some ⟨b, off + k * 26, none⟩), .agg (evc u), .bool true, .bool true, .slice (some ⟨b, off, none⟩) len cap, .int .i64 (k : Int), .pointer (some ⟨b, off + k * 26, none⟩), .agg (evc u), .agg (vals (V L L.length)), .bool true, .bool true] _ (by kernel_rfl) (by kernel_rfl) (by rfl) (by decide) (by kernel_rfl) (by simp only [lay, Act.put, List.setIfInBounds_toArray, List.set_cons_zero, List.set_cons_succ, List.getD_cons_zero, List.getD_cons_succ, Nat.reduceAdd]; rfl) ⟨?_, ?_, ?_, ?_, ?_, ?_, ?_, ?_, ?_, ?_, ?_, ?_, ?_, trivial⟩ ?_
          · exact .inl ⟨rfl, fun W hb => yields_move rfl rfl⟩
          · exact .inl ⟨rfl, fun W hb => yields_move rfl rfl⟩
          · exact .inl ⟨rfl, fun W hb => yields_indexAddr rfl rfl rfl (index_ev _ hkl)⟩
          · exact .inl ⟨rfl, fun W hb => yields_load rfl rfl (load_part (range_below hr hb hbl) hu.1)⟩
          · exact .inl ⟨rfl, fun W hb => yields_call (f := 19) (xs := [.tmp 39]) (vs := [.agg (evc u)]) (v := .bool true) rfl rfl (enters_reright _ _) (by rw [← hok]; exact reright_any u hu.1 W)⟩
          · exact .inl ⟨rfl, fun W hb => yields_move rfl rfl⟩
          · exact .inl ⟨rfl, fun W hb => yields_move rfl rfl⟩
          · exact .inl ⟨rfl, fun W hb => yields_move rfl rfl⟩
          · exact .inl ⟨rfl, fun W hb => yields_indexAddr rfl rfl rfl (index_ev _ hkl)⟩
          · exact .inl ⟨rfl, fun W hb => yields_load rfl rfl (load_part (range_below hr hb hbl) hu.1)⟩
          · exact .inl ⟨rfl, fun W hb => yields_load rfl rfl (load_v (hAl.below hb hAl.lt) (V_len _))⟩
          · exact .inl ⟨rfl, fun W hb => yields_call (f := 20) (xs := [.tmp 45, .tmp 46]) (vs := [.agg (evc u), .agg (vals (V L L.length))]) (v := .bool true) rfl rfl (enters_rmay _ _) (by rw [← hma]; exact rmay_any u (V L L.length) hu (okev_dot hok) (V_len _) (V_fit hC _) W)⟩
          · exact .inl ⟨rfl, fun W hb => yields_pick (b := true) rfl rfl rfl⟩
          intro w6 hb6
          have hdot := okev_dot hok
          have HC2 : Hid (Chn (L ++ [u])) := chn_snoc hC hma hdot
          have HVS : Hid (V (L ++ [u]) (L ++ [u]).length = seeV (V L L.length) u ∧ Vs (L ++ [u]) = Vs L ++ [V (L ++ [u]) (L ++ [u]).length]) := ⟨by rw [List.length_append, List.length_singleton, V_snoc], by rw [Vs_snoc, List.length_append, List.length_singleton]⟩
          have hA := hA.below hb6
          have hAl := hAl.below hb6 hAl.lt
          have hS := hS.below hb6 (Nat.le_refl _)
          have hB := hB.trans (hb6.mono hB.size)
          have hr := range_below hr hb6 hbl
          have hbl := Nat.lt_of_lt_of_le hbl hb6.size
          have hbz := Nat.le_trans hbz hb6.size
          have hP1 := padd_at g lv L u hu (by omega) w6 hA.lp
          have hix := fun W : World => index_ev W (b := b) (off := off) (k := k) (m := len) (c := cap) hkl
          clear hb6 hok hma
          go_wp2_with (first | refine load_ev_mid rfl rfl rfl hr hu.1 ?_)
          refine Calls.mono hP1 ?_
          rintro e w7 ⟨rfl, lv', hL7, hT7⟩
          obtain ⟨hA7, hB7⟩ := hA.turn hB.size hL7 hT7
          have hAl7 : Lies w7 Ba (V L L.length) := (hT7.block Ba hAl.lt (by omega) (own_not hA.lp hAl)).trans hAl
          have hS7 : RV w7 base u11 (Vs L) := hS.kept fun j hj => hT7.block j (hS.lt hj) (by have := (hS.block hj).1; omega) (fun e1 => by
            obtain ⟨-, cur, hc⟩ := hS.block hj
            obtain ⟨cur2, hc2⟩ := row_block hA.lp.row e1
            rw [hc] at hc2
            injection hc2 with e2
            injection e2 with _ e3
            exact absurd e3 (by decide))
          have hB7' := hB.trans hB7
          have hbF : b < w.heap.size := hbF0
          have hr7 : w7.rangeAt b (off + k * 26) (evl u) := hrW w7 hB7'
          have hbz7 := Nat.le_trans hbz hT7.size
          clear hP1 hL7 hT7 hA hAl hS hB hB7 hr hbl hbz
          obtain ⟨kk, hkk⟩ : ∃ kk : Nat, u.r = (kk : Int) := by
            obtain ⟨h0, -, -, -⟩ := of_decide_eq_true hdot
            exact ⟨u.r.toNat, by omega⟩
          have hkk16 : kk < 16 := by have := okdot_r hdot; omega
          obtain ⟨Ws, hWs⟩ : ∃ Ws, Ws = w7.drew := ⟨_, rfl⟩
          have hrs : Ws.rangeAt b (off + k * 26) (evl u) := by rw [hWs]; exact hr7
          have hAs : Lw 31 w.heap.size Ws g lv' (L ++ [u]) := by rw [hWs]; exact hA7.drew
          have hAls : Lies Ws Ba (V L L.length) := by rw [hWs]; exact hAl7
          have hSs : RV Ws base u11 (Vs L) := by rw [hWs]; exact hS7.kept fun _ _ => rfl
          have hBs : Below w.heap.size w Ws := by rw [hWs]; exact hB7'.drew
          have hbzs : base ≤ Ws.heap.size := by rw [hWs]; exact hbz7
          have hst := st_int (v := .int .i64 u.n) (by rw [Nat.zero_add]; exact hAls.cell (k := kk) (by rw [V_len]; exact hkk16)) (ad := ⟨Ba, 0 + kk, none⟩) hAls.frozen ⟨_, rfl⟩
          have hrs2 : (Ws.setCell ⟨Ba, 0 + kk, none⟩ (.int .i64 u.n)).rangeAt b (off + k * 26) (evl u) := fun i v hv => by
            rw [World.cell?_of_block (w := Ws) (Below.heap_setCell Ws ⟨Ba, 0 + kk, none⟩ _ b (by show b ≠ Ba; omega))]
            exact hrs i v hv
          clear hA7 hAl7 hS7 hB7' hr7 hbz7
          go_wp2_with fail
          refine wp_region_noPanic ?_
          refine wp_region_held_drew (S := fun W' : World => W'.rangeAt b (off + k * 26) (evl u)) (by kernel_rfl) (by rw [← hWs]; exact hrs) (fun hHeld => ?_)
          rw [← hWs] at hHeld ⊢
          refine wpAnyH_take (i := 0) (oi := { dst := some 55, op := _, type := _, pos := _, after := _, guard := _ }) (v := .slice (some ⟨b, off, none⟩) len cap) rfl (by kernel_rfl) (by kernel_rfl) (by kernel_rfl) (fun _ _ _ h => h) (Or.inl ⟨by rfl, ?_⟩) (by assumption) ?_
          · intro w9 hSw
            exact y_move rfl rfl
          simp only [Act.put, List.setIfInBounds_toArray, List.set_cons_zero, List.set_cons_succ]
          refine wpAnyH_take (i := 1) (oi := { dst := some 56, op := _, type := _, pos := _, after := _, guard := _ }) (v := .int .i64 (k : Int)) rfl (by kernel_rfl) (by kernel_rfl) (by kernel_rfl) (fun _ _ _ h => h) (Or.inl ⟨by rfl, ?_⟩) (by assumption) ?_
          · intro w9 hSw
            exact y_move rfl rfl
          simp only [Act.put, List.setIfInBounds_toArray, List.set_cons_zero, List.set_cons_succ]
          refine wpAnyH_take (i := 2) (oi := { dst := some 57, op := _, type := _, pos := _, after := _, guard := _ }) (v := .pointer (some ⟨b, off + k * 26, none⟩)) rfl (by kernel_rfl) (by kernel_rfl) (by kernel_rfl) (fun _ _ _ h => h) (Or.inl ⟨by rfl, ?_⟩) (by assumption) ?_
          · intro w9 hSw
            exact y_index rfl rfl rfl (index_ev _ hkl)
          simp only [Act.put, List.setIfInBounds_toArray, List.set_cons_zero, List.set_cons_succ]
          refine wpAnyH_take (i := 3) (oi := { dst := some 58, op := _, type := _, pos := _, after := _, guard := _ }) (v := .pointer (some ⟨b, off + k * 26 + 0, none⟩)) rfl (by kernel_rfl) (by kernel_rfl) (by kernel_rfl) (fun _ _ _ h => h) (Or.inl ⟨by rfl, ?_⟩) (by assumption) ?_
          · intro w9 hSw
            exact y_field rfl rfl (field_e0 _ _ _)
          simp only [Act.put, List.setIfInBounds_toArray, List.set_cons_zero, List.set_cons_succ]
          refine wpAnyH_take (i := 4) (oi := { dst := some 59, op := _, type := _, pos := _, after := _, guard := _ }) (v := .pointer (some ⟨b, off + k * 26 + 0, none⟩)) rfl (by kernel_rfl) (by kernel_rfl) (by kernel_rfl) (fun _ _ _ h => h) (Or.inl ⟨by rfl, ?_⟩) (by assumption) ?_
          · intro w9 hSw
            exact y_field rfl rfl (field_dm0 _ _ _)
          simp only [Act.put, List.setIfInBounds_toArray, List.set_cons_zero, List.set_cons_succ]
          refine wpAnyH_take (i := 5) (oi := { dst := some 60, op := _, type := _, pos := _, after := _, guard := _ }) (v := .int .i64 (kk : Int)) rfl (by kernel_rfl) (by kernel_rfl) (by kernel_rfl) (fun _ _ _ h => h) (Or.inl ⟨by rfl, ?_⟩) (by assumption) ?_
          · intro w9 hSw
            exact y_load rfl rfl (load_int (by rw [Nat.add_zero, ← hkk]; exact hSw 0 _ rfl))
          simp only [Act.put, List.setIfInBounds_toArray, List.set_cons_zero, List.set_cons_succ]
          refine wpAnyH_take (i := 6) (oi := { dst := some 61, op := _, type := _, pos := _, after := _, guard := _ }) (v := .slice (some ⟨b, off, none⟩) len cap) rfl (by kernel_rfl) (by kernel_rfl) (by kernel_rfl) (fun _ _ _ h => h) (Or.inl ⟨by rfl, ?_⟩) (by assumption) ?_
          · intro w9 hSw
            exact y_move rfl rfl
          simp only [Act.put, List.setIfInBounds_toArray, List.set_cons_zero, List.set_cons_succ]
          refine wpAnyH_take (i := 7) (oi := { dst := some 62, op := _, type := _, pos := _, after := _, guard := _ }) (v := .int .i64 (k : Int)) rfl (by kernel_rfl) (by kernel_rfl) (by kernel_rfl) (fun _ _ _ h => h) (Or.inl ⟨by rfl, ?_⟩) (by assumption) ?_
          · intro w9 hSw
            exact y_move rfl rfl
          simp only [Act.put, List.setIfInBounds_toArray, List.set_cons_zero, List.set_cons_succ]
          refine wpAnyH_take (i := 8) (oi := { dst := some 63, op := _, type := _, pos := _, after := _, guard := _ }) (v := .pointer (some ⟨b, off + k * 26, none⟩)) rfl (by kernel_rfl) (by kernel_rfl) (by kernel_rfl) (fun _ _ _ h => h) (Or.inl ⟨by rfl, ?_⟩) (by assumption) ?_
          · intro w9 hSw
            exact y_index rfl rfl rfl (index_ev _ hkl)
          simp only [Act.put, List.setIfInBounds_toArray, List.set_cons_zero, List.set_cons_succ]
          refine wpAnyH_take (i := 9) (oi := { dst := some 64, op := _, type := _, pos := _, after := _, guard := _ }) (v := .pointer (some ⟨b, off + k * 26 + 0, none⟩)) rfl (by kernel_rfl) (by kernel_rfl) (by kernel_rfl) (fun _ _ _ h => h) (Or.inl ⟨by rfl, ?_⟩) (by assumption) ?_
          · intro w9 hSw
            exact y_field rfl rfl (field_e0 _ _ _)
          simp only [Act.put, List.setIfInBounds_toArray, List.set_cons_zero, List.set_cons_succ]
          refine wpAnyH_take (i := 10) (oi := { dst := some 65, op := _, type := _, pos := _, after := _, guard := _ }) (v := .pointer (some ⟨b, off + k * 26 + 0 + 1, none⟩)) rfl (by kernel_rfl) (by kernel_rfl) (by kernel_rfl) (fun _ _ _ h => h) (Or.inl ⟨by rfl, ?_⟩) (by assumption) ?_
          · intro w9 hSw
            exact y_field rfl rfl (field_dm1 _ _ _)
          simp only [Act.put, List.setIfInBounds_toArray, List.set_cons_zero, List.set_cons_succ]
          refine wpAnyH_take (i := 11) (oi := { dst := some 66, op := _, type := _, pos := _, after := _, guard := _ }) (v := .int .i64 u.n) rfl (by kernel_rfl) (by kernel_rfl) (by kernel_rfl) (fun _ _ _ h => h) (Or.inl ⟨by rfl, ?_⟩) (by assumption) ?_
          · intro w9 hSw
            exact y_load rfl rfl (load_int (by rw [Nat.add_zero]; exact hSw 1 _ rfl))
          simp only [Act.put, List.setIfInBounds_toArray, List.set_cons_zero, List.set_cons_succ]
          refine wpAnyH_take (i := 12) (oi := { dst := some 67, op := _, type := _, pos := _, after := _, guard := _ }) (v := .pointer (some ⟨Ba, 0 + kk, none⟩)) rfl (by kernel_rfl) (by kernel_rfl) (by kernel_rfl) (fun _ _ _ h => h) (Or.inl ⟨by rfl, ?_⟩) (by assumption) ?_
          · intro w9 hSw
            exact y_index rfl rfl rfl (index_vv _ _ 0 kk hkk16)
          simp only [Act.put, List.setIfInBounds_toArray, List.set_cons_zero, List.set_cons_succ]
          clear hHeld
          refine wpAnyH_ready (rs := [13]) (by kernel_rfl) (by simp) ?_
          refine AllReadyH.cons (o := { dst := none, op := _, type := _, pos := _, after := _, guard := _ }) rfl (fun K hK => ?_) AllReadyH.nil
          rw [if_pos (by rfl)]
          refine y_store (ty := 3) (x := .tmp 67) (y := .tmp 66) (ad := ⟨Ba, 0 + kk, none⟩) (v := .int .i64 u.n) (w' := Ws.setCell ⟨Ba, 0 + kk, none⟩ (.int .i64 u.n)) rfl rfl rfl hst ?_
          refine hK.out _ _ hrs2 (fun hHeld => ?_)
          clear hK K
          simp only [Act.put]
          refine wpAnyH_done (by kernel_rfl) ?_ _
          refine NoPanic.normal ?_
          clear hHeld
          have hA8 : Lw 31 w.heap.size (Ws.setCell ⟨Ba, 0 + kk, none⟩ (.int .i64 u.n)) g lv' (L ++ [u]) := hAs.cell (by omega) (own_not hAs.lp hAls) _
          have hAl8 : Lies (Ws.setCell ⟨Ba, 0 + kk, none⟩ (.int .i64 u.n)) Ba (V (L ++ [u]) (L ++ [u]).length) := by
            rw [HVS.out.1, seeV, show u.r.toNat = kk by omega, Nat.zero_add]
            exact hAls.set _
          have hS8 : RV (Ws.setCell ⟨Ba, 0 + kk, none⟩ (.int .i64 u.n)) base u11 (Vs L) := hSs.cell (fun e1 => by have := (hSs.block e1).1; omega) _
          have hB8 : Below w.heap.size w (Ws.setCell ⟨Ba, 0 + kk, none⟩ (.int .i64 u.n)) := hBs.setCell (p := ⟨Ba, 0 + kk, none⟩) (by show _ ≤ Ba; omega) _
          have hbz8 : base ≤ (Ws.setCell ⟨Ba, 0 + kk, none⟩ (.int .i64 u.n)).heap.size := by rw [size_setC]; exact hbzs
          clear hAs hAls hSs hBs hbzs hst hrs hrs2 hWs
          generalize Ws.setCell ⟨Ba, 0 + kk, none⟩ (.int .i64 u.n) = w8 at *
          obtain ⟨Z, hZ⟩ : ∃ Z, V (L ++ [u]) (L ++ [u]).length = Z := ⟨_, rfl⟩
          have lZ : Z.length = 16 := by rw [← hZ]; exact V_len _
          have HZ : Hid (V (L ++ [u]) (L ++ [u]).length = Z) := hZ
          rw [hZ] at hAl8
          obtain ⟨sv2, w10, hap, hS10, hg10⟩ := rv_push 50 hS8 (l := Z) lZ (by rw [Vs_len]; omega) hbz8
          have hbu := rv_build w8 Z lZ
          have hb9 : Below w8.heap.size w8 (w8.alloc (.cells (vals Z) 35)) := (Below.refl _ w8).alloc (Nat.le_refl _) _
          have hl8 := load_v hAl8 lZ
          have hA9 := hA8.below hb9
          have hAl9 := hAl8.below hb9 hAl8.lt
          have HALL : Hid (Lw 31 w.heap.size w10 g lv' (L ++ [u]) ∧ Lies w10 Ba (V (L ++ [u]) (L ++ [u]).length) ∧ RV w10 base sv2 (Vs (L ++ [u])) ∧ Below w.heap.size w w10 ∧ base ≤ w10.heap.size) := by
            refine ⟨⟨hA9.lp.kept (hg10.block g hA9.lp.lt (fun e1 => by have := (hS8.block e1.symm).1; omega)) fun j hj => hg10.block j (hA9.lp.rowLt hj) (fun e1 => by
                obtain ⟨-, cur, hc⟩ := hS8.block e1.symm
                obtain ⟨cur2, hc2⟩ := row_block hA8.lp.row hj
                rw [hc] at hc2
                injection hc2 with e2
                injection e2 with _ e3
                exact absurd e3 (by decide)), hA9.lo, hA9.own⟩, ?_, ?_, ?_, ?_⟩
            · rw [HZ.out]
              exact (hg10.block Ba hAl9.lt (fun e1 => by have := (hS8.block e1.symm).1; omega)).trans hAl9
            · rw [HVS.out.2, HZ.out]; exact hS10
            · exact (hB8.trans (hb9.mono hB8.size)).grown hg10 (Nat.le_trans hB8.size hb9.size) (fun j hj => by have := (hS8.block hj).1; omega)
            · exact Nat.le_trans hbz8 (Nat.le_trans hb9.size hg10.size)
          have hll : (L ++ [u]).length ≤ k + 1 := by rw [List.length_append, List.length_singleton]; omega
          clear hA8 hAl8 hS8 hB8 hbz8 hb9 hA9 hAl9 hS10 hg10 hZ
          generalize hW9 : w8.alloc (.cells (vals Z) 35) = w9 at *
          go_wp2_with (first
            | (refine wpList_loadR (ty := 35) (x := .tmp 10) (ad := ⟨Ba, 0, none⟩) (v := .agg (vals Z)) rfl rfl rfl hl8 ?_)
            | (refine wpList_buildR (ty := 50) (k := 1) (x := .tmp 69) (u := .agg (vals Z)) (v := .slice (some ⟨w8.heap.size, 0, none⟩) 1 1) (w' := w9) rfl rfl rfl hbu ?_)
            | (refine wpList_apv (x := .tmp 68) (y := .tmp 70) (v := u11) (q := .slice (some ⟨w8.heap.size, 0, none⟩) 1 1) (z := sv2) (w' := w10) rfl rfl rfl rfl hap ?_))
          clear hap hbu hl8 hW9
          go_roundw
          case rel => exact ⟨k + 1, L ++ [u], lv', by omega, by go_num, hll, HC2, HALL.out⟩
          case measure => simp [intOf]; omega
    · obtain rfl : k = len := by omega
      have hLk' : L.length ≤ 200 := by omega
      obtain ⟨n, hnL, hrn1⟩ := rem_u tl (L.length + 1) (by omega) htl
      obtain ⟨k0, hk0, hrn2⟩ := rem_u se (n + 1) (by omega) hse
      have hnl : n ≤ L.length := by omega
      have hkn : k0 ≤ n := by omega
      have hgetn := Vs_get (L := L) (t := n) hnl
      have hgetk := Vs_get (L := L) (t := k0) (by omega)
      have hU16 : ∀ l ∈ Vs L, l.length = 16 := fun l hl => by
        obtain ⟨t, -, rfl⟩ := List.mem_map.1 hl
        exact V_len t
      obtain ⟨gs, cs, hsv, hgb, hrk, hgsl0⟩ := hS.at hU16 hgetk
      rw [Vs_len] at hsv
      have hxk := fun W => index_vvs W (b := gs) (n := L.length + 1) (c := cs) (k := k0) (by omega)
      have hxn := fun W => index_vvs W (b := gs) (n := L.length + 1) (c := cs) (k := n) (by omega)
      have hci1 := fun W => conv_iu W (n := L.length + 1) (by omega)
      have hci2 := fun W => conv_iu W (n := n + 1) (by omega)
      have hcu1 := fun W => conv_ui W (n := n) (by omega)
      have hcu2 := fun W => conv_ui W (n := k0) (by omega)
      have hadn := fun W => add_n1 W (n := n) (by omega)
      have hzv := lies_new wr zeros
      have hrk1 : (wr.alloc (.cells (vals zeros) 35)).rangeAt gs (k0 * 16) ((V L k0).map (Value.int .i64)) := range_below hrk ((Below.refl _ wr).alloc (Nat.le_refl _) _) hgsl0
      have hlk := load_vmid hrk1 (V_len k0)
      have hlk0 := load_vmid hrk (V_len k0)
      obtain ⟨w2, hst, hv2, hb2, -⟩ := vv_store (v := V L k0) hzv (V_len k0) rfl ((Below.refl wr.heap.size wr).alloc (Nat.le_refl _) (.cells (vals zeros) 35)) (Nat.le_refl _)
      have hLg := hA.below hb2
      have hS2 := hS.below hb2 (Nat.le_refl _)
      have hB2 := hB.trans (hb2.mono hB.size)
      have hBv : Hid (g < wr.heap.size ∧ (∀ j, lv.ownBlock = some j → j < wr.heap.size) ∧ gs < wr.heap.size ∧ w.heap.size ≤ wr.heap.size) := ⟨hA.lp.lt, fun j hj => hA.lp.rowLt hj, hgsl0, hB.size⟩
      rw [zeros_vals] at hst hlk
      obtain ⟨Bv, hBve⟩ : ∃ Bv, wr.heap.size = Bv := ⟨_, rfl⟩
      rw [hBve] at hst hv2 hBv
      clear hA hS hB hzv hrk hrk1 hb2 hAl hgetk hbz
      subst hsv
      go_wp2_with (first
        | (refine wpList_val (v := .int .u64 ((L.length + 1 : Nat) : Int)) rfl (y_conv (t := 3) (t' := 49) (x := .tmp 75) (v := .int .i64 ((L.length + 1 : Nat) : Int)) rfl rfl (hci1 _)) ?_)
        | (refine wpList_val (v := .int .u64 (n : Int)) rfl (y_bin (op := .rem) (t := 49) (x := .tmp 73) (y := .tmp 76) (vx := .int .u64 tl) (vy := .int .u64 ((L.length + 1 : Nat) : Int)) rfl rfl rfl (eqGuard_u64 _) (hrn1 _)) ?_)
        | (refine wpList_val (v := .int .i64 (n : Int)) rfl (y_conv (t := 49) (t' := 3) (x := .tmp 77) (v := .int .u64 (n : Int)) rfl rfl (hcu1 _)) ?_)
        | (refine wpList_val (v := .int .i64 ((n + 1 : Nat) : Int)) rfl (y_bin (op := .add) (t := 3) (x := .tmp 80) (y := .const (.int .i64 1)) (vx := .int .i64 (n : Int)) (vy := .int .i64 1) rfl rfl rfl (eqGuard_int _) (hadn _)) ?_)
        | (refine wpList_val (v := .int .u64 ((n + 1 : Nat) : Int)) rfl (y_conv (t := 3) (t' := 49) (x := .tmp 81) (v := .int .i64 ((n + 1 : Nat) : Int)) rfl rfl (hci2 _)) ?_)
        | (refine wpList_val (v := .int .u64 (k0 : Int)) rfl (y_bin (op := .rem) (t := 49) (x := .tmp 79) (y := .tmp 82) (vx := .int .u64 se) (vy := .int .u64 ((n + 1 : Nat) : Int)) rfl rfl rfl (eqGuard_u64 _) (hrn2 _)) ?_)
        | (refine wpList_val (v := .int .i64 (k0 : Int)) rfl (y_conv (t := 49) (t' := 3) (x := .tmp 83) (v := .int .u64 (k0 : Int)) rfl rfl (hcu2 _)) ?_)
        | (refine wpList_loadR (ty := 35) (x := .tmp 87) (ad := ⟨gs, k0 * 16, none⟩) (v := .agg (vals (V L k0))) rfl rfl rfl (by first | exact hlk0 | exact hlk) ?_)
        | (refine wpList_storeR (ty := 35) (x := .tmp 15) (y := .tmp 88) (ad := ⟨Bv, 0, none⟩) (v := .agg (vals (V L k0))) (w' := w2) rfl rfl rfl rfl hst ?_))
      clear hci1 hci2 hcu1 hcu2 hadn hrn1 hrn2 hlk hlk0 hst hxk hBve
      obtain ⟨rm, hrm8, hrem⟩ := rem_8 bt hbt
      have hcrm := fun W => conv_u8 W (m := (rm : Int)) (by omega)
      have hadd := fun W => add_1r W (r := rm) hrm8
      obtain ⟨mm, hmm⟩ : ∃ mm, rm + 1 = mm := ⟨_, rfl⟩
      rw [hmm] at hadd
      have hrm : 0 ≤ (rm : Int) ∧ (rm : Int) ≤ 255 := by omega
      have hmm1 : 1 ≤ mm ∧ mm ≤ 8 := by omega
      go_loopw [91] (fun i wz => ∃ (c j : Nat), c ≤ L.length + 1 ∧ i = .int .i64 (c : Int) ∧ j ≤ n ∧ (c ≤ j ∨ j = n) ∧ Lw 31 w.heap.size wz g lv L ∧ Lies wz Bv (V L j) ∧ RV wz base (.slice (some ⟨gs, 0, none⟩) (L.length + 1) cs) (Vs L) ∧ Below w.heap.size w wz) (fun i _ => L.length + 1 - (intOf i).toNat)
      case atStart => exact ⟨0, k0, Nat.zero_le _, rfl, hkn, .inl (Nat.zero_le _), hLg, hv2, hS2, hB2⟩
      case round =>
        clear hLg hv2 hS2 hB2
        rename World => wz
        obtain ⟨c, j, hc, rfl, hjn, hcj, hLg, hv, hS, hB⟩ := hrel
        obtain ⟨gs', cs', hsv', -, hrn, hgsl⟩ := hS.at hU16 hgetn
        injection hsv' with h1 h2 h3
        injection h1 with h1
        injection h1 with h1
        subst h1
        clear h2 h3
        by_cases hcl : c < L.length + 1
        · obtain ⟨Ws, hWs⟩ : ∃ Ws, Ws = wz.drew := ⟨_, rfl⟩
          have hLg : Lw 31 w.heap.size Ws g lv L := by rw [hWs]; exact hLg.drew
          have hvs : Lies Ws Bv (V L j) := by rw [hWs]; exact hv
          have hS : RV Ws base (.slice (some ⟨gs, 0, none⟩) (L.length + 1) cs) (Vs L) := by rw [hWs]; exact hS.kept fun _ _ => rfl
          have hB : Below w.heap.size w Ws := by rw [hWs]; exact hB.drew
          have hrn : Ws.rangeAt gs (n * 16) ((V L n).map (Value.int .i64)) := by rw [hWs]; exact hrn
          have hgsl : gs < Ws.heap.size := by rw [hWs]; exact hgsl
          clear hv
          go_wp2_with fail
          refine wp_region_noPanic ?_
          refine wp_region_held_drew (S := fun W' : World => Lies W' Bv (V L j) ∧ W'.rangeAt gs (n * 16) ((V L n).map (Value.int .i64))) (by kernel_rfl) (by rw [← hWs]; exact ⟨hvs, hrn⟩) (fun hHeld => ?_)
          rw [← hWs] at hHeld ⊢
          refine wpAnyH_take (i := 0) (oi := { dst := some 93, op := _, type := _, pos := _, after := _, guard := _ }) (v := .pointer (some ⟨g, 0, none⟩)) rfl (by kernel_rfl) (by kernel_rfl) (by kernel_rfl) (fun _ _ _ h => h) (Or.inl ⟨by rfl, ?_⟩) (by assumption) ?_
          · intro w9 hSw
            exact y_move rfl rfl
          simp only [Act.put, List.setIfInBounds_toArray, List.set_cons_zero, List.set_cons_succ]
          refine wpAnyH_take (i := 1) (oi := { dst := some 94, op := _, type := _, pos := _, after := _, guard := _ }) (v := .agg (vals (V L j))) rfl (by kernel_rfl) (by kernel_rfl) (by kernel_rfl) (fun _ _ _ h => h) (Or.inl ⟨by rfl, ?_⟩) (by assumption) ?_
          · intro w9 hSw
            exact y_load rfl rfl (load_v hSw.1 (V_len _))
          simp only [Act.put, List.setIfInBounds_toArray, List.set_cons_zero, List.set_cons_succ]
          refine wpAnyH_take (i := 2) (oi := { dst := some 95, op := _, type := _, pos := _, after := _, guard := _ }) (v := .slice (some ⟨gs, 0, none⟩) (L.length + 1) cs) rfl (by kernel_rfl) (by kernel_rfl) (by kernel_rfl) (fun _ _ _ h => h) (Or.inl ⟨by rfl, ?_⟩) (by assumption) ?_
          · intro w9 hSw
            exact y_move rfl rfl
          simp only [Act.put, List.setIfInBounds_toArray, List.set_cons_zero, List.set_cons_succ]
          refine wpAnyH_take (i := 3) (oi := { dst := some 96, op := _, type := _, pos := _, after := _, guard := _ }) (v := .int .i64 (n : Int)) rfl (by kernel_rfl) (by kernel_rfl) (by kernel_rfl) (fun _ _ _ h => h) (Or.inl ⟨by rfl, ?_⟩) (by assumption) ?_
          · intro w9 hSw
            exact y_move rfl rfl
          simp only [Act.put, List.setIfInBounds_toArray, List.set_cons_zero, List.set_cons_succ]
          refine wpAnyH_take (i := 4) (oi := { dst := some 97, op := _, type := _, pos := _, after := _, guard := _ }) (v := .pointer (some ⟨gs, n * 16, none⟩)) rfl (by kernel_rfl) (by kernel_rfl) (by kernel_rfl) (fun _ _ _ h => h) (Or.inl ⟨by rfl, ?_⟩) (by assumption) ?_
          · intro w9 hSw
            exact y_index rfl rfl rfl (hxn _)
          simp only [Act.put, List.setIfInBounds_toArray, List.set_cons_zero, List.set_cons_succ]
          refine wpAnyH_take (i := 5) (oi := { dst := some 98, op := _, type := _, pos := _, after := _, guard := _ }) (v := .agg (vals (V L n))) rfl (by kernel_rfl) (by kernel_rfl) (by kernel_rfl) (fun _ _ _ h => h) (Or.inl ⟨by rfl, ?_⟩) (by assumption) ?_
          · intro w9 hSw
            exact y_load rfl rfl (load_vmid hSw.2 (V_len _))
          simp only [Act.put, List.setIfInBounds_toArray, List.set_cons_zero, List.set_cons_succ]
          refine wpAnyH_take (i := 6) (oi := { dst := some 99, op := _, type := _, pos := _, after := _, guard := _ }) (v := .int .u8 bt) rfl (by kernel_rfl) (by kernel_rfl) (by kernel_rfl) (fun _ _ _ h => h) (Or.inl ⟨by rfl, ?_⟩) (by assumption) ?_
          · intro w9 hSw
            exact y_move rfl rfl
          simp only [Act.put, List.setIfInBounds_toArray, List.set_cons_zero, List.set_cons_succ]
          refine wpAnyH_take (i := 7) (oi := { dst := some 100, op := _, type := _, pos := _, after := _, guard := _ }) (v := .int .u8 rm) rfl (by kernel_rfl) (by kernel_rfl) (by kernel_rfl) (fun _ _ _ h => h) (Or.inl ⟨by rfl, ?_⟩) (by assumption) ?_
          · intro w9 hSw
            exact y_bin rfl rfl rfl (eqGuard_u8 _) (hrem _)
          simp only [Act.put, List.setIfInBounds_toArray, List.set_cons_zero, List.set_cons_succ]
          refine wpAnyH_take (i := 8) (oi := { dst := some 101, op := _, type := _, pos := _, after := _, guard := _ }) (v := .int .i64 rm) rfl (by kernel_rfl) (by kernel_rfl) (by kernel_rfl) (fun _ _ _ h => h) (Or.inl ⟨by rfl, ?_⟩) (by assumption) ?_
          · intro w9 hSw
            exact y_conv rfl rfl (conv_u8 _ hrm)
          simp only [Act.put, List.setIfInBounds_toArray, List.set_cons_zero, List.set_cons_succ]
          refine wpAnyH_take (i := 9) (oi := { dst := some 102, op := _, type := _, pos := _, after := _, guard := _ }) (v := .int .i64 (mm : Int)) rfl (by kernel_rfl) (by kernel_rfl) (by kernel_rfl) (fun _ _ _ h => h) (Or.inl ⟨by rfl, ?_⟩) (by assumption) ?_
          · intro w9 hSw
            exact y_bin rfl rfl rfl (eqGuard_int _) (hadd _)
          simp only [Act.put, List.setIfInBounds_toArray, List.set_cons_zero, List.set_cons_succ]
          clear hHeld
          refine wpAnyH_ready (rs := [10]) (by kernel_rfl) (by simp) ?_
          refine AllReadyH.cons (o := { dst := some 103, op := _, type := _, pos := _, after := _, guard := _ }) rfl (fun K hK => ?_) AllReadyH.nil
          rw [if_pos (by rfl)]
          refine y_call (f := 13) (xs := [.tmp 93, .tmp 94, .tmp 98, .tmp 102]) (vs := [.pointer (some ⟨g, 0, none⟩), .agg (vals (V L j)), .agg (vals (V L n)), .int .i64 (mm : Int)]) rfl rfl (enters_pfor _ _) (pfor_any _ L (V L j) (V L n) (V_len _) (V_len _) (mm : Int) (by omega) Ws hLg.lp.lp) ?_
          rintro ex w6 ⟨r1, rfl, hR1, hb6⟩
          refine ⟨_, rfl, ?_⟩
          have hv6 := hvs.below hb6 hvs.lt
          have hrn6 := range_below hrn hb6 hgsl
          refine hK.out _ _ ⟨hv6, hrn6⟩ (fun hHeld => ?_)
          clear hK K
          simp only [Act.put, List.setIfInBounds_toArray, List.set_cons_zero, List.set_cons_succ]
          refine wpAnyH_take (i := 11) (oi := { dst := some 16, op := _, type := _, pos := _, after := _, guard := _ }) (v := r1) rfl (by kernel_rfl) (by kernel_rfl) (by kernel_rfl) (fun _ _ _ h => h) (Or.inl ⟨by rfl, ?_⟩) (by assumption) ?_
          · intro w9 hSw
            exact y_assign rfl rfl
          simp only [Act.put, List.setIfInBounds_toArray, List.set_cons_zero, List.set_cons_succ]
          refine wpAnyH_done (by kernel_rfl) ?_ _
          refine NoPanic.normal ?_
          clear hHeld
          have hFS := for_serve hC (j := j) (n := n) mm
          rw [hFS] at hR1
          obtain ⟨T, hTe⟩ : ∃ T, (L.take (min (j + mm) n)).drop j = T := ⟨_, rfl⟩
          have hTat : Hid (∀ i x, T[i]? = some x → L[j + i]? = some x) := fun i x hx => serve_at (m := mm) (n := n) (by rw [hTe]; exact hx)
          have hTl : T.length = min (j + mm) n - j := by rw [← hTe, List.length_drop, List.length_take]; omega
          rw [hTe] at hR1
          have hTw : ∀ x ∈ T, Wide x := fun x hx => by
            obtain ⟨i, hi⟩ := List.getElem?_of_mem hx
            exact hLg.lp.wide x (List.mem_of_getElem? (hTat.out i x hi))
          have hrh := row_headV hR1
          obtain ⟨a1, c1, rfl, hE1⟩ := hR1.evs hTw
          have hE1B : a1 = none ∨ ∃ b1 o1, a1 = some ⟨b1, o1, none⟩ ∧ b1 ≠ Bv := by
            rcases hrh with h | ⟨gx, cx, h, hge⟩
            · injection h with h _ _; exact .inl h
            · injection h with h _ _
              exact .inr ⟨gx, 0, h, by have := hvs.lt; omega⟩
          clear hrh
          obtain ⟨nT, hnT⟩ : ∃ nT, T.length = nT := ⟨_, rfl⟩
          rw [hnT] at hE1 hTl
          have hLg6 := hLg.below hb6
          have hS6 := hS.below hb6 (Nat.le_refl _)
          have hB6 := hB.trans (hb6.mono hB.size)
          clear hFS hTe hR1 hLg hvs hS hB hrn hrn6 hb6 hWs
          have hdT : decide ((mm : Int) < (nT : Int)) = false := decide_eq_false (by omega)
          have hdT2 : decide (mm < nT) = false := decide_eq_false (by omega)
          have hdT3 : ¬ mm < nT := by omega
          have hnTm : nT ≤ 8 := by omega
          have HTl : Hid (nT = min (j + mm) n - j) := hTl
          clear hTl
          rw [hnT]
          go_wp2_with (first
            | (refine wpList_val (v := .int .u8 (rm : Int)) rfl (y_bin (op := .rem) (t := 5) (x := .tmp 106) (y := .const (.int .u8 8)) (vx := .int .u8 bt) (vy := .int .u8 8) rfl rfl rfl (eqGuard_u8 _) (hrem _)) ?_)
            | (refine wpList_val (v := .int .i64 (rm : Int)) rfl (y_conv (t := 5) (t' := 3) (x := .tmp 107) (v := .int .u8 (rm : Int)) rfl rfl (hcrm _)) ?_)
            | (refine wpList_val (v := .int .i64 (mm : Int)) rfl (y_bin (op := .add) (t := 3) (x := .const (.int .i64 1)) (y := .tmp 108) (vx := .int .i64 1) (vy := .int .i64 (rm : Int)) rfl rfl rfl (eqGuard_int _) (hadd _)) ?_))
          go_loopw [113] (fun s113 wy => ∃ (i : Nat), i ≤ nT ∧ s113 = .int .i64 (i : Int) ∧ Lw 31 w.heap.size wy g lv L ∧ Lies wy Bv (V L (j + i)) ∧ Evs wy a1 nT c1 T ∧ RV wy base (.slice (some ⟨gs, 0, none⟩) (L.length + 1) cs) (Vs L) ∧ Below w.heap.size w wy) (fun s113 _ => nT - (intOf s113).toNat)
          case atStart => exact ⟨0, Nat.zero_le _, rfl, hLg6, hv6, hE1, hS6, hB6⟩
          case round =>
            clear hLg6 hv6 hE1 hS6 hB6
            rename World => wy
            obtain ⟨i, hi, rfl, hLg, hv, hE1, hS, hB⟩ := hrel
            by_cases hiT : i < nT
            · obtain ⟨b1, o1, x, rfl, hxi, hx, hrx, hb1l⟩ := hE1.at hiT
              have hLx := hTat.out i x hxi
              have hmx := hC (j + i) x hLx
              have hbB : b1 ≠ Bv := by
                rcases hE1B with h | ⟨b', o', h, h'⟩
                · cases h
                · injection h with h; injection h with h; subst h; exact h'
              go_wp2_with fail
              refine region_vals [116, 117, 118, 119, 120, 121, 122] [.slice (some ⟨b1, o1, none⟩) nT c1, .int .i64 (i : Int), .pointer (some ⟨b1, o1 + i * 26, none⟩), .agg (evc x), .agg (vals (V L (j + i))), .bool true, .bool false] _ (by kernel_rfl) (by kernel_rfl) (by rfl) (by decide) (by kernel_rfl) (by simp only [lay, Act.put, List.setIfInBounds_toArray, List.set_cons_zero, List.set_cons_succ, List.getD_cons_zero, List.getD_cons_succ, Nat.reduceAdd]; rfl) ⟨?_, ?_, ?_, ?_, ?_, ?_, ?_, trivial⟩ ?_
              · exact .inl ⟨rfl, fun W hb => yields_move rfl rfl⟩
              · exact .inl ⟨rfl, fun W hb => yields_move rfl rfl⟩
              · exact .inl ⟨rfl, fun W hb => yields_indexAddr rfl rfl rfl (index_ev _ hiT)⟩
              · exact .inl ⟨rfl, fun W hb => yields_load rfl rfl (load_part (range_below hrx hb hb1l) hx.1)⟩
              · exact .inl ⟨rfl, fun W hb => yields_load rfl rfl (load_v (hv.below hb hv.lt) (V_len _))⟩
              · exact .inl ⟨rfl, fun W hb => yields_call (f := 20) (xs := [.tmp 119, .tmp 120]) (vs := [.agg (evc x), .agg (vals (V L (j + i)))]) (v := .bool true) rfl rfl (enters_rmay _ _) (by rw [← hmx.1]; exact rmay_any x (V L (j + i)) hx hmx.2 (V_len _) (V_fit hC _) W)⟩
              · exact .inl ⟨rfl, fun W hb => yields_un rfl rfl rfl⟩
              intro w9 hb9
              have hLg := hLg.below hb9
              have hv := hv.below hb9 hv.lt
              have hE1 := hE1.below hb9 (Nat.le_refl _)
              have hS := hS.below hb9 (Nat.le_refl _)
              have hB := hB.trans (hb9.mono hB.size)
              have hrx := range_below hrx hb9 hb1l
              have hb1l := Nat.lt_of_lt_of_le hb1l hb9.size
              clear hb9
              obtain ⟨kk, hkk⟩ : ∃ kk : Nat, x.r = (kk : Int) := by
                obtain ⟨h0, -, -, -⟩ := of_decide_eq_true hmx.2
                exact ⟨x.r.toNat, by omega⟩
              have hkk16 : kk < 16 := by have := okdot_r hmx.2; omega
              obtain ⟨Ws, hWs⟩ : ∃ Ws, Ws = w9.drew := ⟨_, rfl⟩
              have hrs : Ws.rangeAt b1 (o1 + i * 26) (evl x) := by rw [hWs]; exact hrx
              have hLgs : Lw 31 w.heap.size Ws g lv L := by rw [hWs]; exact hLg.drew
              have hvs : Lies Ws Bv (V L (j + i)) := by rw [hWs]; exact hv
              have hEs : Evs Ws (some ⟨b1, o1, none⟩) nT c1 T := by rw [hWs]; exact hE1.kept fun _ _ _ => rfl
              have hSs : RV Ws base (.slice (some ⟨gs, 0, none⟩) (L.length + 1) cs) (Vs L) := by rw [hWs]; exact hS.kept fun _ _ => rfl
              have hBs : Below w.heap.size w Ws := by rw [hWs]; exact hB.drew
              have hst := st_int (v := .int .i64 x.n) (by rw [Nat.zero_add]; exact hvs.cell (k := kk) (by rw [V_len]; exact hkk16)) (ad := ⟨Bv, 0 + kk, none⟩) hvs.frozen ⟨_, rfl⟩
              have hrs2 : (Ws.setCell ⟨Bv, 0 + kk, none⟩ (.int .i64 x.n)).rangeAt b1 (o1 + i * 26) (evl x) := fun q v hv => by
                rw [World.cell?_of_block (w := Ws) (Below.heap_setCell Ws ⟨Bv, 0 + kk, none⟩ _ b1 (by show b1 ≠ Bv; exact hbB))]
                exact hrs q v hv
              clear hLg hv hE1 hS hB hrx hb1l
              go_wp2_with fail
              refine wp_region_noPanic ?_
              refine wp_region_held_drew (S := fun W' : World => W'.rangeAt b1 (o1 + i * 26) (evl x)) (by kernel_rfl) (by rw [← hWs]; exact hrs) (fun hHeld => ?_)
              rw [← hWs] at hHeld ⊢
              refine wpAnyH_take (i := 0) (oi := { dst := some 123, op := _, type := _, pos := _, after := _, guard := _ }) (v := .slice (some ⟨b1, o1, none⟩) nT c1) rfl (by kernel_rfl) (by kernel_rfl) (by kernel_rfl) (fun _ _ _ h => h) (Or.inl ⟨by rfl, ?_⟩) (by assumption) ?_
              · intro w9 hSw
                exact y_move rfl rfl
              simp only [Act.put, List.setIfInBounds_toArray, List.set_cons_zero, List.set_cons_succ]
              refine wpAnyH_take (i := 1) (oi := { dst := some 124, op := _, type := _, pos := _, after := _, guard := _ }) (v := .int .i64 (i : Int)) rfl (by kernel_rfl) (by kernel_rfl) (by kernel_rfl) (fun _ _ _ h => h) (Or.inl ⟨by rfl, ?_⟩) (by assumption) ?_
              · intro w9 hSw
                exact y_move rfl rfl
              simp only [Act.put, List.setIfInBounds_toArray, List.set_cons_zero, List.set_cons_succ]
              refine wpAnyH_take (i := 2) (oi := { dst := some 125, op := _, type := _, pos := _, after := _, guard := _ }) (v := .pointer (some ⟨b1, o1 + i * 26, none⟩)) rfl (by kernel_rfl) (by kernel_rfl) (by kernel_rfl) (fun _ _ _ h => h) (Or.inl ⟨by rfl, ?_⟩) (by assumption) ?_
              · intro w9 hSw
                exact y_index rfl rfl rfl (index_ev _ hiT)
              simp only [Act.put, List.setIfInBounds_toArray, List.set_cons_zero, List.set_cons_succ]
              refine wpAnyH_take (i := 3) (oi := { dst := some 126, op := _, type := _, pos := _, after := _, guard := _ }) (v := .pointer (some ⟨b1, o1 + i * 26 + 0, none⟩)) rfl (by kernel_rfl) (by kernel_rfl) (by kernel_rfl) (fun _ _ _ h => h) (Or.inl ⟨by rfl, ?_⟩) (by assumption) ?_
              · intro w9 hSw
                exact y_field rfl rfl (field_e0 _ _ _)
              simp only [Act.put, List.setIfInBounds_toArray, List.set_cons_zero, List.set_cons_succ]
              refine wpAnyH_take (i := 4) (oi := { dst := some 127, op := _, type := _, pos := _, after := _, guard := _ }) (v := .pointer (some ⟨b1, o1 + i * 26 + 0, none⟩)) rfl (by kernel_rfl) (by kernel_rfl) (by kernel_rfl) (fun _ _ _ h => h) (Or.inl ⟨by rfl, ?_⟩) (by assumption) ?_
              · intro w9 hSw
                exact y_field rfl rfl (field_dm0 _ _ _)
              simp only [Act.put, List.setIfInBounds_toArray, List.set_cons_zero, List.set_cons_succ]
              refine wpAnyH_take (i := 5) (oi := { dst := some 128, op := _, type := _, pos := _, after := _, guard := _ }) (v := .int .i64 (kk : Int)) rfl (by kernel_rfl) (by kernel_rfl) (by kernel_rfl) (fun _ _ _ h => h) (Or.inl ⟨by rfl, ?_⟩) (by assumption) ?_
              · intro w9 hSw
                exact y_load rfl rfl (load_int (by rw [Nat.add_zero, ← hkk]; exact hSw 0 _ rfl))
              simp only [Act.put, List.setIfInBounds_toArray, List.set_cons_zero, List.set_cons_succ]
              refine wpAnyH_take (i := 6) (oi := { dst := some 129, op := _, type := _, pos := _, after := _, guard := _ }) (v := .slice (some ⟨b1, o1, none⟩) nT c1) rfl (by kernel_rfl) (by kernel_rfl) (by kernel_rfl) (fun _ _ _ h => h) (Or.inl ⟨by rfl, ?_⟩) (by assumption) ?_
              · intro w9 hSw
                exact y_move rfl rfl
              simp only [Act.put, List.setIfInBounds_toArray, List.set_cons_zero, List.set_cons_succ]
              refine wpAnyH_take (i := 7) (oi := { dst := some 130, op := _, type := _, pos := _, after := _, guard := _ }) (v := .int .i64 (i : Int)) rfl (by kernel_rfl) (by kernel_rfl) (by kernel_rfl) (fun _ _ _ h => h) (Or.inl ⟨by rfl, ?_⟩) (by assumption) ?_
              · intro w9 hSw
                exact y_move rfl rfl
              simp only [Act.put, List.setIfInBounds_toArray, List.set_cons_zero, List.set_cons_succ]
              refine wpAnyH_take (i := 8) (oi := { dst := some 131, op := _, type := _, pos := _, after := _, guard := _ }) (v := .pointer (some ⟨b1, o1 + i * 26, none⟩)) rfl (by kernel_rfl) (by kernel_rfl) (by kernel_rfl) (fun _ _ _ h => h) (Or.inl ⟨by rfl, ?_⟩) (by assumption) ?_
              · intro w9 hSw
                exact y_index rfl rfl rfl (index_ev _ hiT)
              simp only [Act.put, List.setIfInBounds_toArray, List.set_cons_zero, List.set_cons_succ]
              refine wpAnyH_take (i := 9) (oi := { dst := some 132, op := _, type := _, pos := _, after := _, guard := _ }) (v := .pointer (some ⟨b1, o1 + i * 26 + 0, none⟩)) rfl (by kernel_rfl) (by kernel_rfl) (by kernel_rfl) (fun _ _ _ h => h) (Or.inl ⟨by rfl, ?_⟩) (by assumption) ?_
              · intro w9 hSw
                exact y_field rfl rfl (field_e0 _ _ _)
              simp only [Act.put, List.setIfInBounds_toArray, List.set_cons_zero, List.set_cons_succ]
              refine wpAnyH_take (i := 10) (oi := { dst := some 133, op := _, type := _, pos := _, after := _, guard := _ }) (v := .pointer (some ⟨b1, o1 + i * 26 + 0 + 1, none⟩)) rfl (by kernel_rfl) (by kernel_rfl) (by kernel_rfl) (fun _ _ _ h => h) (Or.inl ⟨by rfl, ?_⟩) (by assumption) ?_
              · intro w9 hSw
                exact y_field rfl rfl (field_dm1 _ _ _)
              simp only [Act.put, List.setIfInBounds_toArray, List.set_cons_zero, List.set_cons_succ]
              refine wpAnyH_take (i := 11) (oi := { dst := some 134, op := _, type := _, pos := _, after := _, guard := _ }) (v := .int .i64 x.n) rfl (by kernel_rfl) (by kernel_rfl) (by kernel_rfl) (fun _ _ _ h => h) (Or.inl ⟨by rfl, ?_⟩) (by assumption) ?_
              · intro w9 hSw
                exact y_load rfl rfl (load_int (by rw [Nat.add_zero]; exact hSw 1 _ rfl))
              simp only [Act.put, List.setIfInBounds_toArray, List.set_cons_zero, List.set_cons_succ]
              refine wpAnyH_take (i := 12) (oi := { dst := some 135, op := _, type := _, pos := _, after := _, guard := _ }) (v := .pointer (some ⟨Bv, 0 + kk, none⟩)) rfl (by kernel_rfl) (by kernel_rfl) (by kernel_rfl) (fun _ _ _ h => h) (Or.inl ⟨by rfl, ?_⟩) (by assumption) ?_
              · intro w9 hSw
                exact y_index rfl rfl rfl (index_vv _ _ 0 kk hkk16)
              simp only [Act.put, List.setIfInBounds_toArray, List.set_cons_zero, List.set_cons_succ]
              clear hHeld
              refine wpAnyH_ready (rs := [13]) (by kernel_rfl) (by simp) ?_
              refine AllReadyH.cons (o := { dst := none, op := _, type := _, pos := _, after := _, guard := _ }) rfl (fun K hK => ?_) AllReadyH.nil
              rw [if_pos (by rfl)]
              refine y_store (ty := 3) (x := .tmp 135) (y := .tmp 134) (ad := ⟨Bv, 0 + kk, none⟩) (v := .int .i64 x.n) (w' := Ws.setCell ⟨Bv, 0 + kk, none⟩ (.int .i64 x.n)) rfl rfl rfl hst ?_
              refine hK.out _ _ hrs2 (fun hHeld => ?_)
              clear hK K
              simp only [Act.put]
              refine wpAnyH_done (by kernel_rfl) ?_ _
              refine NoPanic.normal ?_
              clear hHeld
              have HALL : Hid (Lw 31 w.heap.size (Ws.setCell ⟨Bv, 0 + kk, none⟩ (.int .i64 x.n)) g lv L ∧ Lies (Ws.setCell ⟨Bv, 0 + kk, none⟩ (.int .i64 x.n)) Bv (V L (j + (i + 1))) ∧ Evs (Ws.setCell ⟨Bv, 0 + kk, none⟩ (.int .i64 x.n)) (some ⟨b1, o1, none⟩) nT c1 T ∧ RV (Ws.setCell ⟨Bv, 0 + kk, none⟩ (.int .i64 x.n)) base (.slice (some ⟨gs, 0, none⟩) (L.length + 1) cs) (Vs L) ∧ Below w.heap.size w (Ws.setCell ⟨Bv, 0 + kk, none⟩ (.int .i64 x.n))) := by
                refine ⟨hLgs.cell (by have := hBv.out.1; omega) (fun e1 => by have := hBv.out.2.1 Bv e1; omega) _, ?_, ?_, hSs.cell (fun e1 => by have := hBv.out.2.2.1; have e2 : gs = Bv := (by simpa [Value.ownBlock] using e1); omega) _, hBs.setCell (p := ⟨Bv, 0 + kk, none⟩) (by show _ ≤ Bv; exact hBv.out.2.2.2) _⟩
                · rw [show j + (i + 1) = j + i + 1 by omega, V_succ hLx, seeV, show x.r.toNat = kk by omega, Nat.zero_add]
                  exact hvs.set _
                · exact hEs.kept fun _ ad ha => by
                    obtain rfl := Option.some.inj ha
                    exact Below.heap_setCell Ws ⟨Bv, 0 + kk, none⟩ _ b1 (by show b1 ≠ Bv; exact hbB)
              clear hLgs hvs hEs hSs hBs hst hrs hrs2 hWs
              generalize Ws.setCell ⟨Bv, 0 + kk, none⟩ (.int .i64 x.n) = w8 at *
              go_wp2
              go_roundw
              case rel => exact ⟨i + 1, by omega, by go_num, HALL.out⟩
              case measure => simp [intOf]; omega
            · obtain rfl : i = nT := by omega
              have HALL : Hid (Lw 31 w.heap.size wy g lv L ∧ Lies wy Bv (V L (j + i)) ∧ RV wy base (.slice (some ⟨gs, 0, none⟩) (L.length + 1) cs) (Vs L) ∧ Below w.heap.size w wy) := ⟨hLg, hv, hS, hB⟩
              clear hLg hv hE1 hS hB
              go_wp2
              go_roundw
              have hTl := HTl.out
              case rel => exact ⟨c + 1, j + i, by omega, by go_num, by omega, by omega, HALL.out⟩
              case measure => simp [intOf]; omega
        · obtain rfl : c = L.length + 1 := by omega
          obtain rfl : n = j := by omega
          go_wp2_with fail
          refine region_vals [138, 139, 140, 141, 142, 143, 8] [.agg (vals (V L n)), .slice (some ⟨gs, 0, none⟩) (L.length + 1) cs, .int .i64 (n : Int), .pointer (some ⟨gs, n * 16, none⟩), .agg (vals (V L n)), .bool true, .bool true] _ (by kernel_rfl) (by kernel_rfl) (by rfl) (by decide) (by kernel_rfl) (by simp only [lay, Act.put, List.setIfInBounds_toArray, List.set_cons_zero, List.set_cons_succ, List.getD_cons_zero, List.getD_cons_succ, Nat.reduceAdd]; rfl) ⟨?_, ?_, ?_, ?_, ?_, ?_, ?_, trivial⟩ ?_
          · exact .inl ⟨rfl, fun W hb => yields_load rfl rfl (load_v (hv.below hb hv.lt) (V_len _))⟩
          · exact .inl ⟨rfl, fun W hb => yields_move rfl rfl⟩
          · exact .inl ⟨rfl, fun W hb => yields_move rfl rfl⟩
          · exact .inl ⟨rfl, fun W hb => yields_indexAddr rfl rfl rfl (hxn _)⟩
          · exact .inl ⟨rfl, fun W hb => yields_load rfl rfl (load_vmid (range_below hrn hb hgsl) (V_len _))⟩
          · exact .inl ⟨rfl, fun W hb => yields_bin rfl rfl rfl (eqGuard_vv _ _ _) (run_eql_vec_same _ _ (V_len _))⟩
          · exact .inl ⟨rfl, fun W hb => yields_assign rfl rfl⟩
          intro w9 hb9
          have HB : Hid (Below w.heap.size w w9) := hB.trans (hb9.mono hB.size)
          clear hLg hv hS hB hrn hgsl hb9
          go_wp2
          go_ret
          exact ⟨rfl, HB.out⟩
theorem lserves_walk (ao : Option Addr) (len cap : Nat) (E : List Ev) (se tl bt : Int) (hse : (Lit.int .u64 se).wf = true) (htl : (Lit.int .u64 tl).wf = true) (hbt : 0 ≤ bt ∧ bt ≤ 255) (w : World) (hE : Evs w ao len cap E) : Calls Try.prog 4 #[.slice ao len cap, .int .u64 se, .int .u64 tl, .int .u8 bt] w fun e w' => e = .returned (.bool true) ∧ Below w.heap.size w w' := by
  by_cases hl : 200 < len
  · exact lserves_far ao len cap se tl bt w hl
  · exact lserves_go ao len cap E se tl bt hse htl hbt w hE hl
end Go.Proofs.Yteanpepmncgagaa
