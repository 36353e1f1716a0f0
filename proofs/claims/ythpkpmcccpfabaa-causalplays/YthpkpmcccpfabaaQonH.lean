/-
  What awake comes to; CausalNil.
-/
import Derived.Test.YthpkpmcccpfabaaQof
import Derived.Test.YthpkpmcccpfabaaQms
import Derived.BigQuiet
import Derived.Test.YthpkpmcccpfabaaRig
namespace Go.Proofs.Ythpkpmcccpfabaa
set_option maxRecDepth 100000
open Go.RowKit

def awE : Ev := ⟨0, 1, 0, zeros, 11, [107], [], [], 0, 0, 0⟩
theorem aw_ok : okev awE = true := by kernel_rfl
theorem aw_wide : Wide awE := ⟨rfl, by simp [awE], by simp [awE], by simp [awE]⟩
theorem aw_b1 (w : World) : (Instr.build 38 #[(1, .int .i64 1)]).run Try.prog w = .ok (.agg (dotc 0 1)) w := by kernel_rfl
theorem aw_b2 (w : World) : (Instr.build 42 #[(0, .int .i64 11), (1, .string ⟨#[107]⟩)]).run Try.prog w = .ok (.agg (opc awE)) w := by kernel_rfl
theorem aw_b3 (w : World) : (Instr.build 44 #[(0, .agg (dotc 0 1)), (3, .agg (opc awE))]).run Try.prog w = .ok (.agg (evc awE)) w := by kernel_rfl
theorem aw_b4 (w : World) : (Instr.build 40 #[]).run Try.prog w = .ok (.agg (vals zeros)) w := by kernel_rfl
theorem aw_takes : takesE [] awE zeros = true := by
  unfold takesE
  rw [aw_ok]
  rfl
theorem aw_off {T S' : List Ev} {u : List Int} (h : Off [] awE zeros T S' u) : T = [awE] ∧ S' = [] := by
  obtain ⟨L, hT, hS⟩ := h
  have ho : offS [] awE zeros = [awE] := by unfold offS; rw [aw_takes]; rfl
  rw [ho] at hT hS
  have h1 : runQ 1 [awE] zeros = ([awE], [], seeV zeros awE) := by
    have hm : mayE awE zeros = true := by kernel_rfl
    rw [runQ, runQ]
    simp [stepQ, List.findIdx?_cons, hm]
  obtain ⟨rfl, rfl, rfl⟩ := hT.one ⟨1, h1, rfl⟩
  refine ⟨rfl, ?_⟩
  rw [hS]
  have : hasv (seeV zeros awE) awE.r awE.n = true := by kernel_rfl
  simp [this]
section
variable {P : Program} {w : World} {ops : Array Oper} {rest : List Oper} {o : Oper} {a : Act} {Q : Exit → Act → World → Prop} {x y z : Operand} {ty : TypeId} {v p q r : Value} {i j k : Nat}
theorem wpList_b1 (hw : Region.wanted o (yielded ops a.tmps) = true) (ho : o.op = .build ty #[(i, x)]) (hx : a.eval x = p) (hr : (Instr.build ty #[(i, p)]).run P w = .ok v w) (hK : wpList P ops Q rest (a.put o.dst v) w) : wpList P ops Q (o :: rest) a w := by
  refine wpList_step fun K hK' => ?_
  rw [if_pos hw]
  unfold Oper.wp execOp
  simp only [ho, List.map_toArray, List.map_cons, List.map_nil, hx, Sem.run_bind, Sem.run_pure, Result.andThen_ok, hr]
  exact hK' _ _ hK
theorem wpList_b2 (hw : Region.wanted o (yielded ops a.tmps) = true) (ho : o.op = .build ty #[(i, x), (j, y)]) (hx : a.eval x = p) (hy : a.eval y = q) (hr : (Instr.build ty #[(i, p), (j, q)]).run P w = .ok v w) (hK : wpList P ops Q rest (a.put o.dst v) w) : wpList P ops Q (o :: rest) a w := by
  refine wpList_step fun K hK' => ?_
  rw [if_pos hw]
  unfold Oper.wp execOp
  simp only [ho, List.map_toArray, List.map_cons, List.map_nil, hx, hy, Sem.run_bind, Sem.run_pure, Result.andThen_ok, hr]
  exact hK' _ _ hK
theorem wpList_b3 (hw : Region.wanted o (yielded ops a.tmps) = true) (ho : o.op = .build ty #[(i, x), (j, y), (k, z)]) (hx : a.eval x = p) (hy : a.eval y = q) (hz : a.eval z = r) (hr : (Instr.build ty #[(i, p), (j, q), (k, r)]).run P w = .ok v w) (hK : wpList P ops Q rest (a.put o.dst v) w) : wpList P ops Q (o :: rest) a w := by
  refine wpList_step fun K hK' => ?_
  rw [if_pos hw]
  unfold Oper.wp execOp
  simp only [ho, List.map_toArray, List.map_cons, List.map_nil, hx, hy, hz, Sem.run_bind, Sem.run_pure, Result.andThen_ok, hr]
  exact hK' _ _ hK
end
theorem wpList_b0 {P : Program} {w : World} {ops : Array Oper} {rest : List Oper} {o : Oper} {a : Act} {Q : Exit → Act → World → Prop} {ty : TypeId} {v : Value} (hw : Region.wanted o (yielded ops a.tmps) = true) (ho : o.op = .build ty #[]) (hr : (Instr.build ty #[]).run P w = .ok v w) (hK : wpList P ops Q rest (a.put o.dst v) w) : wpList P ops Q (o :: rest) a w := by
  refine wpList_step fun K hK' => ?_
  rw [if_pos hw]
  unfold Oper.wp execOp
  simp only [ho, List.map_toArray, List.map_nil, Sem.run_bind, Sem.run_pure, Result.andThen_ok, hr]
  exact hK' _ _ hK
theorem Tn.low {g B : Nat} {m m' : Option Nat} {w W W' : World} (hb : Below B w W) (h : Tn g m m' W W') (hB : B ≤ W.heap.size) (hg : B ≤ g) (hm : ∀ k, m = some k → B ≤ k) : Below B w W' ∧ ∀ k, m' = some k → B ≤ k :=
  ⟨hb.trans (h.below hB hg hm), fun k hk => by rcases h.own k hk with h1 | h1; · exact hm k h1
                                               · omega⟩
set_option maxHeartbeats 1000000 in
theorem qawake_any (w : World) : Calls Try.prog 8 #[] w fun e w' => e = .returned (.bool true) ∧ Below w.heap.size w w' := by
  have hN := qnew_any w
  have hF0 := bf_new w
  have hb0 : Below w.heap.size w (w.alloc (.cells #[.map none] 34)) := (Below.refl _ w).alloc (Nat.le_refl _) _
  generalize hW0 : w.alloc (.cells #[.map none] 34) = W0 at *
  obtain ⟨g, hg⟩ : ∃ g, w.heap.size = g := ⟨_, rfl⟩
  rw [hg] at hN hF0 hb0 ⊢
  have hOf := offer_any g none [] awE zeros aw_wide rfl W0 hF0 Buf.nil (fun _ h => by simp at h)
  have hne := eql_pb W0 ⟨g, 0, none⟩
  have hb1 := aw_b1 W0
  have hb2 := aw_b2 W0
  have hb3 := aw_b3 W0
  have hb4 := aw_b4 W0
  have HB0 : Hid (Below g w W0) := hb0
  have hsz : g ≤ W0.heap.size := hg ▸ hb0.size
  clear hF0 hb0
  go_enter Try.func8, Try.ntmps8
  go_wp2_with fail
  refine Calls.mono hN ?_
  rintro e w1 ⟨rfl, hw1⟩
  obtain rfl := hw1.symm
  go_wp2_with (first
    | (refine wpList_b1 (ty := 38) (i := 1) (x := .const (.int .i64 1)) (p := .int .i64 1) (v := .agg (dotc 0 1)) rfl rfl rfl hb1 ?_)
    | (refine wpList_b2 (ty := 42) (i := 0) (j := 1) (x := .const (.int .i64 11)) (y := .const (.string ⟨#[107]⟩)) (p := .int .i64 11) (q := .string ⟨#[107]⟩) (v := .agg (opc awE)) rfl rfl rfl rfl hb2 ?_)
    | (refine wpList_b2 (ty := 44) (i := 0) (j := 3) (x := .tmp 7) (y := .tmp 8) (p := .agg (dotc 0 1)) (q := .agg (opc awE)) (v := .agg (evc awE)) rfl rfl rfl rfl hb3 ?_)
    | (refine wpList_b0 (ty := 40) (v := .agg (vals zeros)) rfl rfl hb4 ?_))
  refine Calls.mono hOf ?_
  rintro e w2 ⟨vt, T, S', u, m', rfl, hO, -, hr2, hB2, ht2⟩
  obtain ⟨rfl, rfl⟩ := aw_off hO
  have HB2 : Hid (Below g w w2) := (Tn.low HB0.out ht2 hsz (Nat.le_refl _) (fun k e => by cases e)).1
  have hL := qlen_any g m' [] w2 hB2
  obtain ⟨ao, cap, hvt, -⟩ := hr2.evs (fun e he => by rw [List.mem_singleton.1 he]; exact aw_wide)
  subst hvt
  clear hOf hO hr2 hB2 ht2 hb1 hb2 hb3 hb4 hne hN
  go_wp2_with fail
  refine Calls.mono hL ?_
  rintro e w3 ⟨rfl, hw3⟩
  obtain rfl := hw3.symm
  go_wp2
  go_ret
  exact ⟨rfl, HB2.out⟩
theorem offer_nil (e : Ev) (v : List Int) (w : World) : Calls Try.prog 11 #[.pointer none, .agg (evc e), .agg (vals v)] w fun ex w' => ex = .returned (.slice none 0 0) ∧ Below w.heap.size w w' := by
  have hb0 : Below w.heap.size w ((w.alloc (.cells (evc e) 44)).alloc (.cells (vals v) 40)) := ((Below.refl _ w).alloc (Nat.le_refl _) _).alloc (by simp) _
  have he : ∀ W, (binOp .eql 24 (.pointer none) (.pointer none)).run Try.prog W = .ok (.bool true) W := fun W => by kernel_rfl
  go_enter Try.func11, Try.ntmps11
  go_wp2
  go_ret
  exact ⟨rfl, hb0⟩
set_option maxHeartbeats 1000000 in
theorem lnil_walk (e : Ev) (v : List Int) (he16 : e.deps.length = 16) (hv : v.length = 16) (w : World) : Calls Try.prog 6 #[.agg (evc e), .agg (vals v)] w fun ex w' => ex = .returned (.bool true) ∧ Below w.heap.size w w' := by
  have hb0 : Below w.heap.size w ((w.alloc (.cells (evc e) 44)).alloc (.cells (vals v) 40)) := ((Below.refl _ w).alloc (Nat.le_refl _) _).alloc (by simp) _
  have hE0 := (liesE_new w e).alloc (.cells (vals v) 40)
  have hV0 : Lies ((w.alloc (.cells (evc e) 44)).alloc (.cells (vals v) 40)) (w.heap.size + 1) v := by
    have := lies_new (w.alloc (.cells (evc e) 44)) v
    rwa [World.size_alloc] at this
  generalize hW0 : (w.alloc (.cells (evc e) 44)).alloc (.cells (vals v) 40) = W0 at *
  have hA := qawake_any W0
  go_enter Try.func6, Try.ntmps6
  go_wp2_with fail
  refine Calls.mono hA ?_
  rintro ex w1 ⟨rfl, hb1⟩
  have hE1 := hE0.below hb1 hE0.lt
  have hlv := load_v (hV0.below hb1 hV0.lt) hv
  have HB1 : Hid (Below w.heap.size w w1) := hb0.trans (hb1.mono hb0.size)
  have hO := offer_nil e v w1
  clear hb0 hE0 hV0 hb1 hA
  go_wp2_with (first
    | refine load_ev rfl rfl rfl hE1 he16 ?_
    | (refine wpList_loadR (ty := 40) (x := .tmp 3) (ad := ⟨w.heap.size + 1, 0, none⟩) (v := .agg (vals v)) rfl rfl rfl hlv ?_))
  refine Calls.mono hO ?_
  rintro ex w2 ⟨rfl, hb2⟩
  have HB2 : Hid (Below w.heap.size w w2) := HB1.out.trans (hb2.mono HB1.out.size)
  have hL := qlen_nil w2
  clear hlv hE1 hO hb2 HB1
  go_wp2_with fail
  refine Calls.mono hL ?_
  rintro ex w3 ⟨rfl, hw3⟩
  obtain rfl := hw3.symm
  go_wp2
  go_ret
  exact ⟨rfl, HB2.out⟩
end Go.Proofs.Ythpkpmcccpfabaa

namespace Go.Proofs.Ythpkpmcccpfabaa
set_option maxRecDepth 100000
open Go.RowKit

/-- A buffer and a vector that a law made. -/
structure Lq (w : World) (g Bv : Nat) (wr : World) (m : Option Nat) (S : List Ev) (v : List Int) : Prop where
  below : Below w.heap.size w wr
  bf : Bf wr g m S
  vec : Lies wr Bv v
  lo : w.heap.size ≤ g
  hi : g < Bv
  own : ∀ k, m = some k → w.heap.size ≤ k
section
variable {w wr w' : World} {g Bv : Nat} {m m' : Option Nat} {S S' : List Ev} {v : List Int}
theorem Lq.next (h : Lq w g Bv wr m S v) (hb : Below wr.heap.size wr w') : Lq w g Bv w' m S v :=
  ⟨h.below.trans (hb.mono h.below.size), h.bf.below hb, h.vec.below hb h.vec.lt, h.lo, h.hi, h.own⟩
theorem Lq.drew (h : Lq w g Bv wr m S v) : Lq w g Bv wr.drew m S v := h.next (Below.refl _ _).drew
theorem Lq.offer (h : Lq w g Bv wr m S v) (hb : Bf w' g m' S') (ht : Tn g m m' wr w') : Lq w g Bv w' m' S' v := by
  obtain ⟨h1, h2⟩ := Tn.low h.below ht h.below.size h.lo h.own
  have hv := h.vec
  exact ⟨h1, hb, (ht.block Bv hv.lt (by have := h.hi; omega) (h.bf.notMap hv)).trans hv, h.lo, h.hi, h2⟩
/-- Another row of the law's own turns. -/
theorem Lq.grow {r : Option Nat} (h : Lq w g Bv wr m S v) (hg : wr.grownBy w' r) (hr : ∀ k, r = some k → Bv < k ∧ ∃ cs ty, wr.heap[k]? = some (.cells cs ty (0, 0))) : Lq w g Bv w' m S v := by
  have ho : ∀ k, k ≤ Bv → some k ≠ r := fun k hk e => by have := (hr k e.symm).1; omega
  have hlo := h.lo
  have hhi := h.hi
  have hmr : ∀ k, m = some k → some k ≠ r := fun k hk e => by
    obtain ⟨-, cs, ty, hc⟩ := hr k e.symm
    exact h.bf.notMap hc hk
  refine ⟨h.below.grown hg h.below.size (fun k e => by have := (hr k e).1; omega), ?_, ?_, h.lo, h.hi, h.own⟩
  · obtain ⟨cs, hb⟩ := h.bf
    refine ⟨cs, hb.kept fun k hk hkk => hg.block k hk ?_⟩
    rcases hkk with rfl | hkk
    · exact ho k (by omega)
    · exact hmr k hkk
  · rw [Lies, hg.block Bv h.vec.lt (ho Bv (Nat.le_refl _))]; exact h.vec
theorem Lq.set (h : Lq w g Bv wr m S v) (j : Nat) (x : Int) : Lq w g Bv (wr.setCell ⟨Bv, j, none⟩ (.int .i64 x)) m S (v.set j x) := by
  have ho : ∀ k, k ≠ Bv → (wr.setCell ⟨Bv, j, none⟩ (.int .i64 x)).heap[k]? = wr.heap[k]? := fun k hk => Below.heap_setCell _ _ _ k hk
  have hlo := h.lo
  have hhi := h.hi
  have hnm := h.bf.notMap h.vec
  refine ⟨h.below.setCell (p := ⟨Bv, j, none⟩) (by show _ ≤ Bv; omega) _, ?_, h.vec.set x, h.lo, h.hi, h.own⟩
  obtain ⟨cs, hb⟩ := h.bf
  refine ⟨cs, hb.kept fun k _ hkk => ho k ?_⟩
  rcases hkk with rfl | hkk
  · omega
  · rintro rfl; exact hnm hkk
end
theorem row_cells {w : World} {base : Nat} {vt : Value} {T : List Ev} (h : Row w base vt T) : ∀ k, vt.ownBlock = some k → base ≤ k ∧ ∃ cs ty, w.heap[k]? = some (.cells cs ty (0, 0)) := fun k hk => by
  refine ⟨Row.own h k hk, ?_⟩
  rcases h.2 with ⟨rfl, -⟩ | ⟨g', cap, cur, rfl, -, hg', -⟩
  · cases hk
  · obtain rfl : g' = k := by simpa [Value.ownBlock] using hk
    exact ⟨cur, 44, hg'⟩
theorem Row.set {w : World} {base Bv j : Nat} {vt : Value} {T : List Ev} (h : Row w base vt T) (hb : Bv < base) (x : Value) : Row (w.setCell ⟨Bv, j, none⟩ x) base vt T :=
  keepR h fun k hk => Below.heap_setCell _ _ _ k (by have := Row.own h k hk; show k ≠ Bv; omega)
theorem row_range {w : World} {base b off n c : Nat} {T : List Ev} (h : Row w base (.slice (some ⟨b, off, none⟩) n c) T) (hw : ∀ x ∈ T, Wide x) {j : Nat} {x : Ev} (hj : j < T.length) (hx : T[j]? = some x) : w.rangeAt b (off + j * 26) (evl x) := by
  obtain ⟨ao2, c2, hv2, hTe⟩ := h.evs hw
  simp only [Value.slice.injEq] at hv2
  obtain ⟨h1, -, -⟩ := hv2
  obtain ⟨b2, off2, y, hao2, hyj, -, hrg2, -⟩ := hTe.at hj
  rw [← h1] at hao2
  cases hao2
  rw [hx] at hyj
  cases hyj
  exact hrg2
theorem y_len {o : Oper} {a : Act} {w : World} {x : Operand} {ao : Option Addr} {n c : Nat} (ho : o.op = .call { callee := .builtin .len, args := #[x], argTypes := #[27] }) (hx : a.eval x = .slice ao n c) : (execOp a.eval o).run Try.prog w = .ok (.value (.int .i64 (n : Int))) w := by
  unfold execOp
  simp only [ho, resolve, invoke, builtin, Sem.run_bind, Sem.run_pure, Result.andThen_ok, List.map_toArray, List.map_cons, List.map_nil, hx]
  simp [go_sem]
theorem load_em {w : World} {b k : Nat} {e : Ev} (h : w.rangeAt b k (evl e)) (he : e.deps.length = 16) : (loadVar 44 ⟨b, k, none⟩).run Try.prog w = .ok (.agg (evc e)) w :=
  run_loadVar_mid (P := Try.prog) w b k 44 _ _ h Try.underlying44 rfl (size26 e he)
theorem field_em0 (w : World) (b k : Nat) : (Instr.fieldAt 44 (.pointer (some ⟨b, k, none⟩)) 0).run Try.prog w = .ok (.pointer (some ⟨b, k, none⟩)) w := by go_simp
theorem field_dm0 (w : World) (b k : Nat) : (Instr.fieldAt 38 (.pointer (some ⟨b, k, none⟩)) 0).run Try.prog w = .ok (.pointer (some ⟨b, k, none⟩)) w := by go_simp
theorem field_dm1 (w : World) (b k : Nat) : (Instr.fieldAt 38 (.pointer (some ⟨b, k, none⟩)) 1).run Try.prog w = .ok (.pointer (some ⟨b, k + 1, none⟩)) w := by go_simp
theorem range_r {w : World} {b k : Nat} {e : Ev} (h : w.rangeAt b k (evl e)) : w.cell? ⟨b, k, none⟩ = some (.int .i64 e.r) := h 0 _ rfl
theorem range_n {w : World} {b k : Nat} {e : Ev} (h : w.rangeAt b k (evl e)) : w.cell? ⟨b, k + 1, none⟩ = some (.int .i64 e.n) := h 1 _ rfl
theorem st_int {w : World} {ad : Addr} {u v : Value} (h : w.cell? ad = some u) (hf : w.frozen? ad = false) (h1 : v.oneCell' = true) (hv : ∃ i, v = .int .i64 i) : (storeVar 3 ad v).run Try.prog w = .ok () (w.setCell ad v) := by
  obtain ⟨i, rfl⟩ := hv
  have h3 : Try.prog.underlying 3 = some (.int .i64) := by kernel_rfl
  go_simp
theorem enters_offer (xs : Array Value) (w : World) : (callFunc 11 xs).run Try.prog w = .ok (.enter 11 xs) w := enters Try.func11 (by kernel_rfl) (by kernel_rfl) xs w
theorem enters_qlen (xs : Array Value) (w : World) : (callFunc 13 xs).run Try.prog w = .ok (.enter 13 xs) w := enters Try.func13 (by kernel_rfl) (by kernel_rfl) xs w
theorem Off.wide {S T S' : List Ev} {e : Ev} {v u : List Int} (h : Off S e v T S' u) (hS : ∀ x ∈ S, Wide x) (he : Wide e) : (∀ x ∈ T, Wide x) ∧ ∀ x ∈ S', Wide x := by
  have hw := Buf.wide (v := v) hS he
  obtain ⟨L, hT, rfl⟩ := h
  exact ⟨fun x hx => hw x (hT.perm.mem_iff.1 (List.mem_append_left _ hx)), fun x hx => hw x (List.mem_filter.1 hx).1⟩
theorem vs_take {T : List Ev} {v : List Int} {j : Nat} {e : Ev} (he : T[j]? = some e) : vs (T.take (j + 1)) v = (vs (T.take j) v).set e.r.toNat e.n := by
  rw [List.take_add_one, he, Option.toList_some, vs_snoc]; rfl
end Go.Proofs.Ythpkpmcccpfabaa

namespace Go.Proofs.Ythpkpmcccpfabaa
set_option maxRecDepth 100000
open Go.RowKit

theorem okbool {f : FuncId} {xs : Array Value} {W : World} {b c : Bool} (h : Calls Try.prog f xs W fun e w' => e = .returned (.bool b) ∧ Below W.heap.size W w') (hb : b = c) :
    Calls Try.prog f xs W fun e w' => e = .returned (.bool c) ∧ Below W.heap.size W w' := by rw [← hb]; exact h
theorem enters_most (xs : Array Value) (w : World) : (callFunc 28 xs).run Try.prog w = .ok (.enter 28 xs) w := enters Try.func28 (by kernel_rfl) (by kernel_rfl) xs w
/-- Is each number of a at most that of b? -/
def most (a b : List Int) : Bool := (List.range 16).all fun i => decide (a.getD i 0 ≤ b.getD i 0)
theorem most_spec (a b : List Int) : most a b = true ↔ ∀ i, i < 16 → a.getD i 0 ≤ b.getD i 0 := by
  rw [most, List.all_eq_true]
  simp only [List.mem_range, decide_eq_true_eq]
/-- How two vectors stand to one another. -/
def way (a b : List Int) : Int := if a = b then 0 else if most a b = true then 1 else if most b a = true then 2 else 3
set_option maxHeartbeats 1000000 in
theorem most_any (a b : List Int) (la : a.length = 16) (lb : b.length = 16) (w : World) :
    Calls Try.prog 28 #[.agg (vals a), .agg (vals b)] w fun e w' => e = .returned (.bool (most a b)) ∧ Below w.heap.size w w' := by
  obtain ⟨hA, hB, hb0⟩ := boxed2 w a b
  go_enter Try.func28, Try.ntmps28
  go_wp2_with fail
  go_loopw [5] (fun i wr => ∃ k : Nat, k ≤ 16 ∧ i = .int .i64 (k : Int) ∧ (∀ j, j < k → a.getD j 0 ≤ b.getD j 0) ∧ Lies wr w.heap.size a ∧ Lies wr (w.heap.size + 1) b ∧ Below w.heap.size w wr) (fun i _ => 16 - (intOf i).toNat)
  case atStart => exact ⟨0, by omega, rfl, fun j hj => by omega, hA, hB, hb0⟩
  case round =>
    obtain ⟨k, hk, rfl, hall, hA', hB', hb⟩ := hrel
    clear hA hB hb0
    have HB : Hid (Below w.heap.size w wr) := hb
    clear hb
    have HA : Hid _ := hall
    clear hall
    by_cases h : k < 16
    · have hc := hA'.cell (k := k) (by omega)
      have hcb := hB'.cell (k := k) (by omega)
      have hia := fun (W : World) (g : Nat) => run_indexAt_vec W g k h
      have Ha : Hid _ := hA'.drew
      have Hb : Hid _ := hB'.drew
      have Hs : Hid (a.getD k 0 ≤ b.getD k 0 → ∀ j, j < k + 1 → a.getD j 0 ≤ b.getD j 0) := by
        intro hle j hj
        by_cases he : j = k
        · subst he; exact hle
        · exact HA.out j (by omega)
      have Hn : Hid (b.getD k 0 < a.getD k 0 → most a b = false) := by
        intro hlt
        rw [Bool.eq_false_iff]
        intro hm
        have := (most_spec a b).1 hm k h
        omega
      clear hA' hB' HA
      generalize a.getD k 0 = x at *
      generalize b.getD k 0 = y at *
      by_cases hxy : y < x
      · go_wp2_with fail
        go_quiet (fail)
        go_wp2
        go_ret
        exact ⟨by rw [Hn.out (by omega)]; rfl, Below.drewN HB.out _⟩
      · go_wp2_with fail
        go_quiet (fail)
        go_wp2
        go_roundw
        case rel => exact ⟨k + 1, by omega, by go_num, Hs.out (by omega), Ha.out, Hb.out, Below.drewN HB.out _⟩
        case measure => simp [intOf]; omega
    · obtain rfl : k = 16 := by omega
      have Hr : Hid (most a b = true) := (most_spec a b).2 HA.out
      clear HA hA' hB'
      go_wp2
      go_ret
      exact ⟨by rw [Hr.out]; rfl, HB.out⟩
set_option maxHeartbeats 400000 in
theorem rcompare_truetrue (a b : List Int) (la : a.length = 16) (lb : b.length = 16) (h1 : most a b = true) (h2 : most b a = true) (hr : way a b = 0) (w : World) :
    Calls Try.prog 16 #[.agg (vals a), .agg (vals b)] w fun e w' => e = .returned (.int .i64 (way a b)) ∧ Below w.heap.size w w' := by
  obtain ⟨hA, hB, hb0⟩ := boxed2 w a b
  have H1 : Hid _ := h1
  have H2 : Hid _ := h2
  have H0 : Hid _ := hb0
  rw [hr]
  clear h1 h2 hr hb0
  go_enter Try.func16, Try.ntmps16
  go_wp2_with fail
  refine region_vals [7, 8, 9, 10, 11, 12, 5, 6] [.agg (vals (a)), .agg (vals (b)), .bool true, .agg (vals (b)), .agg (vals (a)), .bool true, .bool true, .bool true] _ (by kernel_rfl) (by kernel_rfl) (by rfl) (by decide) (by kernel_rfl) (by simp only [lay, Act.put, List.setIfInBounds_toArray, List.set_cons_zero, List.set_cons_succ, List.getD_cons_zero, List.getD_cons_succ, Nat.reduceAdd]; rfl) ⟨?_, ?_, ?_, ?_, ?_, ?_, ?_, ?_, trivial⟩ ?_
  · exact .inl ⟨rfl, fun W hb => yields_load rfl rfl (load_run ((hA).below hb (hA).lt) la)⟩
  · exact .inl ⟨rfl, fun W hb => yields_load rfl rfl (load_run ((hB).below hb (hB).lt) lb)⟩
  · exact .inl ⟨rfl, fun W hb => yields_call (vs := [.agg (vals (a)), .agg (vals (b))]) (v := .bool true) rfl rfl (enters_most _ _) (okbool (most_any _ _ la lb W) H1.out)⟩
  · exact .inl ⟨rfl, fun W hb => yields_load rfl rfl (load_run ((hB).below hb (hB).lt) lb)⟩
  · exact .inl ⟨rfl, fun W hb => yields_load rfl rfl (load_run ((hA).below hb (hA).lt) la)⟩
  · exact .inl ⟨rfl, fun W hb => yields_call (vs := [.agg (vals (b)), .agg (vals (a))]) (v := .bool true) rfl rfl (enters_most _ _) (okbool (most_any _ _ lb la W) H2.out)⟩
  · exact .inl ⟨rfl, fun W hb => yields_assign rfl rfl⟩
  · exact .inl ⟨rfl, fun W hb => yields_assign rfl rfl⟩
  intro w2 hb2
  have HB : Hid (Below w.heap.size w w2) := H0.out.trans (hb2.mono H0.out.size)
  clear hA hB hb2 H0 H1 H2
  go_wp2
  go_ret
  exact ⟨rfl, HB.out⟩
theorem most_each {a b : List Int} (ha : a.length = 16) (hb : b.length = 16) : most a b = decide (each max a b = b) := by
  rw [Bool.eq_iff_iff, most_spec, decide_eq_true_eq, max_le ha hb]
theorem wrap_next {x n : Int} (h0 : -9223372036854775808 ≤ x) (h1 : x ≤ 9223372036854775807) (h2 : 1 ≤ n) (h3 : n ≤ 1048576) : n = IntKind.i64.wrap (x + 1) ↔ n = x + 1 := by
  simp [IntKind.wrap, IntKind.signed, IntKind.bits]; omega
theorem add_one' (w : World) (x : Int) : (binOp .add 3 (.int .i64 x) (.int .i64 1)).run Try.prog w = .ok (.int .i64 (IntKind.i64.wrap (x + 1))) w := by
  simp only [go_sem]
  rfl
/-- Numbers that a vector's cells can hold. -/
def Fit (v : List Int) : Prop := ∀ j, -9223372036854775808 ≤ v.getD j 0 ∧ v.getD j 0 ≤ 9223372036854775807
set_option maxHeartbeats 1000000 in
theorem rmay_any (e : Ev) (v : List Int) (hw : Wide e) (hd : okdot e.r e.n = true) (hv : v.length = 16) (hf : Fit v) (w : World) :
    Calls Try.prog 15 #[.agg (evc e), .agg (vals v)] w fun ex w' => ex = .returned (.bool (mayE e v)) ∧ Below w.heap.size w w' := by
  have he16 := hw.1
  have hb0 : Below w.heap.size w ((w.alloc (.cells (evc e) 44)).alloc (.cells (vals v) 40)) := ((Below.refl _ w).alloc (Nat.le_refl _) _).alloc (by simp) _
  have hM0 : Ms w.heap.size e v ((w.alloc (.cells (evc e) 44)).alloc (.cells (vals v) 40)) := ⟨(liesE_new w e).alloc _, by
    have := lies_new (w.alloc (.cells (evc e) 44)) v
    rwa [World.size_alloc] at this⟩
  generalize hW0 : (w.alloc (.cells (evc e) 44)).alloc (.cells (vals v) 40) = W0 at *
  obtain ⟨B, hB⟩ : ∃ B, w.heap.size = B := ⟨_, rfl⟩
  rw [hB] at hM0
  have hd2 := hd
  simp only [okdot, decide_eq_true_eq] at hd2
  obtain ⟨k, hk⟩ : ∃ k : Nat, e.r = (k : Int) := ⟨e.r.toNat, by omega⟩
  have hkt : e.r.toNat = k := by omega
  have hk16 : k < 16 := by omega
  have hix := fun W => index_vv W (B + 1) 0 k hk16
  simp only [Nat.zero_add] at hix
  have hcell : ∀ W, Lies W (B + 1) v → W.cell? ⟨B + 1, k, none⟩ = some (.int .i64 (v.getD k 0)) := fun W h => h.cell (by omega)
  have hfd : ∀ W, (Instr.fieldAt 44 (.pointer (some ⟨B, 0, none⟩)) 0).run Try.prog W = .ok (.pointer (some ⟨B, 0, none⟩)) W := fun W => field_ev0 W B
  have hM1 : Ms B e v W0.drew := ⟨hM0.ev, hM0.vec⟩
  have HB0 : Hid (Below w.heap.size w W0) := hb0
  have hJn := most_any e.deps v he16 hv
  rw [most_each he16 hv] at hJn
  have hr0 : ∀ W, LiesE W B e → W.cell? ⟨B, 0, none⟩ = some (.int .i64 (k : Int)) := fun W h => by rw [h.c0, hk]
  have hwr := wrap_next (n := e.n) (hf k).1 (hf k).2 (by omega) (by omega)
  unfold mayE
  rw [hkt]
  clear hb0 hM0 hf
  generalize hx : v.getD k 0 = x at *
  rcases Bool.eq_false_or_eq_true (decide (e.n = IntKind.i64.wrap (x + 1))) with ht | ht
  · have hn : decide (e.n = x + 1) = true := by simp only [decide_eq_true_eq] at ht ⊢; exact hwr.1 ht
    rw [hn, Bool.true_and]
    clear hwr
    go_enter Try.func15, Try.ntmps15
    go_wp2_with fail
    clear hW0
    refine wp_region_noPanic ?_
    refine wp_region_held_drew (S := fun W' : World => Ms B e v W') (by kernel_rfl) hM1 (fun hHeld => ?_)
    refine wpAnyH_take (i := 0) (oi := { dst := some 5, op := _, type := _, pos := _, after := _, guard := _ }) (v := .pointer (some ⟨B, 0, none⟩)) rfl (by kernel_rfl) (by kernel_rfl) (by kernel_rfl) (fun _ _ _ h => h) (Or.inl ⟨by rfl, ?_⟩) (by assumption) ?_
    · intro w9 hSw
      exact y_field rfl rfl (hfd _)
    simp only [Act.put, List.setIfInBounds_toArray, List.set_cons_zero, List.set_cons_succ]
    refine wpAnyH_take (i := 1) (oi := { dst := some 6, op := _, type := _, pos := _, after := _, guard := _ }) (v := .pointer (some ⟨B, 1, none⟩)) rfl (by kernel_rfl) (by kernel_rfl) (by kernel_rfl) (fun _ _ _ h => h) (Or.inl ⟨by rfl, ?_⟩) (by assumption) ?_
    · intro w9 hSw
      exact y_field rfl rfl (field_d1 _ _)
    simp only [Act.put, List.setIfInBounds_toArray, List.set_cons_zero, List.set_cons_succ]
    refine wpAnyH_take (i := 2) (oi := { dst := some 7, op := _, type := _, pos := _, after := _, guard := _ }) (v := .int .i64 e.n) rfl (by kernel_rfl) (by kernel_rfl) (by kernel_rfl) (fun _ _ _ h => h) (Or.inl ⟨by rfl, ?_⟩) (by assumption) ?_
    · intro w9 hSw
      exact y_load rfl rfl (load_int hSw.ev.c1)
    simp only [Act.put, List.setIfInBounds_toArray, List.set_cons_zero, List.set_cons_succ]
    refine wpAnyH_take (i := 3) (oi := { dst := some 8, op := _, type := _, pos := _, after := _, guard := _ }) (v := .pointer (some ⟨B, 0, none⟩)) rfl (by kernel_rfl) (by kernel_rfl) (by kernel_rfl) (fun _ _ _ h => h) (Or.inl ⟨by rfl, ?_⟩) (by assumption) ?_
    · intro w9 hSw
      exact y_field rfl rfl (hfd _)
    simp only [Act.put, List.setIfInBounds_toArray, List.set_cons_zero, List.set_cons_succ]
    refine wpAnyH_take (i := 4) (oi := { dst := some 9, op := _, type := _, pos := _, after := _, guard := _ }) (v := .pointer (some ⟨B, 0, none⟩)) rfl (by kernel_rfl) (by kernel_rfl) (by kernel_rfl) (fun _ _ _ h => h) (Or.inl ⟨by rfl, ?_⟩) (by assumption) ?_
    · intro w9 hSw
      exact y_field rfl rfl (field_d0 _ _)
    simp only [Act.put, List.setIfInBounds_toArray, List.set_cons_zero, List.set_cons_succ]
    refine wpAnyH_take (i := 5) (oi := { dst := some 10, op := _, type := _, pos := _, after := _, guard := _ }) (v := .int .i64 (k : Int)) rfl (by kernel_rfl) (by kernel_rfl) (by kernel_rfl) (fun _ _ _ h => h) (Or.inl ⟨by rfl, ?_⟩) (by assumption) ?_
    · intro w9 hSw
      exact y_load rfl rfl (load_int (hr0 _ hSw.ev))
    simp only [Act.put, List.setIfInBounds_toArray, List.set_cons_zero, List.set_cons_succ]
    refine wpAnyH_take (i := 6) (oi := { dst := some 11, op := _, type := _, pos := _, after := _, guard := _ }) (v := .pointer (some ⟨B + 1, k, none⟩)) rfl (by kernel_rfl) (by kernel_rfl) (by kernel_rfl) (fun _ _ _ h => h) (Or.inl ⟨by rfl, ?_⟩) (by assumption) ?_
    · intro w9 hSw
      exact y_index rfl rfl rfl (hix _)
    simp only [Act.put, List.setIfInBounds_toArray, List.set_cons_zero, List.set_cons_succ]
    refine wpAnyH_take (i := 7) (oi := { dst := some 12, op := _, type := _, pos := _, after := _, guard := _ }) (v := .int .i64 x) rfl (by kernel_rfl) (by kernel_rfl) (by kernel_rfl) (fun _ _ _ h => h) (Or.inl ⟨by rfl, ?_⟩) (by assumption) ?_
    · intro w9 hSw
      exact y_load rfl rfl (load_int (hcell _ hSw.vec))
    simp only [Act.put, List.setIfInBounds_toArray, List.set_cons_zero, List.set_cons_succ]
    refine wpAnyH_take (i := 8) (oi := { dst := some 13, op := _, type := _, pos := _, after := _, guard := _ }) (v := .int .i64 (IntKind.i64.wrap (x + 1))) rfl (by kernel_rfl) (by kernel_rfl) (by kernel_rfl) (fun _ _ _ h => h) (Or.inl ⟨by rfl, ?_⟩) (by assumption) ?_
    · intro w9 hSw
      exact exec_bin rfl rfl rfl (eqGuard_ii _ _ _) (add_one' _ _)
    simp only [Act.put, List.setIfInBounds_toArray, List.set_cons_zero, List.set_cons_succ]
    refine wpAnyH_take (i := 9) (oi := { dst := some 14, op := _, type := _, pos := _, after := _, guard := _ }) (v := .bool true) rfl (by kernel_rfl) (by kernel_rfl) (by kernel_rfl) (fun _ _ _ h => h) (Or.inl ⟨by rfl, ?_⟩) (by assumption) ?_
    · intro w9 hSw
      exact exec_bin rfl rfl rfl (eqGuard_ii _ _ _) (eql_ii _ ht)
    simp only [Act.put, List.setIfInBounds_toArray, List.set_cons_zero, List.set_cons_succ]
    refine wpAnyH_take (i := 10) (oi := { dst := some 15, op := _, type := _, pos := _, after := _, guard := _ }) (v := .bool true) rfl (by kernel_rfl) (by kernel_rfl) (by kernel_rfl) (fun _ _ _ h => h) (Or.inl ⟨by rfl, ?_⟩) (by assumption) ?_
    · intro w9 hSw
      exact y_move rfl rfl
    simp only [Act.put, List.setIfInBounds_toArray, List.set_cons_zero, List.set_cons_succ]
    refine wpAnyH_take (i := 11) (oi := { dst := some 16, op := _, type := _, pos := _, after := _, guard := _ }) (v := .pointer (some ⟨B, 3, none⟩)) rfl (by kernel_rfl) (by kernel_rfl) (by kernel_rfl) (fun _ _ _ h => h) (Or.inl ⟨by rfl, ?_⟩) (by assumption) ?_
    · intro w9 hSw
      exact y_field rfl rfl (field_ev2 _ _)
    simp only [Act.put, List.setIfInBounds_toArray, List.set_cons_zero, List.set_cons_succ]
    refine wpAnyH_take (i := 12) (oi := { dst := some 17, op := _, type := _, pos := _, after := _, guard := _ }) (v := .agg (vals e.deps)) rfl (by kernel_rfl) (by kernel_rfl) (by kernel_rfl) (fun _ _ _ h => h) (Or.inl ⟨by rfl, ?_⟩) (by assumption) ?_
    · intro w9 hSw
      exact y_load rfl rfl (load_dp3 hSw.ev he16)
    simp only [Act.put, List.setIfInBounds_toArray, List.set_cons_zero, List.set_cons_succ]
    refine wpAnyH_take (i := 13) (oi := { dst := some 18, op := _, type := _, pos := _, after := _, guard := _ }) (v := .agg (vals v)) rfl (by kernel_rfl) (by kernel_rfl) (by kernel_rfl) (fun _ _ _ h => h) (Or.inl ⟨by rfl, ?_⟩) (by assumption) ?_
    · intro w9 hSw
      exact y_load rfl rfl (load_v hSw.vec hv)
    simp only [Act.put, List.setIfInBounds_toArray, List.set_cons_zero, List.set_cons_succ]
    clear hHeld
    refine wpAnyH_ready (rs := [14]) (by kernel_rfl) (by simp) ?_
    refine AllReadyH.cons (o := { dst := some 19, op := _, type := _, pos := _, after := _, guard := _ }) rfl (fun K hK => ?_) AllReadyH.nil
    rw [if_pos (by rfl)]
    refine y_call (f := 28) (xs := [.tmp 17, .tmp 18]) (vs := [.agg (vals e.deps), .agg (vals v)]) rfl rfl (enters_most _ _) (hJn W0.drew) ?_
    rintro ex w5 ⟨rfl, hb5⟩
    refine ⟨_, rfl, ?_⟩
    have HB5 : Hid (Below w.heap.size w w5) := (HB0.out.drew).trans (hb5.mono HB0.out.size)
    refine hK.out _ _ (hM1.below hb5) (fun hHeld => ?_)
    clear hK K
    simp only [Act.put, List.setIfInBounds_toArray, List.set_cons_zero, List.set_cons_succ]
    refine wpAnyH_take (i := 15) (oi := { dst := some 20, op := _, type := _, pos := _, after := _, guard := _ }) (v := .bool (decide (each max e.deps v = v))) rfl (by kernel_rfl) (by kernel_rfl) (by kernel_rfl) (fun _ _ _ h => h) (Or.inl ⟨by rfl, ?_⟩) (by assumption) ?_
    · intro w9 hSw
      exact exec_pick (b := true) rfl rfl rfl rfl
    simp only [Act.put, List.setIfInBounds_toArray, List.set_cons_zero, List.set_cons_succ]
    refine wpAnyH_take (i := 16) (oi := { dst := some 4, op := _, type := _, pos := _, after := _, guard := _ }) (v := .bool (decide (each max e.deps v = v))) rfl (by kernel_rfl) (by kernel_rfl) (by kernel_rfl) (fun _ _ _ h => h) (Or.inl ⟨by rfl, ?_⟩) (by assumption) ?_
    · intro w9 hSw
      exact y_assign rfl rfl
    simp only [Act.put, List.setIfInBounds_toArray, List.set_cons_zero, List.set_cons_succ]
    refine wpAnyH_done (by kernel_rfl) ?_ _
    refine NoPanic.normal ?_
    clear hHeld
    go_wp2
    go_ret
    exact ⟨rfl, HB5.out⟩
  · have hn : decide (e.n = x + 1) = false := by simp only [decide_eq_false_iff_not] at ht ⊢; exact fun h => ht (hwr.2 h)
    rw [hn, Bool.false_and]
    clear hwr
    go_enter Try.func15, Try.ntmps15
    go_wp2_with fail
    clear hW0
    refine wp_region_noPanic ?_
    refine wp_region_held_drew (S := fun W' : World => Ms B e v W') (by kernel_rfl) hM1 (fun hHeld => ?_)
    refine wpAnyH_take (i := 0) (oi := { dst := some 5, op := _, type := _, pos := _, after := _, guard := _ }) (v := .pointer (some ⟨B, 0, none⟩)) rfl (by kernel_rfl) (by kernel_rfl) (by kernel_rfl) (fun _ _ _ h => h) (Or.inl ⟨by rfl, ?_⟩) (by assumption) ?_
    · intro w9 hSw
      exact y_field rfl rfl (hfd _)
    simp only [Act.put, List.setIfInBounds_toArray, List.set_cons_zero, List.set_cons_succ]
    refine wpAnyH_take (i := 1) (oi := { dst := some 6, op := _, type := _, pos := _, after := _, guard := _ }) (v := .pointer (some ⟨B, 1, none⟩)) rfl (by kernel_rfl) (by kernel_rfl) (by kernel_rfl) (fun _ _ _ h => h) (Or.inl ⟨by rfl, ?_⟩) (by assumption) ?_
    · intro w9 hSw
      exact y_field rfl rfl (field_d1 _ _)
    simp only [Act.put, List.setIfInBounds_toArray, List.set_cons_zero, List.set_cons_succ]
    refine wpAnyH_take (i := 2) (oi := { dst := some 7, op := _, type := _, pos := _, after := _, guard := _ }) (v := .int .i64 e.n) rfl (by kernel_rfl) (by kernel_rfl) (by kernel_rfl) (fun _ _ _ h => h) (Or.inl ⟨by rfl, ?_⟩) (by assumption) ?_
    · intro w9 hSw
      exact y_load rfl rfl (load_int hSw.ev.c1)
    simp only [Act.put, List.setIfInBounds_toArray, List.set_cons_zero, List.set_cons_succ]
    refine wpAnyH_take (i := 3) (oi := { dst := some 8, op := _, type := _, pos := _, after := _, guard := _ }) (v := .pointer (some ⟨B, 0, none⟩)) rfl (by kernel_rfl) (by kernel_rfl) (by kernel_rfl) (fun _ _ _ h => h) (Or.inl ⟨by rfl, ?_⟩) (by assumption) ?_
    · intro w9 hSw
      exact y_field rfl rfl (hfd _)
    simp only [Act.put, List.setIfInBounds_toArray, List.set_cons_zero, List.set_cons_succ]
    refine wpAnyH_take (i := 4) (oi := { dst := some 9, op := _, type := _, pos := _, after := _, guard := _ }) (v := .pointer (some ⟨B, 0, none⟩)) rfl (by kernel_rfl) (by kernel_rfl) (by kernel_rfl) (fun _ _ _ h => h) (Or.inl ⟨by rfl, ?_⟩) (by assumption) ?_
    · intro w9 hSw
      exact y_field rfl rfl (field_d0 _ _)
    simp only [Act.put, List.setIfInBounds_toArray, List.set_cons_zero, List.set_cons_succ]
    refine wpAnyH_take (i := 5) (oi := { dst := some 10, op := _, type := _, pos := _, after := _, guard := _ }) (v := .int .i64 (k : Int)) rfl (by kernel_rfl) (by kernel_rfl) (by kernel_rfl) (fun _ _ _ h => h) (Or.inl ⟨by rfl, ?_⟩) (by assumption) ?_
    · intro w9 hSw
      exact y_load rfl rfl (load_int (hr0 _ hSw.ev))
    simp only [Act.put, List.setIfInBounds_toArray, List.set_cons_zero, List.set_cons_succ]
    refine wpAnyH_take (i := 6) (oi := { dst := some 11, op := _, type := _, pos := _, after := _, guard := _ }) (v := .pointer (some ⟨B + 1, k, none⟩)) rfl (by kernel_rfl) (by kernel_rfl) (by kernel_rfl) (fun _ _ _ h => h) (Or.inl ⟨by rfl, ?_⟩) (by assumption) ?_
    · intro w9 hSw
      exact y_index rfl rfl rfl (hix _)
    simp only [Act.put, List.setIfInBounds_toArray, List.set_cons_zero, List.set_cons_succ]
    refine wpAnyH_take (i := 7) (oi := { dst := some 12, op := _, type := _, pos := _, after := _, guard := _ }) (v := .int .i64 x) rfl (by kernel_rfl) (by kernel_rfl) (by kernel_rfl) (fun _ _ _ h => h) (Or.inl ⟨by rfl, ?_⟩) (by assumption) ?_
    · intro w9 hSw
      exact y_load rfl rfl (load_int (hcell _ hSw.vec))
    simp only [Act.put, List.setIfInBounds_toArray, List.set_cons_zero, List.set_cons_succ]
    refine wpAnyH_take (i := 8) (oi := { dst := some 13, op := _, type := _, pos := _, after := _, guard := _ }) (v := .int .i64 (IntKind.i64.wrap (x + 1))) rfl (by kernel_rfl) (by kernel_rfl) (by kernel_rfl) (fun _ _ _ h => h) (Or.inl ⟨by rfl, ?_⟩) (by assumption) ?_
    · intro w9 hSw
      exact exec_bin rfl rfl rfl (eqGuard_ii _ _ _) (add_one' _ _)
    simp only [Act.put, List.setIfInBounds_toArray, List.set_cons_zero, List.set_cons_succ]
    refine wpAnyH_take (i := 9) (oi := { dst := some 14, op := _, type := _, pos := _, after := _, guard := _ }) (v := .bool false) rfl (by kernel_rfl) (by kernel_rfl) (by kernel_rfl) (fun _ _ _ h => h) (Or.inl ⟨by rfl, ?_⟩) (by assumption) ?_
    · intro w9 hSw
      exact exec_bin rfl rfl rfl (eqGuard_ii _ _ _) (eql_ii _ ht)
    simp only [Act.put, List.setIfInBounds_toArray, List.set_cons_zero, List.set_cons_succ]
    refine wpAnyH_take (i := 10) (oi := { dst := some 15, op := _, type := _, pos := _, after := _, guard := _ }) (v := .bool false) rfl (by kernel_rfl) (by kernel_rfl) (by kernel_rfl) (fun _ _ _ h => h) (Or.inl ⟨by rfl, ?_⟩) (by assumption) ?_
    · intro w9 hSw
      exact y_move rfl rfl
    simp only [Act.put, List.setIfInBounds_toArray, List.set_cons_zero, List.set_cons_succ]
    refine wpAnyH_take (i := 11) (oi := { dst := some 16, op := _, type := _, pos := _, after := _, guard := _ }) (v := undef) rfl (by kernel_rfl) (by kernel_rfl) (by kernel_rfl) (fun _ _ _ h => h) (Or.inr ⟨by rfl, rfl⟩) (by assumption) ?_
    simp only [Act.put, List.setIfInBounds_toArray, List.set_cons_zero, List.set_cons_succ]
    refine wpAnyH_take (i := 12) (oi := { dst := some 17, op := _, type := _, pos := _, after := _, guard := _ }) (v := undef) rfl (by kernel_rfl) (by kernel_rfl) (by kernel_rfl) (fun _ _ _ h => h) (Or.inr ⟨by rfl, rfl⟩) (by assumption) ?_
    simp only [Act.put, List.setIfInBounds_toArray, List.set_cons_zero, List.set_cons_succ]
    refine wpAnyH_take (i := 13) (oi := { dst := some 18, op := _, type := _, pos := _, after := _, guard := _ }) (v := undef) rfl (by kernel_rfl) (by kernel_rfl) (by kernel_rfl) (fun _ _ _ h => h) (Or.inr ⟨by rfl, rfl⟩) (by assumption) ?_
    simp only [Act.put, List.setIfInBounds_toArray, List.set_cons_zero, List.set_cons_succ]
    refine wpAnyH_take (i := 14) (oi := { dst := some 19, op := _, type := _, pos := _, after := _, guard := _ }) (v := undef) rfl (by kernel_rfl) (by kernel_rfl) (by kernel_rfl) (fun _ _ _ h => h) (Or.inr ⟨by rfl, rfl⟩) (by assumption) ?_
    simp only [Act.put, List.setIfInBounds_toArray, List.set_cons_zero, List.set_cons_succ]
    refine wpAnyH_take (i := 15) (oi := { dst := some 20, op := _, type := _, pos := _, after := _, guard := _ }) (v := .bool false) rfl (by kernel_rfl) (by kernel_rfl) (by kernel_rfl) (fun _ _ _ h => h) (Or.inl ⟨by rfl, ?_⟩) (by assumption) ?_
    · intro w9 hSw
      exact exec_pick (b := false) rfl rfl rfl rfl
    simp only [Act.put, List.setIfInBounds_toArray, List.set_cons_zero, List.set_cons_succ]
    refine wpAnyH_take (i := 16) (oi := { dst := some 4, op := _, type := _, pos := _, after := _, guard := _ }) (v := .bool false) rfl (by kernel_rfl) (by kernel_rfl) (by kernel_rfl) (fun _ _ _ h => h) (Or.inl ⟨by rfl, ?_⟩) (by assumption) ?_
    · intro w9 hSw
      exact y_assign rfl rfl
    simp only [Act.put, List.setIfInBounds_toArray, List.set_cons_zero, List.set_cons_succ]
    refine wpAnyH_done (by kernel_rfl) ?_ _
    refine NoPanic.normal ?_
    clear hHeld
    go_wp2
    go_ret
    exact ⟨rfl, HB0.out.drew⟩
end Go.Proofs.Ythpkpmcccpfabaa

namespace Go.Proofs.Ythpkpmcccpfabaa
set_option maxRecDepth 100000
open Go.RowKit

set_option maxHeartbeats 400000 in
theorem rfield_any (k : Int) (w : World) : Calls Try.prog 44 #[.int .i64 k] w fun e w' => e = .returned (.bool (usesF k)) ∧ w' = w := by
  go_enter Try.func44, Try.ntmps44
  go_wp2
  all_goals
    go_ret
    refine ⟨congrArg (fun b => Ending.returned (.bool b)) (?_ : _ = usesF k), rfl⟩
    rw [Bool.eq_iff_iff]
    simp only [usesF, decide_eq_true_eq, Bool.false_eq_true, false_iff] <;> omega

set_option maxHeartbeats 400000 in
theorem rvalue_any (k : Int) (w : World) : Calls Try.prog 45 #[.int .i64 k] w fun e w' => e = .returned (.bool (usesV k)) ∧ w' = w := by
  go_enter Try.func45, Try.ntmps45
  go_wp2
  all_goals
    go_ret
    refine ⟨congrArg (fun b => Ending.returned (.bool b)) (?_ : _ = usesV k), rfl⟩
    rw [Bool.eq_iff_iff]
    simp only [usesV, decide_eq_true_eq, Bool.or_eq_true, beq_iff_eq, true_iff] <;> omega

set_option maxHeartbeats 400000 in
theorem rnum_any (k : Int) (w : World) : Calls Try.prog 46 #[.int .i64 k] w fun e w' => e = .returned (.bool (usesN k)) ∧ w' = w := by
  go_enter Try.func46, Try.ntmps46
  go_wp2
  all_goals
    go_ret
    refine ⟨congrArg (fun b => Ending.returned (.bool b)) (?_ : _ = usesN k), rfl⟩
    rw [Bool.eq_iff_iff]
    simp only [usesN, decide_eq_true_eq, Bool.or_eq_true, beq_iff_eq, true_iff] <;> omega

set_option maxHeartbeats 400000 in
theorem rref_any (k : Int) (w : World) : Calls Try.prog 47 #[.int .i64 k] w fun e w' => e = .returned (.bool (usesR k)) ∧ w' = w := by
  go_enter Try.func47, Try.ntmps47
  go_wp2
  all_goals
    go_ret
    refine ⟨congrArg (fun b => Ending.returned (.bool b)) (?_ : _ = usesR k), rfl⟩
    rw [Bool.eq_iff_iff]
    simp only [usesR, decide_eq_true_eq, Bool.or_eq_true, beq_iff_eq, true_iff] <;> omega

end Go.Proofs.Ythpkpmcccpfabaa

namespace Go.Proofs.Ythpkpmcccpfabaa
set_option maxRecDepth 100000
open Go.RowKit

/-- The operation can be, in plain words. -/
def Plain (e : Ev) : Prop := 1 ≤ e.kind ∧ e.kind ≤ 11 ∧ 1 ≤ (sb e.key).size ∧ (sb e.key).size ≤ 64 ∧ (sb e.field).size ≤ 64 ∧ (sb e.value).size ≤ 64 ∧ -1099511627776 ≤ e.num ∧ e.num ≤ 1099511627776
def Spare (e : Ev) : Prop := (usesF e.kind = false → e.field = []) ∧ (usesV e.kind = false → e.value = []) ∧ (usesN e.kind = false → e.num = 0) ∧ (usesR e.kind = false → e.rr = 0 ∧ e.rn = 0)
theorem used_spare (e : Ev) : sameO e (used e) = true ↔ Spare e := by
  rw [sameO_iff]
  have f1 : (used e).kind = e.kind := rfl
  have f2 : (used e).key = e.key := rfl
  have f3 : (used e).field = if usesF e.kind then e.field else [] := rfl
  have f4 : (used e).value = if usesV e.kind then e.value else [] := rfl
  have f5 : (used e).num = if usesN e.kind then e.num else 0 := rfl
  have f6 : (used e).rr = if usesR e.kind then e.rr else 0 := rfl
  have f7 : (used e).rn = if usesR e.kind then e.rn else 0 := rfl
  rw [f1, f2, f3, f4, f5, f6, f7]
  unfold Spare
  cases usesF e.kind <;> cases usesV e.kind <;> cases usesN e.kind <;> cases usesR e.kind <;> simp
theorem opE_iff (e : Ev) : opE e = true ↔ Plain e ∧ Spare e := by
  have h1 : e.key ≠ [] ↔ 1 ≤ e.key.length := by
    cases e.key <;> simp
  simp only [opE, Bool.and_eq_true, used_spare, iskindE, textsE, numE, decide_eq_true_eq, Plain, sb_size, h1]
  constructor
  · rintro ⟨⟨a, b⟩, c, ⟨d, f, g⟩, ⟨h, i⟩, j⟩; exact ⟨⟨a, b, c, d, f, g, h, i⟩, j⟩
  · rintro ⟨⟨a, b, c, d, f, g, h, i⟩, j⟩; exact ⟨⟨a, b⟩, c, ⟨d, f, g⟩, ⟨h, i⟩, j⟩
theorem sbl_ne {s : List UInt8} (h : ¬ s = []) : ¬ (sb s).toList = [] := by
  rw [ByteArray.toList_eq, data_sb]
  exact h
theorem opE_no {e : Ev} (h : ¬ (Plain e ∧ Spare e)) : false = opE e := by
  rcases Bool.eq_false_or_eq_true (opE e) with h' | h'
  · exact absurd ((opE_iff e).1 h') h
  · exact h'.symm

set_option maxHeartbeats 1000000 in
theorem rop_any (e : Ev) (w : World) : Calls Try.prog 27 #[.agg (opc e)] w fun e' w' => e' = .returned (.bool (opE e)) ∧ Below w.heap.size w w' := by
  obtain ⟨hO, hB⟩ := boxedO w e
  have c0 := hO.c0
  have c1 := hO.c1
  have c2 := hO.c2
  have c3 := hO.c3
  have c4 := hO.c4
  have r5 := hO.ref
  clear hO
  have HB : Hid (Below w.heap.size w (w.alloc (.cells (opc e) 42))) := hB
  clear hB
  have HN : Hid (¬ (1 ≤ e.kind ∧ e.kind ≤ 11 ∧ 1 ≤ (sb e.key).size ∧ (sb e.key).size ≤ 64 ∧ (sb e.field).size ≤ 64 ∧ (sb e.value).size ≤ 64 ∧ -1099511627776 ≤ e.num ∧ e.num ≤ 1099511627776) → false = opE e) := fun h => opE_no (fun h' => h h'.1)
  go_enter Try.func27, Try.ntmps27
  go_wp2_with fail
  all_goals first
    | (go_ret; exact ⟨congrArg (fun b => Ending.returned (.bool b)) (HN.out (by omega)), HB.out⟩)
    | skip
  have HP : Hid (Plain e) := by
    show 1 ≤ e.kind ∧ e.kind ≤ 11 ∧ 1 ≤ (sb e.key).size ∧ (sb e.key).size ≤ 64 ∧ (sb e.field).size ≤ 64 ∧ (sb e.value).size ≤ 64 ∧ -1099511627776 ≤ e.num ∧ e.num ≤ 1099511627776
    omega
  have hp := plain_dot
  refine (rfield_any _ _).mono ?_
  rintro e1 w1 ⟨rfl, hw⟩
  obtain rfl := hw.symm
  rcases Bool.eq_false_or_eq_true (usesF e.kind) with hF | hF
  · have OF : Hid (usesF e.kind = false → e.field = []) := fun h => by rw [hF] at h; cases h
    rw [hF]
    clear hF
    go_wp2_with fail
    refine (rvalue_any _ _).mono ?_
    rintro e1 w1 ⟨rfl, hw⟩
    obtain rfl := hw.symm
    rcases Bool.eq_false_or_eq_true (usesV e.kind) with hV | hV
    · have OV : Hid (usesV e.kind = false → e.value = []) := fun h => by rw [hV] at h; cases h
      rw [hV]
      clear hV
      go_wp2_with fail
      refine (rnum_any _ _).mono ?_
      rintro e1 w1 ⟨rfl, hw⟩
      obtain rfl := hw.symm
      rcases Bool.eq_false_or_eq_true (usesN e.kind) with hN | hN
      · have ON : Hid (usesN e.kind = false → e.num = 0) := fun h => by rw [hN] at h; cases h
        rw [hN]
        clear hN
        go_wp2_with fail
        refine (rref_any _ _).mono ?_
        rintro e1 w1 ⟨rfl, hw⟩
        obtain rfl := hw.symm
        rcases Bool.eq_false_or_eq_true (usesR e.kind) with hR | hR
        · have HT : Hid (true = opE e) := ((opE_iff e).2 ⟨HP.out, OF.out, OV.out, ON.out, fun h => by rw [hR] at h; cases h⟩).symm
          rw [hR]
          clear hR
          go_wp2_with (refine load_dot_at rfl rfl rfl r5 ?_)
          go_ret
          exact ⟨congrArg (fun b => Ending.returned (.bool b)) HT.out, HB.out⟩
        · have HT : Hid (isrefE e = opE e) := by
            show _ = _
            rw [Bool.eq_iff_iff, opE_iff, isrefE, decide_eq_true_eq]
            exact ⟨fun h => ⟨HP.out, OF.out, OV.out, ON.out, fun _ => h⟩, fun h => h.2.2.2.2 hR⟩
          have he := fun W : World => run_isref W (e := e) rfl
          rw [hR]
          clear hR
          generalize isrefE e = b at *
          go_wp2_with (refine load_dot_at rfl rfl rfl r5 ?_)
          all_goals
            go_ret
            exact ⟨congrArg (fun b => Ending.returned (.bool b)) HT.out, HB.out⟩
      · by_cases hz : e.num = 0
        · have ON : Hid (usesN e.kind = false → e.num = 0) := fun _ => hz
          rw [hz] at c4
          rw [hN]
          clear hN hz
          go_wp2_with fail
          refine (rref_any _ _).mono ?_
          rintro e1 w1 ⟨rfl, hw⟩
          obtain rfl := hw.symm
          rcases Bool.eq_false_or_eq_true (usesR e.kind) with hR | hR
          · have HT : Hid (true = opE e) := ((opE_iff e).2 ⟨HP.out, OF.out, OV.out, ON.out, fun h => by rw [hR] at h; cases h⟩).symm
            rw [hR]
            clear hR
            go_wp2_with (refine load_dot_at rfl rfl rfl r5 ?_)
            go_ret
            exact ⟨congrArg (fun b => Ending.returned (.bool b)) HT.out, HB.out⟩
          · have HT : Hid (isrefE e = opE e) := by
              show _ = _
              rw [Bool.eq_iff_iff, opE_iff, isrefE, decide_eq_true_eq]
              exact ⟨fun h => ⟨HP.out, OF.out, OV.out, ON.out, fun _ => h⟩, fun h => h.2.2.2.2 hR⟩
            have he := fun W : World => run_isref W (e := e) rfl
            rw [hR]
            clear hR
            generalize isrefE e = b at *
            go_wp2_with (refine load_dot_at rfl rfl rfl r5 ?_)
            all_goals
              go_ret
              exact ⟨congrArg (fun b => Ending.returned (.bool b)) HT.out, HB.out⟩
        · have HT : Hid (false = opE e) := opE_no fun h => hz (h.2.2.2.1 hN)
          have hne : (e.num == 0) = false := by simpa using hz
          rw [hN]
          clear hN hz
          go_wp2
          all_goals
            go_ret
            exact ⟨congrArg (fun b => Ending.returned (.bool b)) HT.out, HB.out⟩
    · by_cases hz : e.value = []
      · have OV : Hid (usesV e.kind = false → e.value = []) := fun _ => hz
        rw [hz, sb_nil] at c3
        rw [hV]
        clear hV hz
        go_wp2_with fail
        refine (rnum_any _ _).mono ?_
        rintro e1 w1 ⟨rfl, hw⟩
        obtain rfl := hw.symm
        rcases Bool.eq_false_or_eq_true (usesN e.kind) with hN | hN
        · have ON : Hid (usesN e.kind = false → e.num = 0) := fun h => by rw [hN] at h; cases h
          rw [hN]
          clear hN
          go_wp2_with fail
          refine (rref_any _ _).mono ?_
          rintro e1 w1 ⟨rfl, hw⟩
          obtain rfl := hw.symm
          rcases Bool.eq_false_or_eq_true (usesR e.kind) with hR | hR
          · have HT : Hid (true = opE e) := ((opE_iff e).2 ⟨HP.out, OF.out, OV.out, ON.out, fun h => by rw [hR] at h; cases h⟩).symm
            rw [hR]
            clear hR
            go_wp2_with (refine load_dot_at rfl rfl rfl r5 ?_)
            go_ret
            exact ⟨congrArg (fun b => Ending.returned (.bool b)) HT.out, HB.out⟩
          · have HT : Hid (isrefE e = opE e) := by
              show _ = _
              rw [Bool.eq_iff_iff, opE_iff, isrefE, decide_eq_true_eq]
              exact ⟨fun h => ⟨HP.out, OF.out, OV.out, ON.out, fun _ => h⟩, fun h => h.2.2.2.2 hR⟩
            have he := fun W : World => run_isref W (e := e) rfl
            rw [hR]
            clear hR
            generalize isrefE e = b at *
            go_wp2_with (refine load_dot_at rfl rfl rfl r5 ?_)
            all_goals
              go_ret
              exact ⟨congrArg (fun b => Ending.returned (.bool b)) HT.out, HB.out⟩
        · by_cases hz : e.num = 0
          · have ON : Hid (usesN e.kind = false → e.num = 0) := fun _ => hz
            rw [hz] at c4
            rw [hN]
            clear hN hz
            go_wp2_with fail
            refine (rref_any _ _).mono ?_
            rintro e1 w1 ⟨rfl, hw⟩
            obtain rfl := hw.symm
            rcases Bool.eq_false_or_eq_true (usesR e.kind) with hR | hR
            · have HT : Hid (true = opE e) := ((opE_iff e).2 ⟨HP.out, OF.out, OV.out, ON.out, fun h => by rw [hR] at h; cases h⟩).symm
              rw [hR]
              clear hR
              go_wp2_with (refine load_dot_at rfl rfl rfl r5 ?_)
              go_ret
              exact ⟨congrArg (fun b => Ending.returned (.bool b)) HT.out, HB.out⟩
            · have HT : Hid (isrefE e = opE e) := by
                show _ = _
                rw [Bool.eq_iff_iff, opE_iff, isrefE, decide_eq_true_eq]
                exact ⟨fun h => ⟨HP.out, OF.out, OV.out, ON.out, fun _ => h⟩, fun h => h.2.2.2.2 hR⟩
              have he := fun W : World => run_isref W (e := e) rfl
              rw [hR]
              clear hR
              generalize isrefE e = b at *
              go_wp2_with (refine load_dot_at rfl rfl rfl r5 ?_)
              all_goals
                go_ret
                exact ⟨congrArg (fun b => Ending.returned (.bool b)) HT.out, HB.out⟩
          · have HT : Hid (false = opE e) := opE_no fun h => hz (h.2.2.2.1 hN)
            have hne : (e.num == 0) = false := by simpa using hz
            rw [hN]
            clear hN hz
            go_wp2
            all_goals
              go_ret
              exact ⟨congrArg (fun b => Ending.returned (.bool b)) HT.out, HB.out⟩
      · have HT : Hid (false = opE e) := opE_no fun h => hz (h.2.2.1 hV)
        have hnl := sbl_ne hz
        rw [hV]
        clear hV hz
        go_wp2
        all_goals
          go_ret
          exact ⟨congrArg (fun b => Ending.returned (.bool b)) HT.out, HB.out⟩
  · by_cases hz : e.field = []
    · have OF : Hid (usesF e.kind = false → e.field = []) := fun _ => hz
      rw [hz, sb_nil] at c2
      rw [hF]
      clear hF hz
      go_wp2_with fail
      refine (rvalue_any _ _).mono ?_
      rintro e1 w1 ⟨rfl, hw⟩
      obtain rfl := hw.symm
      rcases Bool.eq_false_or_eq_true (usesV e.kind) with hV | hV
      · have OV : Hid (usesV e.kind = false → e.value = []) := fun h => by rw [hV] at h; cases h
        rw [hV]
        clear hV
        go_wp2_with fail
        refine (rnum_any _ _).mono ?_
        rintro e1 w1 ⟨rfl, hw⟩
        obtain rfl := hw.symm
        rcases Bool.eq_false_or_eq_true (usesN e.kind) with hN | hN
        · have ON : Hid (usesN e.kind = false → e.num = 0) := fun h => by rw [hN] at h; cases h
          rw [hN]
          clear hN
          go_wp2_with fail
          refine (rref_any _ _).mono ?_
          rintro e1 w1 ⟨rfl, hw⟩
          obtain rfl := hw.symm
          rcases Bool.eq_false_or_eq_true (usesR e.kind) with hR | hR
          · have HT : Hid (true = opE e) := ((opE_iff e).2 ⟨HP.out, OF.out, OV.out, ON.out, fun h => by rw [hR] at h; cases h⟩).symm
            rw [hR]
            clear hR
            go_wp2_with (refine load_dot_at rfl rfl rfl r5 ?_)
            go_ret
            exact ⟨congrArg (fun b => Ending.returned (.bool b)) HT.out, HB.out⟩
          · have HT : Hid (isrefE e = opE e) := by
              show _ = _
              rw [Bool.eq_iff_iff, opE_iff, isrefE, decide_eq_true_eq]
              exact ⟨fun h => ⟨HP.out, OF.out, OV.out, ON.out, fun _ => h⟩, fun h => h.2.2.2.2 hR⟩
            have he := fun W : World => run_isref W (e := e) rfl
            rw [hR]
            clear hR
            generalize isrefE e = b at *
            go_wp2_with (refine load_dot_at rfl rfl rfl r5 ?_)
            all_goals
              go_ret
              exact ⟨congrArg (fun b => Ending.returned (.bool b)) HT.out, HB.out⟩
        · by_cases hz : e.num = 0
          · have ON : Hid (usesN e.kind = false → e.num = 0) := fun _ => hz
            rw [hz] at c4
            rw [hN]
            clear hN hz
            go_wp2_with fail
            refine (rref_any _ _).mono ?_
            rintro e1 w1 ⟨rfl, hw⟩
            obtain rfl := hw.symm
            rcases Bool.eq_false_or_eq_true (usesR e.kind) with hR | hR
            · have HT : Hid (true = opE e) := ((opE_iff e).2 ⟨HP.out, OF.out, OV.out, ON.out, fun h => by rw [hR] at h; cases h⟩).symm
              rw [hR]
              clear hR
              go_wp2_with (refine load_dot_at rfl rfl rfl r5 ?_)
              go_ret
              exact ⟨congrArg (fun b => Ending.returned (.bool b)) HT.out, HB.out⟩
            · have HT : Hid (isrefE e = opE e) := by
                show _ = _
                rw [Bool.eq_iff_iff, opE_iff, isrefE, decide_eq_true_eq]
                exact ⟨fun h => ⟨HP.out, OF.out, OV.out, ON.out, fun _ => h⟩, fun h => h.2.2.2.2 hR⟩
              have he := fun W : World => run_isref W (e := e) rfl
              rw [hR]
              clear hR
              generalize isrefE e = b at *
              go_wp2_with (refine load_dot_at rfl rfl rfl r5 ?_)
              all_goals
                go_ret
                exact ⟨congrArg (fun b => Ending.returned (.bool b)) HT.out, HB.out⟩
          · have HT : Hid (false = opE e) := opE_no fun h => hz (h.2.2.2.1 hN)
            have hne : (e.num == 0) = false := by simpa using hz
            rw [hN]
            clear hN hz
            go_wp2
            all_goals
              go_ret
              exact ⟨congrArg (fun b => Ending.returned (.bool b)) HT.out, HB.out⟩
      · by_cases hz : e.value = []
        · have OV : Hid (usesV e.kind = false → e.value = []) := fun _ => hz
          rw [hz, sb_nil] at c3
          rw [hV]
          clear hV hz
          go_wp2_with fail
          refine (rnum_any _ _).mono ?_
          rintro e1 w1 ⟨rfl, hw⟩
          obtain rfl := hw.symm
          rcases Bool.eq_false_or_eq_true (usesN e.kind) with hN | hN
          · have ON : Hid (usesN e.kind = false → e.num = 0) := fun h => by rw [hN] at h; cases h
            rw [hN]
            clear hN
            go_wp2_with fail
            refine (rref_any _ _).mono ?_
            rintro e1 w1 ⟨rfl, hw⟩
            obtain rfl := hw.symm
            rcases Bool.eq_false_or_eq_true (usesR e.kind) with hR | hR
            · have HT : Hid (true = opE e) := ((opE_iff e).2 ⟨HP.out, OF.out, OV.out, ON.out, fun h => by rw [hR] at h; cases h⟩).symm
              rw [hR]
              clear hR
              go_wp2_with (refine load_dot_at rfl rfl rfl r5 ?_)
              go_ret
              exact ⟨congrArg (fun b => Ending.returned (.bool b)) HT.out, HB.out⟩
            · have HT : Hid (isrefE e = opE e) := by
                show _ = _
                rw [Bool.eq_iff_iff, opE_iff, isrefE, decide_eq_true_eq]
                exact ⟨fun h => ⟨HP.out, OF.out, OV.out, ON.out, fun _ => h⟩, fun h => h.2.2.2.2 hR⟩
              have he := fun W : World => run_isref W (e := e) rfl
              rw [hR]
              clear hR
              generalize isrefE e = b at *
              go_wp2_with (refine load_dot_at rfl rfl rfl r5 ?_)
              all_goals
                go_ret
                exact ⟨congrArg (fun b => Ending.returned (.bool b)) HT.out, HB.out⟩
          · by_cases hz : e.num = 0
            · have ON : Hid (usesN e.kind = false → e.num = 0) := fun _ => hz
              rw [hz] at c4
              rw [hN]
              clear hN hz
              go_wp2_with fail
              refine (rref_any _ _).mono ?_
              rintro e1 w1 ⟨rfl, hw⟩
              obtain rfl := hw.symm
              rcases Bool.eq_false_or_eq_true (usesR e.kind) with hR | hR
              · have HT : Hid (true = opE e) := ((opE_iff e).2 ⟨HP.out, OF.out, OV.out, ON.out, fun h => by rw [hR] at h; cases h⟩).symm
                rw [hR]
                clear hR
                go_wp2_with (refine load_dot_at rfl rfl rfl r5 ?_)
                go_ret
                exact ⟨congrArg (fun b => Ending.returned (.bool b)) HT.out, HB.out⟩
              · have HT : Hid (isrefE e = opE e) := by
                  show _ = _
                  rw [Bool.eq_iff_iff, opE_iff, isrefE, decide_eq_true_eq]
                  exact ⟨fun h => ⟨HP.out, OF.out, OV.out, ON.out, fun _ => h⟩, fun h => h.2.2.2.2 hR⟩
                have he := fun W : World => run_isref W (e := e) rfl
                rw [hR]
                clear hR
                generalize isrefE e = b at *
                go_wp2_with (refine load_dot_at rfl rfl rfl r5 ?_)
                all_goals
                  go_ret
                  exact ⟨congrArg (fun b => Ending.returned (.bool b)) HT.out, HB.out⟩
            · have HT : Hid (false = opE e) := opE_no fun h => hz (h.2.2.2.1 hN)
              have hne : (e.num == 0) = false := by simpa using hz
              rw [hN]
              clear hN hz
              go_wp2
              all_goals
                go_ret
                exact ⟨congrArg (fun b => Ending.returned (.bool b)) HT.out, HB.out⟩
        · have HT : Hid (false = opE e) := opE_no fun h => hz (h.2.2.1 hV)
          have hnl := sbl_ne hz
          rw [hV]
          clear hV hz
          go_wp2
          all_goals
            go_ret
            exact ⟨congrArg (fun b => Ending.returned (.bool b)) HT.out, HB.out⟩
    · have HT : Hid (false = opE e) := opE_no fun h => hz (h.2.1 hF)
      have hnl := sbl_ne hz
      rw [hF]
      clear hF hz
      go_wp2
      all_goals
        go_ret
        exact ⟨congrArg (fun b => Ending.returned (.bool b)) HT.out, HB.out⟩
end Go.Proofs.Ythpkpmcccpfabaa

namespace Go.Proofs.Ythpkpmcccpfabaa
set_option maxRecDepth 100000
open Go.RowKit

theorem run_indexAt_at (w : World) (g o k : Nat) (hk : k < 16) : (Instr.indexAt 40 (.pointer (some ⟨g, o, none⟩)) (.int .i64 (k : Int))).run Try.prog w = .ok (.pointer (some ⟨g, o + k, none⟩)) w := by
  have hu : Try.prog.underlying 40 = some (.array 16 3) := by kernel_rfl
  have e : (⟨g, o, none⟩ : Addr).add k = ⟨g, o + k, none⟩ := by unfold Addr.add; split <;> simp_all
  simp [Instr.indexAt, asIntOf, run_underlying hu, Sem.run_bind, Instr.sureAddr, hk, e]
theorem place_parts {e : Ev} (h : placeE e = true) : fine e.deps = true ∧ okdot e.r e.n = true ∧ e.n = e.deps.getD e.r.toNat 0 + 1 := by
  have h' : withE e.deps e.r e.n = 0 := of_decide_eq_true h
  unfold withE at h'
  split at h'
  · rename_i hh
    rw [Bool.and_eq_true] at hh
    split at h'
    · rename_i h3
      exact ⟨hh.1, hh.2, h3⟩
    · omega
  · omega
theorem enters_rop (xs : Array Value) (w : World) : (callFunc 27 xs).run Try.prog w = .ok (.enter 27 xs) w := enters Try.func27 (by kernel_rfl) (by kernel_rfl) xs w
theorem fieldE0_run (w : World) (g : Nat) : (Instr.fieldAt 44 (.pointer (some ⟨g, 0, none⟩)) 0).run Try.prog w = .ok (.pointer (some ⟨g, 0, none⟩)) w := by kernel_rfl
theorem fieldE1_run (w : World) (g : Nat) : (Instr.fieldAt 44 (.pointer (some ⟨g, 0, none⟩)) 1).run Try.prog w = .ok (.pointer (some ⟨g, 2, none⟩)) w := by kernel_rfl
theorem fieldE2_run (w : World) (g : Nat) : (Instr.fieldAt 44 (.pointer (some ⟨g, 0, none⟩)) 2).run Try.prog w = .ok (.pointer (some ⟨g, 3, none⟩)) w := by kernel_rfl
theorem fieldE3_run (w : World) (g : Nat) : (Instr.fieldAt 44 (.pointer (some ⟨g, 0, none⟩)) 3).run Try.prog w = .ok (.pointer (some ⟨g, 19, none⟩)) w := by kernel_rfl
theorem not_run (w : World) (b : Bool) : (Op.unary .not (.bool b)).run Try.prog w = .ok (.bool (!b)) w := rfl
theorem lss_is (w : World) {a b : Int} {c : Bool} (h : decide (a < b) = c) : (binOp .lss 3 (.int .i64 a) (.int .i64 b)).run Try.prog w = .ok (.bool c) w := by rw [binOp_lss, ← h]; rfl
theorem gtr_is (w : World) {a b : Int} {c : Bool} (h : decide (b < a) = c) : (binOp .gtr 3 (.int .i64 a) (.int .i64 b)).run Try.prog w = .ok (.bool c) w := by rw [binOp_gtr, ← h]; rfl
theorem neq_is (w : World) {a b : Int} {c : Bool} (h : (a != b) = c) : (binOp .neq 3 (.int .i64 a) (.int .i64 b)).run Try.prog w = .ok (.bool c) w := by rw [binOp_neq, ← h]; rfl
theorem sub_run (w : World) {a : Int} (h0 : 1 ≤ a) (h1 : a ≤ 1048576) : (binOp .sub 3 (.int .i64 a) (.int .i64 1)).run Try.prog w = .ok (.int .i64 (a - 1)) w := by
  go_simp
  rw [IntKind.wrap_i64]
  omega
theorem load_dotE_run {w : World} {g : Nat} {e : Ev} (h : LiesE w g e) : (loadVar 38 ⟨g, 0, none⟩).run Try.prog w = .ok (.agg (dotc e.r e.n)) w :=
  run_loadVar_mid w g 0 38 (dotc e.r e.n).toList _ h.dot Try.underlying38 rfl (sizeD _ _)
theorem load_dotE_run2 {w : World} {g k : Nat} {e : Ev} (h : LiesE w g e) (hr : e.r = (k : Int)) : (loadVar 38 ⟨g, 0, none⟩).run Try.prog w = .ok (.agg (dotc (k : Int) e.n)) w := by
  rw [← hr]; exact load_dotE_run h
theorem load_depsE_run {w : World} {g : Nat} {e : Ev} (h : LiesE w g e) (hl : e.deps.length = 16) : (loadVar 40 ⟨g, 3, none⟩).run Try.prog w = .ok (.agg (vals e.deps)) w :=
  run_loadVar_mid w g 3 40 (vals e.deps).toList _ (h.deps hl) Try.underlying40 rfl (size16 _ hl)
theorem load_opE_run {w : World} {g : Nat} {e : Ev} {O : Array Value} (h : LiesE w g e) (hl : e.deps.length = 16) (i : Is O e) : (loadVar 42 ⟨g, 19, none⟩).run Try.prog w = .ok (.agg O) w := by
  rw [i]
  exact run_loadVar_mid w g 19 42 (opc e).toList _ (h.op hl) Try.underlying42 rfl (size7 e)
theorem rop_is {e : Ev} {O : Array Value} (i : Is O e) (w : World) : Calls Try.prog 27 #[.agg O] w fun e' w' => e' = .returned (.bool (opE e)) ∧ Below w.heap.size w w' := by
  rw [i]; exact rop_any e w

set_option maxHeartbeats 1000000 in
theorem reright_A (e : Ev) (w : World) (_hl : e.deps.length = 16) (hd : okdot e.r e.n = false) : Calls Try.prog 14 #[.agg (evc e)] w fun e' w' => e' = .returned (.bool false) ∧ Below w.heap.size w w' := by
  obtain ⟨hE, hB⟩ := boxedE w e
  have H0 : Hid (Below w.heap.size w (w.alloc (.cells (evc e) 44))) := hB
  clear hB
  go_enter Try.func14, Try.ntmps14
  go_wp2_with fail
  refine region_vals [3, 4, 5, 6, 7, 8, 9, 10, 11, 12, 13, 14, 15, 16, 17, 18, 19, 20, 21, 22, 23, 24, 25, 26, 27, 28, 29, 30, 31, 32, 33, 34, 35, 36, 37, 38, 39, 40, 41] [.pointer (some ⟨w.heap.size, 0, none⟩), .agg (dotc (e.r) (e.n)), .bool false, .bool true, .bool true, undef, undef, undef, .bool true, .bool true, undef, undef, undef, .bool true, .bool true, undef, undef, undef, undef, .bool true, .bool true, undef, undef, undef, undef, undef, undef, undef, undef, undef, undef, undef, .bool true, .bool true, undef, undef, undef, undef, .bool true] _ (by kernel_rfl) (by kernel_rfl) (by rfl) (by decide) (by kernel_rfl) (by simp only [lay, Act.put, List.setIfInBounds_toArray, List.set_cons_zero, List.set_cons_succ, List.getD_cons_zero, List.getD_cons_succ, Nat.reduceAdd]; rfl) ⟨?_, ?_, ?_, ?_, ?_, ?_, ?_, ?_, ?_, ?_, ?_, ?_, ?_, ?_, ?_, ?_, ?_, ?_, ?_, ?_, ?_, ?_, ?_, ?_, ?_, ?_, ?_, ?_, ?_, ?_, ?_, ?_, ?_, ?_, ?_, ?_, ?_, ?_, ?_, trivial⟩ ?_
  · exact .inl ⟨rfl, fun W hb => yields_field rfl rfl (fieldE0_run W _)⟩
  · exact .inl ⟨rfl, fun W hb => yields_load rfl rfl (load_dotE_run ((hE).below hb (hE).lt))⟩
  · exact .inl ⟨rfl, fun W hb => yields_call (vs := [.agg (dotc (e.r) (e.n))]) (v := .bool false) rfl rfl (enters_rdot _ _) (okcall (rdot_any _ _ W) hd)⟩
  · exact .inl ⟨rfl, fun W hb => yields_un rfl rfl (not_run W false)⟩
  · exact .inl ⟨rfl, fun W hb => yields_move rfl rfl⟩
  · exact .inr ⟨rfl, rfl⟩
  · exact .inr ⟨rfl, rfl⟩
  · exact .inr ⟨rfl, rfl⟩
  · exact .inl ⟨rfl, fun W hb => yields_pick (b := true) rfl rfl rfl⟩
  · exact .inl ⟨rfl, fun W hb => yields_move rfl rfl⟩
  · exact .inr ⟨rfl, rfl⟩
  · exact .inr ⟨rfl, rfl⟩
  · exact .inr ⟨rfl, rfl⟩
  · exact .inl ⟨rfl, fun W hb => yields_pick (b := true) rfl rfl rfl⟩
  · exact .inl ⟨rfl, fun W hb => yields_move rfl rfl⟩
  · exact .inr ⟨rfl, rfl⟩
  · exact .inr ⟨rfl, rfl⟩
  · exact .inr ⟨rfl, rfl⟩
  · exact .inr ⟨rfl, rfl⟩
  · exact .inl ⟨rfl, fun W hb => yields_pick (b := true) rfl rfl rfl⟩
  · exact .inl ⟨rfl, fun W hb => yields_move rfl rfl⟩
  · exact .inr ⟨rfl, rfl⟩
  · exact .inr ⟨rfl, rfl⟩
  · exact .inr ⟨rfl, rfl⟩
  · exact .inr ⟨rfl, rfl⟩
  · exact .inr ⟨rfl, rfl⟩
  · exact .inr ⟨rfl, rfl⟩
  · exact .inr ⟨rfl, rfl⟩
  · exact .inr ⟨rfl, rfl⟩
  · exact .inr ⟨rfl, rfl⟩
  · exact .inr ⟨rfl, rfl⟩
  · exact .inr ⟨rfl, rfl⟩
  · exact .inl ⟨rfl, fun W hb => yields_pick (b := true) rfl rfl rfl⟩
  · exact .inl ⟨rfl, fun W hb => yields_move rfl rfl⟩
  · exact .inr ⟨rfl, rfl⟩
  · exact .inr ⟨rfl, rfl⟩
  · exact .inr ⟨rfl, rfl⟩
  · exact .inr ⟨rfl, rfl⟩
  · exact .inl ⟨rfl, fun W hb => yields_pick (b := true) rfl rfl rfl⟩
  intro w2 hb2
  clear hE
  go_wp2
  go_ret
  exact ⟨rfl, H0.out.trans (hb2.mono H0.out.size)⟩

set_option maxHeartbeats 1000000 in
theorem reright_B (e : Ev) (w : World) (_hl : e.deps.length = 16) (hd : okdot e.r e.n = true) (h0 : decide (e.t < 0) = true) : Calls Try.prog 14 #[.agg (evc e)] w fun e' w' => e' = .returned (.bool false) ∧ Below w.heap.size w w' := by
  obtain ⟨hE, hB⟩ := boxedE w e
  have H0 : Hid (Below w.heap.size w (w.alloc (.cells (evc e) 44))) := hB
  clear hB
  have c2 := hE.c2
  go_enter Try.func14, Try.ntmps14
  go_wp2_with fail
  refine region_vals [3, 4, 5, 6, 7, 8, 9, 10, 11, 12, 13, 14, 15, 16, 17, 18, 19, 20, 21, 22, 23, 24, 25, 26, 27, 28, 29, 30, 31, 32, 33, 34, 35, 36, 37, 38, 39, 40, 41] [.pointer (some ⟨w.heap.size, 0, none⟩), .agg (dotc (e.r) (e.n)), .bool true, .bool false, .bool false, .pointer (some ⟨w.heap.size, 2, none⟩), .int .i64 (e.t), .bool true, .bool true, .bool true, undef, undef, undef, .bool true, .bool true, undef, undef, undef, undef, .bool true, .bool true, undef, undef, undef, undef, undef, undef, undef, undef, undef, undef, undef, .bool true, .bool true, undef, undef, undef, undef, .bool true] _ (by kernel_rfl) (by kernel_rfl) (by rfl) (by decide) (by kernel_rfl) (by simp only [lay, Act.put, List.setIfInBounds_toArray, List.set_cons_zero, List.set_cons_succ, List.getD_cons_zero, List.getD_cons_succ, Nat.reduceAdd]; rfl) ⟨?_, ?_, ?_, ?_, ?_, ?_, ?_, ?_, ?_, ?_, ?_, ?_, ?_, ?_, ?_, ?_, ?_, ?_, ?_, ?_, ?_, ?_, ?_, ?_, ?_, ?_, ?_, ?_, ?_, ?_, ?_, ?_, ?_, ?_, ?_, ?_, ?_, ?_, ?_, trivial⟩ ?_
  · exact .inl ⟨rfl, fun W hb => yields_field rfl rfl (fieldE0_run W _)⟩
  · exact .inl ⟨rfl, fun W hb => yields_load rfl rfl (load_dotE_run ((hE).below hb (hE).lt))⟩
  · exact .inl ⟨rfl, fun W hb => yields_call (vs := [.agg (dotc (e.r) (e.n))]) (v := .bool true) rfl rfl (enters_rdot _ _) (okcall (rdot_any _ _ W) hd)⟩
  · exact .inl ⟨rfl, fun W hb => yields_un rfl rfl (not_run W true)⟩
  · exact .inl ⟨rfl, fun W hb => yields_move rfl rfl⟩
  · exact .inl ⟨rfl, fun W hb => yields_field rfl rfl (fieldE1_run W _)⟩
  · exact .inl ⟨rfl, fun W hb => yields_load rfl rfl (load_int_run ((hb.cell (block_lt_of_cell c2)).trans c2))⟩
  · exact .inl ⟨rfl, fun W hb => yields_bin rfl rfl rfl (eqGuard_int W) (lss_is W h0)⟩
  · exact .inl ⟨rfl, fun W hb => yields_pick (b := false) rfl rfl rfl⟩
  · exact .inl ⟨rfl, fun W hb => yields_move rfl rfl⟩
  · exact .inr ⟨rfl, rfl⟩
  · exact .inr ⟨rfl, rfl⟩
  · exact .inr ⟨rfl, rfl⟩
  · exact .inl ⟨rfl, fun W hb => yields_pick (b := true) rfl rfl rfl⟩
  · exact .inl ⟨rfl, fun W hb => yields_move rfl rfl⟩
  · exact .inr ⟨rfl, rfl⟩
  · exact .inr ⟨rfl, rfl⟩
  · exact .inr ⟨rfl, rfl⟩
  · exact .inr ⟨rfl, rfl⟩
  · exact .inl ⟨rfl, fun W hb => yields_pick (b := true) rfl rfl rfl⟩
  · exact .inl ⟨rfl, fun W hb => yields_move rfl rfl⟩
  · exact .inr ⟨rfl, rfl⟩
  · exact .inr ⟨rfl, rfl⟩
  · exact .inr ⟨rfl, rfl⟩
  · exact .inr ⟨rfl, rfl⟩
  · exact .inr ⟨rfl, rfl⟩
  · exact .inr ⟨rfl, rfl⟩
  · exact .inr ⟨rfl, rfl⟩
  · exact .inr ⟨rfl, rfl⟩
  · exact .inr ⟨rfl, rfl⟩
  · exact .inr ⟨rfl, rfl⟩
  · exact .inr ⟨rfl, rfl⟩
  · exact .inl ⟨rfl, fun W hb => yields_pick (b := true) rfl rfl rfl⟩
  · exact .inl ⟨rfl, fun W hb => yields_move rfl rfl⟩
  · exact .inr ⟨rfl, rfl⟩
  · exact .inr ⟨rfl, rfl⟩
  · exact .inr ⟨rfl, rfl⟩
  · exact .inr ⟨rfl, rfl⟩
  · exact .inl ⟨rfl, fun W hb => yields_pick (b := true) rfl rfl rfl⟩
  intro w2 hb2
  clear hE c2
  go_wp2
  go_ret
  exact ⟨rfl, H0.out.trans (hb2.mono H0.out.size)⟩

set_option maxHeartbeats 1000000 in
theorem reright_C (e : Ev) (w : World) (_hl : e.deps.length = 16) (hd : okdot e.r e.n = true) (h0 : decide (e.t < 0) = false) (h1 : decide (1152921504606846975 < e.t) = true) : Calls Try.prog 14 #[.agg (evc e)] w fun e' w' => e' = .returned (.bool false) ∧ Below w.heap.size w w' := by
  obtain ⟨hE, hB⟩ := boxedE w e
  have H0 : Hid (Below w.heap.size w (w.alloc (.cells (evc e) 44))) := hB
  clear hB
  have c2 := hE.c2
  go_enter Try.func14, Try.ntmps14
  go_wp2_with fail
  refine region_vals [3, 4, 5, 6, 7, 8, 9, 10, 11, 12, 13, 14, 15, 16, 17, 18, 19, 20, 21, 22, 23, 24, 25, 26, 27, 28, 29, 30, 31, 32, 33, 34, 35, 36, 37, 38, 39, 40, 41] [.pointer (some ⟨w.heap.size, 0, none⟩), .agg (dotc (e.r) (e.n)), .bool true, .bool false, .bool false, .pointer (some ⟨w.heap.size, 2, none⟩), .int .i64 (e.t), .bool false, .bool false, .bool false, .pointer (some ⟨w.heap.size, 2, none⟩), .int .i64 (e.t), .bool true, .bool true, .bool true, undef, undef, undef, undef, .bool true, .bool true, undef, undef, undef, undef, undef, undef, undef, undef, undef, undef, undef, .bool true, .bool true, undef, undef, undef, undef, .bool true] _ (by kernel_rfl) (by kernel_rfl) (by rfl) (by decide) (by kernel_rfl) (by simp only [lay, Act.put, List.setIfInBounds_toArray, List.set_cons_zero, List.set_cons_succ, List.getD_cons_zero, List.getD_cons_succ, Nat.reduceAdd]; rfl) ⟨?_, ?_, ?_, ?_, ?_, ?_, ?_, ?_, ?_, ?_, ?_, ?_, ?_, ?_, ?_, ?_, ?_, ?_, ?_, ?_, ?_, ?_, ?_, ?_, ?_, ?_, ?_, ?_, ?_, ?_, ?_, ?_, ?_, ?_, ?_, ?_, ?_, ?_, ?_, trivial⟩ ?_
  · exact .inl ⟨rfl, fun W hb => yields_field rfl rfl (fieldE0_run W _)⟩
  · exact .inl ⟨rfl, fun W hb => yields_load rfl rfl (load_dotE_run ((hE).below hb (hE).lt))⟩
  · exact .inl ⟨rfl, fun W hb => yields_call (vs := [.agg (dotc (e.r) (e.n))]) (v := .bool true) rfl rfl (enters_rdot _ _) (okcall (rdot_any _ _ W) hd)⟩
  · exact .inl ⟨rfl, fun W hb => yields_un rfl rfl (not_run W true)⟩
  · exact .inl ⟨rfl, fun W hb => yields_move rfl rfl⟩
  · exact .inl ⟨rfl, fun W hb => yields_field rfl rfl (fieldE1_run W _)⟩
  · exact .inl ⟨rfl, fun W hb => yields_load rfl rfl (load_int_run ((hb.cell (block_lt_of_cell c2)).trans c2))⟩
  · exact .inl ⟨rfl, fun W hb => yields_bin rfl rfl rfl (eqGuard_int W) (lss_is W h0)⟩
  · exact .inl ⟨rfl, fun W hb => yields_pick (b := false) rfl rfl rfl⟩
  · exact .inl ⟨rfl, fun W hb => yields_move rfl rfl⟩
  · exact .inl ⟨rfl, fun W hb => yields_field rfl rfl (fieldE1_run W _)⟩
  · exact .inl ⟨rfl, fun W hb => yields_load rfl rfl (load_int_run ((hb.cell (block_lt_of_cell c2)).trans c2))⟩
  · exact .inl ⟨rfl, fun W hb => yields_bin rfl rfl rfl (eqGuard_int W) (gtr_is W h1)⟩
  · exact .inl ⟨rfl, fun W hb => yields_pick (b := false) rfl rfl rfl⟩
  · exact .inl ⟨rfl, fun W hb => yields_move rfl rfl⟩
  · exact .inr ⟨rfl, rfl⟩
  · exact .inr ⟨rfl, rfl⟩
  · exact .inr ⟨rfl, rfl⟩
  · exact .inr ⟨rfl, rfl⟩
  · exact .inl ⟨rfl, fun W hb => yields_pick (b := true) rfl rfl rfl⟩
  · exact .inl ⟨rfl, fun W hb => yields_move rfl rfl⟩
  · exact .inr ⟨rfl, rfl⟩
  · exact .inr ⟨rfl, rfl⟩
  · exact .inr ⟨rfl, rfl⟩
  · exact .inr ⟨rfl, rfl⟩
  · exact .inr ⟨rfl, rfl⟩
  · exact .inr ⟨rfl, rfl⟩
  · exact .inr ⟨rfl, rfl⟩
  · exact .inr ⟨rfl, rfl⟩
  · exact .inr ⟨rfl, rfl⟩
  · exact .inr ⟨rfl, rfl⟩
  · exact .inr ⟨rfl, rfl⟩
  · exact .inl ⟨rfl, fun W hb => yields_pick (b := true) rfl rfl rfl⟩
  · exact .inl ⟨rfl, fun W hb => yields_move rfl rfl⟩
  · exact .inr ⟨rfl, rfl⟩
  · exact .inr ⟨rfl, rfl⟩
  · exact .inr ⟨rfl, rfl⟩
  · exact .inr ⟨rfl, rfl⟩
  · exact .inl ⟨rfl, fun W hb => yields_pick (b := true) rfl rfl rfl⟩
  intro w2 hb2
  clear hE c2
  go_wp2
  go_ret
  exact ⟨rfl, H0.out.trans (hb2.mono H0.out.size)⟩

set_option maxHeartbeats 1000000 in
theorem reright_D (e : Ev) (w : World) (hl : e.deps.length = 16) (hd : okdot e.r e.n = true) (h0 : decide (e.t < 0) = false) (h1 : decide (1152921504606846975 < e.t) = false) (hf : fine e.deps = false) : Calls Try.prog 14 #[.agg (evc e)] w fun e' w' => e' = .returned (.bool false) ∧ Below w.heap.size w w' := by
  obtain ⟨hE, hB⟩ := boxedE w e
  have H0 : Hid (Below w.heap.size w (w.alloc (.cells (evc e) 44))) := hB
  clear hB
  have c2 := hE.c2
  go_enter Try.func14, Try.ntmps14
  go_wp2_with fail
  refine region_vals [3, 4, 5, 6, 7, 8, 9, 10, 11, 12, 13, 14, 15, 16, 17, 18, 19, 20, 21, 22, 23, 24, 25, 26, 27, 28, 29, 30, 31, 32, 33, 34, 35, 36, 37, 38, 39, 40, 41] [.pointer (some ⟨w.heap.size, 0, none⟩), .agg (dotc (e.r) (e.n)), .bool true, .bool false, .bool false, .pointer (some ⟨w.heap.size, 2, none⟩), .int .i64 (e.t), .bool false, .bool false, .bool false, .pointer (some ⟨w.heap.size, 2, none⟩), .int .i64 (e.t), .bool false, .bool false, .bool false, .pointer (some ⟨w.heap.size, 3, none⟩), .agg (vals (e.deps)), .bool false, .bool true, .bool true, .bool true, undef, undef, undef, undef, undef, undef, undef, undef, undef, undef, undef, .bool true, .bool true, undef, undef, undef, undef, .bool true] _ (by kernel_rfl) (by kernel_rfl) (by rfl) (by decide) (by kernel_rfl) (by simp only [lay, Act.put, List.setIfInBounds_toArray, List.set_cons_zero, List.set_cons_succ, List.getD_cons_zero, List.getD_cons_succ, Nat.reduceAdd]; rfl) ⟨?_, ?_, ?_, ?_, ?_, ?_, ?_, ?_, ?_, ?_, ?_, ?_, ?_, ?_, ?_, ?_, ?_, ?_, ?_, ?_, ?_, ?_, ?_, ?_, ?_, ?_, ?_, ?_, ?_, ?_, ?_, ?_, ?_, ?_, ?_, ?_, ?_, ?_, ?_, trivial⟩ ?_
  · exact .inl ⟨rfl, fun W hb => yields_field rfl rfl (fieldE0_run W _)⟩
  · exact .inl ⟨rfl, fun W hb => yields_load rfl rfl (load_dotE_run ((hE).below hb (hE).lt))⟩
  · exact .inl ⟨rfl, fun W hb => yields_call (vs := [.agg (dotc (e.r) (e.n))]) (v := .bool true) rfl rfl (enters_rdot _ _) (okcall (rdot_any _ _ W) hd)⟩
  · exact .inl ⟨rfl, fun W hb => yields_un rfl rfl (not_run W true)⟩
  · exact .inl ⟨rfl, fun W hb => yields_move rfl rfl⟩
  · exact .inl ⟨rfl, fun W hb => yields_field rfl rfl (fieldE1_run W _)⟩
  · exact .inl ⟨rfl, fun W hb => yields_load rfl rfl (load_int_run ((hb.cell (block_lt_of_cell c2)).trans c2))⟩
  · exact .inl ⟨rfl, fun W hb => yields_bin rfl rfl rfl (eqGuard_int W) (lss_is W h0)⟩
  · exact .inl ⟨rfl, fun W hb => yields_pick (b := false) rfl rfl rfl⟩
  · exact .inl ⟨rfl, fun W hb => yields_move rfl rfl⟩
  · exact .inl ⟨rfl, fun W hb => yields_field rfl rfl (fieldE1_run W _)⟩
  · exact .inl ⟨rfl, fun W hb => yields_load rfl rfl (load_int_run ((hb.cell (block_lt_of_cell c2)).trans c2))⟩
  · exact .inl ⟨rfl, fun W hb => yields_bin rfl rfl rfl (eqGuard_int W) (gtr_is W h1)⟩
  · exact .inl ⟨rfl, fun W hb => yields_pick (b := false) rfl rfl rfl⟩
  · exact .inl ⟨rfl, fun W hb => yields_move rfl rfl⟩
  · exact .inl ⟨rfl, fun W hb => yields_field rfl rfl (fieldE2_run W _)⟩
  · exact .inl ⟨rfl, fun W hb => yields_load rfl rfl (load_depsE_run ((hE).below hb (hE).lt) hl)⟩
  · exact .inl ⟨rfl, fun W hb => yields_call (vs := [.agg (vals (e.deps))]) (v := .bool false) rfl rfl (enters_rright _ _) (okcall (rright_any _ hl W) hf)⟩
  · exact .inl ⟨rfl, fun W hb => yields_un rfl rfl (not_run W false)⟩
  · exact .inl ⟨rfl, fun W hb => yields_pick (b := false) rfl rfl rfl⟩
  · exact .inl ⟨rfl, fun W hb => yields_move rfl rfl⟩
  · exact .inr ⟨rfl, rfl⟩
  · exact .inr ⟨rfl, rfl⟩
  · exact .inr ⟨rfl, rfl⟩
  · exact .inr ⟨rfl, rfl⟩
  · exact .inr ⟨rfl, rfl⟩
  · exact .inr ⟨rfl, rfl⟩
  · exact .inr ⟨rfl, rfl⟩
  · exact .inr ⟨rfl, rfl⟩
  · exact .inr ⟨rfl, rfl⟩
  · exact .inr ⟨rfl, rfl⟩
  · exact .inr ⟨rfl, rfl⟩
  · exact .inl ⟨rfl, fun W hb => yields_pick (b := true) rfl rfl rfl⟩
  · exact .inl ⟨rfl, fun W hb => yields_move rfl rfl⟩
  · exact .inr ⟨rfl, rfl⟩
  · exact .inr ⟨rfl, rfl⟩
  · exact .inr ⟨rfl, rfl⟩
  · exact .inr ⟨rfl, rfl⟩
  · exact .inl ⟨rfl, fun W hb => yields_pick (b := true) rfl rfl rfl⟩
  intro w2 hb2
  clear hE c2
  go_wp2
  go_ret
  exact ⟨rfl, H0.out.trans (hb2.mono H0.out.size)⟩

set_option maxHeartbeats 1000000 in
theorem reright_E (e : Ev) (w : World) (hl : e.deps.length = 16) (k : Nat) (hr : e.r = (k : Int)) (hk16 : k < 16) (hd : okdot (k : Int) e.n = true) (h0 : decide (e.t < 0) = false) (h1 : decide (1152921504606846975 < e.t) = false) (hf : fine e.deps = true) (hb0 : 1 ≤ e.n) (hb1 : e.n ≤ 1048576) (hn : (e.deps.getD k 0 != e.n - 1) = true) : Calls Try.prog 14 #[.agg (evc e)] w fun e' w' => e' = .returned (.bool false) ∧ Below w.heap.size w w' := by
  obtain ⟨hE, hB⟩ := boxedE w e
  have H0 : Hid (Below w.heap.size w (w.alloc (.cells (evc e) 44))) := hB
  clear hB
  have c2 := hE.c2
  have c0 := hE.c0
  rw [hr] at c0
  have c1 := hE.c1
  have cd := hE.cd hl hk16
  go_enter Try.func14, Try.ntmps14
  go_wp2_with fail
  refine region_vals [3, 4, 5, 6, 7, 8, 9, 10, 11, 12, 13, 14, 15, 16, 17, 18, 19, 20, 21, 22, 23, 24, 25, 26, 27, 28, 29, 30, 31, 32, 33, 34, 35, 36, 37, 38, 39, 40, 41] [.pointer (some ⟨w.heap.size, 0, none⟩), .agg (dotc ((k : Int)) (e.n)), .bool true, .bool false, .bool false, .pointer (some ⟨w.heap.size, 2, none⟩), .int .i64 (e.t), .bool false, .bool false, .bool false, .pointer (some ⟨w.heap.size, 2, none⟩), .int .i64 (e.t), .bool false, .bool false, .bool false, .pointer (some ⟨w.heap.size, 3, none⟩), .agg (vals (e.deps)), .bool true, .bool false, .bool false, .bool false, .pointer (some ⟨w.heap.size, 0, none⟩), .pointer (some ⟨w.heap.size, 0, none⟩), .int .i64 ((k : Int)), .pointer (some ⟨w.heap.size, 3, none⟩), .pointer (some ⟨w.heap.size, 3 + k, none⟩), .int .i64 ((e.deps.getD k 0)), .pointer (some ⟨w.heap.size, 0, none⟩), .pointer (some ⟨w.heap.size, 1, none⟩), .int .i64 (e.n), .int .i64 (e.n - 1), .bool true, .bool true, .bool true, undef, undef, undef, undef, .bool true] _ (by kernel_rfl) (by kernel_rfl) (by rfl) (by decide) (by kernel_rfl) (by simp only [lay, Act.put, List.setIfInBounds_toArray, List.set_cons_zero, List.set_cons_succ, List.getD_cons_zero, List.getD_cons_succ, Nat.reduceAdd]; rfl) ⟨?_, ?_, ?_, ?_, ?_, ?_, ?_, ?_, ?_, ?_, ?_, ?_, ?_, ?_, ?_, ?_, ?_, ?_, ?_, ?_, ?_, ?_, ?_, ?_, ?_, ?_, ?_, ?_, ?_, ?_, ?_, ?_, ?_, ?_, ?_, ?_, ?_, ?_, ?_, trivial⟩ ?_
  · exact .inl ⟨rfl, fun W hb => yields_field rfl rfl (fieldE0_run W _)⟩
  · exact .inl ⟨rfl, fun W hb => yields_load rfl rfl (load_dotE_run2 ((hE).below hb (hE).lt) hr)⟩
  · exact .inl ⟨rfl, fun W hb => yields_call (vs := [.agg (dotc ((k : Int)) (e.n))]) (v := .bool true) rfl rfl (enters_rdot _ _) (okcall (rdot_any _ _ W) hd)⟩
  · exact .inl ⟨rfl, fun W hb => yields_un rfl rfl (not_run W true)⟩
  · exact .inl ⟨rfl, fun W hb => yields_move rfl rfl⟩
  · exact .inl ⟨rfl, fun W hb => yields_field rfl rfl (fieldE1_run W _)⟩
  · exact .inl ⟨rfl, fun W hb => yields_load rfl rfl (load_int_run ((hb.cell (block_lt_of_cell c2)).trans c2))⟩
  · exact .inl ⟨rfl, fun W hb => yields_bin rfl rfl rfl (eqGuard_int W) (lss_is W h0)⟩
  · exact .inl ⟨rfl, fun W hb => yields_pick (b := false) rfl rfl rfl⟩
  · exact .inl ⟨rfl, fun W hb => yields_move rfl rfl⟩
  · exact .inl ⟨rfl, fun W hb => yields_field rfl rfl (fieldE1_run W _)⟩
  · exact .inl ⟨rfl, fun W hb => yields_load rfl rfl (load_int_run ((hb.cell (block_lt_of_cell c2)).trans c2))⟩
  · exact .inl ⟨rfl, fun W hb => yields_bin rfl rfl rfl (eqGuard_int W) (gtr_is W h1)⟩
  · exact .inl ⟨rfl, fun W hb => yields_pick (b := false) rfl rfl rfl⟩
  · exact .inl ⟨rfl, fun W hb => yields_move rfl rfl⟩
  · exact .inl ⟨rfl, fun W hb => yields_field rfl rfl (fieldE2_run W _)⟩
  · exact .inl ⟨rfl, fun W hb => yields_load rfl rfl (load_depsE_run ((hE).below hb (hE).lt) hl)⟩
  · exact .inl ⟨rfl, fun W hb => yields_call (vs := [.agg (vals (e.deps))]) (v := .bool true) rfl rfl (enters_rright _ _) (okcall (rright_any _ hl W) hf)⟩
  · exact .inl ⟨rfl, fun W hb => yields_un rfl rfl (not_run W true)⟩
  · exact .inl ⟨rfl, fun W hb => yields_pick (b := false) rfl rfl rfl⟩
  · exact .inl ⟨rfl, fun W hb => yields_move rfl rfl⟩
  · exact .inl ⟨rfl, fun W hb => yields_field rfl rfl (fieldE0_run W _)⟩
  · exact .inl ⟨rfl, fun W hb => yields_field rfl rfl (field0_run W _)⟩
  · exact .inl ⟨rfl, fun W hb => yields_load rfl rfl (load_int_run ((hb.cell (block_lt_of_cell c0)).trans c0))⟩
  · exact .inl ⟨rfl, fun W hb => yields_field rfl rfl (fieldE2_run W _)⟩
  · exact .inl ⟨rfl, fun W hb => yields_indexAddr rfl rfl rfl (run_indexAt_at W _ 3 k hk16)⟩
  · exact .inl ⟨rfl, fun W hb => yields_load rfl rfl (load_int_run ((hb.cell (block_lt_of_cell cd)).trans cd))⟩
  · exact .inl ⟨rfl, fun W hb => yields_field rfl rfl (fieldE0_run W _)⟩
  · exact .inl ⟨rfl, fun W hb => yields_field rfl rfl (field1_run W _)⟩
  · exact .inl ⟨rfl, fun W hb => yields_load rfl rfl (load_int_run ((hb.cell (block_lt_of_cell c1)).trans c1))⟩
  · exact .inl ⟨rfl, fun W hb => yields_bin rfl rfl rfl (eqGuard_int W) (sub_run W hb0 hb1)⟩
  · exact .inl ⟨rfl, fun W hb => yields_bin rfl rfl rfl (eqGuard_int W) (neq_is W hn)⟩
  · exact .inl ⟨rfl, fun W hb => yields_pick (b := false) rfl rfl rfl⟩
  · exact .inl ⟨rfl, fun W hb => yields_move rfl rfl⟩
  · exact .inr ⟨rfl, rfl⟩
  · exact .inr ⟨rfl, rfl⟩
  · exact .inr ⟨rfl, rfl⟩
  · exact .inr ⟨rfl, rfl⟩
  · exact .inl ⟨rfl, fun W hb => yields_pick (b := true) rfl rfl rfl⟩
  intro w2 hb2
  clear hE c2 c0 c1 cd
  go_wp2
  go_ret
  exact ⟨rfl, H0.out.trans (hb2.mono H0.out.size)⟩

set_option maxHeartbeats 1000000 in
theorem reright_F (e : Ev) (w : World) (hl : e.deps.length = 16) (k : Nat) (hr : e.r = (k : Int)) (hk16 : k < 16) (hd : okdot (k : Int) e.n = true) (h0 : decide (e.t < 0) = false) (h1 : decide (1152921504606846975 < e.t) = false) (hf : fine e.deps = true) (hb0 : 1 ≤ e.n) (hb1 : e.n ≤ 1048576) (hn : (e.deps.getD k 0 != e.n - 1) = false) (ho : opE e = false) : Calls Try.prog 14 #[.agg (evc e)] w fun e' w' => e' = .returned (.bool false) ∧ Below w.heap.size w w' := by
  obtain ⟨hE, hB⟩ := boxedE w e
  have H0 : Hid (Below w.heap.size w (w.alloc (.cells (evc e) 44))) := hB
  clear hB
  have c2 := hE.c2
  have c0 := hE.c0
  rw [hr] at c0
  have c1 := hE.c1
  have cd := hE.cd hl hk16
  obtain ⟨O, io⟩ := is_any e
  go_enter Try.func14, Try.ntmps14
  go_wp2_with fail
  refine region_vals [3, 4, 5, 6, 7, 8, 9, 10, 11, 12, 13, 14, 15, 16, 17, 18, 19, 20, 21, 22, 23, 24, 25, 26, 27, 28, 29, 30, 31, 32, 33, 34, 35, 36, 37, 38, 39, 40, 41] [.pointer (some ⟨w.heap.size, 0, none⟩), .agg (dotc ((k : Int)) (e.n)), .bool true, .bool false, .bool false, .pointer (some ⟨w.heap.size, 2, none⟩), .int .i64 (e.t), .bool false, .bool false, .bool false, .pointer (some ⟨w.heap.size, 2, none⟩), .int .i64 (e.t), .bool false, .bool false, .bool false, .pointer (some ⟨w.heap.size, 3, none⟩), .agg (vals (e.deps)), .bool true, .bool false, .bool false, .bool false, .pointer (some ⟨w.heap.size, 0, none⟩), .pointer (some ⟨w.heap.size, 0, none⟩), .int .i64 ((k : Int)), .pointer (some ⟨w.heap.size, 3, none⟩), .pointer (some ⟨w.heap.size, 3 + k, none⟩), .int .i64 ((e.deps.getD k 0)), .pointer (some ⟨w.heap.size, 0, none⟩), .pointer (some ⟨w.heap.size, 1, none⟩), .int .i64 (e.n), .int .i64 (e.n - 1), .bool false, .bool false, .bool false, .pointer (some ⟨w.heap.size, 19, none⟩), .agg O, .bool false, .bool true, .bool true] _ (by kernel_rfl) (by kernel_rfl) (by rfl) (by decide) (by kernel_rfl) (by simp only [lay, Act.put, List.setIfInBounds_toArray, List.set_cons_zero, List.set_cons_succ, List.getD_cons_zero, List.getD_cons_succ, Nat.reduceAdd]; rfl) ⟨?_, ?_, ?_, ?_, ?_, ?_, ?_, ?_, ?_, ?_, ?_, ?_, ?_, ?_, ?_, ?_, ?_, ?_, ?_, ?_, ?_, ?_, ?_, ?_, ?_, ?_, ?_, ?_, ?_, ?_, ?_, ?_, ?_, ?_, ?_, ?_, ?_, ?_, ?_, trivial⟩ ?_
  · exact .inl ⟨rfl, fun W hb => yields_field rfl rfl (fieldE0_run W _)⟩
  · exact .inl ⟨rfl, fun W hb => yields_load rfl rfl (load_dotE_run2 ((hE).below hb (hE).lt) hr)⟩
  · exact .inl ⟨rfl, fun W hb => yields_call (vs := [.agg (dotc ((k : Int)) (e.n))]) (v := .bool true) rfl rfl (enters_rdot _ _) (okcall (rdot_any _ _ W) hd)⟩
  · exact .inl ⟨rfl, fun W hb => yields_un rfl rfl (not_run W true)⟩
  · exact .inl ⟨rfl, fun W hb => yields_move rfl rfl⟩
  · exact .inl ⟨rfl, fun W hb => yields_field rfl rfl (fieldE1_run W _)⟩
  · exact .inl ⟨rfl, fun W hb => yields_load rfl rfl (load_int_run ((hb.cell (block_lt_of_cell c2)).trans c2))⟩
  · exact .inl ⟨rfl, fun W hb => yields_bin rfl rfl rfl (eqGuard_int W) (lss_is W h0)⟩
  · exact .inl ⟨rfl, fun W hb => yields_pick (b := false) rfl rfl rfl⟩
  · exact .inl ⟨rfl, fun W hb => yields_move rfl rfl⟩
  · exact .inl ⟨rfl, fun W hb => yields_field rfl rfl (fieldE1_run W _)⟩
  · exact .inl ⟨rfl, fun W hb => yields_load rfl rfl (load_int_run ((hb.cell (block_lt_of_cell c2)).trans c2))⟩
  · exact .inl ⟨rfl, fun W hb => yields_bin rfl rfl rfl (eqGuard_int W) (gtr_is W h1)⟩
  · exact .inl ⟨rfl, fun W hb => yields_pick (b := false) rfl rfl rfl⟩
  · exact .inl ⟨rfl, fun W hb => yields_move rfl rfl⟩
  · exact .inl ⟨rfl, fun W hb => yields_field rfl rfl (fieldE2_run W _)⟩
  · exact .inl ⟨rfl, fun W hb => yields_load rfl rfl (load_depsE_run ((hE).below hb (hE).lt) hl)⟩
  · exact .inl ⟨rfl, fun W hb => yields_call (vs := [.agg (vals (e.deps))]) (v := .bool true) rfl rfl (enters_rright _ _) (okcall (rright_any _ hl W) hf)⟩
  · exact .inl ⟨rfl, fun W hb => yields_un rfl rfl (not_run W true)⟩
  · exact .inl ⟨rfl, fun W hb => yields_pick (b := false) rfl rfl rfl⟩
  · exact .inl ⟨rfl, fun W hb => yields_move rfl rfl⟩
  · exact .inl ⟨rfl, fun W hb => yields_field rfl rfl (fieldE0_run W _)⟩
  · exact .inl ⟨rfl, fun W hb => yields_field rfl rfl (field0_run W _)⟩
  · exact .inl ⟨rfl, fun W hb => yields_load rfl rfl (load_int_run ((hb.cell (block_lt_of_cell c0)).trans c0))⟩
  · exact .inl ⟨rfl, fun W hb => yields_field rfl rfl (fieldE2_run W _)⟩
  · exact .inl ⟨rfl, fun W hb => yields_indexAddr rfl rfl rfl (run_indexAt_at W _ 3 k hk16)⟩
  · exact .inl ⟨rfl, fun W hb => yields_load rfl rfl (load_int_run ((hb.cell (block_lt_of_cell cd)).trans cd))⟩
  · exact .inl ⟨rfl, fun W hb => yields_field rfl rfl (fieldE0_run W _)⟩
  · exact .inl ⟨rfl, fun W hb => yields_field rfl rfl (field1_run W _)⟩
  · exact .inl ⟨rfl, fun W hb => yields_load rfl rfl (load_int_run ((hb.cell (block_lt_of_cell c1)).trans c1))⟩
  · exact .inl ⟨rfl, fun W hb => yields_bin rfl rfl rfl (eqGuard_int W) (sub_run W hb0 hb1)⟩
  · exact .inl ⟨rfl, fun W hb => yields_bin rfl rfl rfl (eqGuard_int W) (neq_is W hn)⟩
  · exact .inl ⟨rfl, fun W hb => yields_pick (b := false) rfl rfl rfl⟩
  · exact .inl ⟨rfl, fun W hb => yields_move rfl rfl⟩
  · exact .inl ⟨rfl, fun W hb => yields_field rfl rfl (fieldE3_run W _)⟩
  · exact .inl ⟨rfl, fun W hb => yields_load rfl rfl (load_opE_run ((hE).below hb (hE).lt) hl io)⟩
  · exact .inl ⟨rfl, fun W hb => yields_call (vs := [.agg O]) (v := .bool false) rfl rfl (enters_rop _ _) (okcall (rop_is io W) ho)⟩
  · exact .inl ⟨rfl, fun W hb => yields_un rfl rfl (not_run W false)⟩
  · exact .inl ⟨rfl, fun W hb => yields_pick (b := false) rfl rfl rfl⟩
  intro w2 hb2
  clear hE c2 c0 c1 cd
  go_wp2
  go_ret
  exact ⟨rfl, H0.out.trans (hb2.mono H0.out.size)⟩

set_option maxHeartbeats 1000000 in
theorem reright_G (e : Ev) (w : World) (hl : e.deps.length = 16) (k : Nat) (hr : e.r = (k : Int)) (hk16 : k < 16) (hd : okdot (k : Int) e.n = true) (h0 : decide (e.t < 0) = false) (h1 : decide (1152921504606846975 < e.t) = false) (hf : fine e.deps = true) (hb0 : 1 ≤ e.n) (hb1 : e.n ≤ 1048576) (hn : (e.deps.getD k 0 != e.n - 1) = false) (ho : opE e = true) (res : Bool) (hres : Hid ((if e.kind = 10 then hasv e.deps e.rr e.rn else isrefE e || hasv e.deps e.rr e.rn) = res)) : Calls Try.prog 14 #[.agg (evc e)] w fun e' w' => e' = .returned (.bool res) ∧ Below w.heap.size w w' := by
  obtain ⟨hE, hB⟩ := boxedE w e
  have H0 : Hid (Below w.heap.size w (w.alloc (.cells (evc e) 44))) := hB
  clear hB
  have c2 := hE.c2
  have c0 := hE.c0
  rw [hr] at c0
  have c1 := hE.c1
  have cd := hE.cd hl hk16
  obtain ⟨O, io⟩ := is_any e
  go_enter Try.func14, Try.ntmps14
  go_wp2_with fail
  refine region_vals [3, 4, 5, 6, 7, 8, 9, 10, 11, 12, 13, 14, 15, 16, 17, 18, 19, 20, 21, 22, 23, 24, 25, 26, 27, 28, 29, 30, 31, 32, 33, 34, 35, 36, 37, 38, 39, 40, 41] [.pointer (some ⟨w.heap.size, 0, none⟩), .agg (dotc ((k : Int)) (e.n)), .bool true, .bool false, .bool false, .pointer (some ⟨w.heap.size, 2, none⟩), .int .i64 (e.t), .bool false, .bool false, .bool false, .pointer (some ⟨w.heap.size, 2, none⟩), .int .i64 (e.t), .bool false, .bool false, .bool false, .pointer (some ⟨w.heap.size, 3, none⟩), .agg (vals (e.deps)), .bool true, .bool false, .bool false, .bool false, .pointer (some ⟨w.heap.size, 0, none⟩), .pointer (some ⟨w.heap.size, 0, none⟩), .int .i64 ((k : Int)), .pointer (some ⟨w.heap.size, 3, none⟩), .pointer (some ⟨w.heap.size, 3 + k, none⟩), .int .i64 ((e.deps.getD k 0)), .pointer (some ⟨w.heap.size, 0, none⟩), .pointer (some ⟨w.heap.size, 1, none⟩), .int .i64 (e.n), .int .i64 (e.n - 1), .bool false, .bool false, .bool false, .pointer (some ⟨w.heap.size, 19, none⟩), .agg O, .bool true, .bool false, .bool false] _ (by kernel_rfl) (by kernel_rfl) (by rfl) (by decide) (by kernel_rfl) (by simp only [lay, Act.put, List.setIfInBounds_toArray, List.set_cons_zero, List.set_cons_succ, List.getD_cons_zero, List.getD_cons_succ, Nat.reduceAdd]; rfl) ⟨?_, ?_, ?_, ?_, ?_, ?_, ?_, ?_, ?_, ?_, ?_, ?_, ?_, ?_, ?_, ?_, ?_, ?_, ?_, ?_, ?_, ?_, ?_, ?_, ?_, ?_, ?_, ?_, ?_, ?_, ?_, ?_, ?_, ?_, ?_, ?_, ?_, ?_, ?_, trivial⟩ ?_
  · exact .inl ⟨rfl, fun W hb => yields_field rfl rfl (fieldE0_run W _)⟩
  · exact .inl ⟨rfl, fun W hb => yields_load rfl rfl (load_dotE_run2 ((hE).below hb (hE).lt) hr)⟩
  · exact .inl ⟨rfl, fun W hb => yields_call (vs := [.agg (dotc ((k : Int)) (e.n))]) (v := .bool true) rfl rfl (enters_rdot _ _) (okcall (rdot_any _ _ W) hd)⟩
  · exact .inl ⟨rfl, fun W hb => yields_un rfl rfl (not_run W true)⟩
  · exact .inl ⟨rfl, fun W hb => yields_move rfl rfl⟩
  · exact .inl ⟨rfl, fun W hb => yields_field rfl rfl (fieldE1_run W _)⟩
  · exact .inl ⟨rfl, fun W hb => yields_load rfl rfl (load_int_run ((hb.cell (block_lt_of_cell c2)).trans c2))⟩
  · exact .inl ⟨rfl, fun W hb => yields_bin rfl rfl rfl (eqGuard_int W) (lss_is W h0)⟩
  · exact .inl ⟨rfl, fun W hb => yields_pick (b := false) rfl rfl rfl⟩
  · exact .inl ⟨rfl, fun W hb => yields_move rfl rfl⟩
  · exact .inl ⟨rfl, fun W hb => yields_field rfl rfl (fieldE1_run W _)⟩
  · exact .inl ⟨rfl, fun W hb => yields_load rfl rfl (load_int_run ((hb.cell (block_lt_of_cell c2)).trans c2))⟩
  · exact .inl ⟨rfl, fun W hb => yields_bin rfl rfl rfl (eqGuard_int W) (gtr_is W h1)⟩
  · exact .inl ⟨rfl, fun W hb => yields_pick (b := false) rfl rfl rfl⟩
  · exact .inl ⟨rfl, fun W hb => yields_move rfl rfl⟩
  · exact .inl ⟨rfl, fun W hb => yields_field rfl rfl (fieldE2_run W _)⟩
  · exact .inl ⟨rfl, fun W hb => yields_load rfl rfl (load_depsE_run ((hE).below hb (hE).lt) hl)⟩
  · exact .inl ⟨rfl, fun W hb => yields_call (vs := [.agg (vals (e.deps))]) (v := .bool true) rfl rfl (enters_rright _ _) (okcall (rright_any _ hl W) hf)⟩
  · exact .inl ⟨rfl, fun W hb => yields_un rfl rfl (not_run W true)⟩
  · exact .inl ⟨rfl, fun W hb => yields_pick (b := false) rfl rfl rfl⟩
  · exact .inl ⟨rfl, fun W hb => yields_move rfl rfl⟩
  · exact .inl ⟨rfl, fun W hb => yields_field rfl rfl (fieldE0_run W _)⟩
  · exact .inl ⟨rfl, fun W hb => yields_field rfl rfl (field0_run W _)⟩
  · exact .inl ⟨rfl, fun W hb => yields_load rfl rfl (load_int_run ((hb.cell (block_lt_of_cell c0)).trans c0))⟩
  · exact .inl ⟨rfl, fun W hb => yields_field rfl rfl (fieldE2_run W _)⟩
  · exact .inl ⟨rfl, fun W hb => yields_indexAddr rfl rfl rfl (run_indexAt_at W _ 3 k hk16)⟩
  · exact .inl ⟨rfl, fun W hb => yields_load rfl rfl (load_int_run ((hb.cell (block_lt_of_cell cd)).trans cd))⟩
  · exact .inl ⟨rfl, fun W hb => yields_field rfl rfl (fieldE0_run W _)⟩
  · exact .inl ⟨rfl, fun W hb => yields_field rfl rfl (field1_run W _)⟩
  · exact .inl ⟨rfl, fun W hb => yields_load rfl rfl (load_int_run ((hb.cell (block_lt_of_cell c1)).trans c1))⟩
  · exact .inl ⟨rfl, fun W hb => yields_bin rfl rfl rfl (eqGuard_int W) (sub_run W hb0 hb1)⟩
  · exact .inl ⟨rfl, fun W hb => yields_bin rfl rfl rfl (eqGuard_int W) (neq_is W hn)⟩
  · exact .inl ⟨rfl, fun W hb => yields_pick (b := false) rfl rfl rfl⟩
  · exact .inl ⟨rfl, fun W hb => yields_move rfl rfl⟩
  · exact .inl ⟨rfl, fun W hb => yields_field rfl rfl (fieldE3_run W _)⟩
  · exact .inl ⟨rfl, fun W hb => yields_load rfl rfl (load_opE_run ((hE).below hb (hE).lt) hl io)⟩
  · exact .inl ⟨rfl, fun W hb => yields_call (vs := [.agg O]) (v := .bool true) rfl rfl (enters_rop _ _) (okcall (rop_is io W) ho)⟩
  · exact .inl ⟨rfl, fun W hb => yields_un rfl rfl (not_run W true)⟩
  · exact .inl ⟨rfl, fun W hb => yields_pick (b := false) rfl rfl rfl⟩
  intro w2 hb2
  have E2 := hE.below hb2 hE.lt
  have B2 : Hid (Below w.heap.size w w2) := H0.out.trans (hb2.mono H0.out.size)
  clear hE c2 c0 c1 cd hb2 H0 hr hd h0 h1 hf hn ho io
  have hd := E2.deps hl
  have hr := E2.ref hl
  have c19 := E2.c19 hl
  clear E2
  by_cases h10 : e.kind = 10
  · have HX : Hid (hasv e.deps e.rr e.rn = res) := by
      show _ = _
      rw [← hres.out, if_pos h10]
    rw [h10] at c19
    clear h10
    go_wp2_with (first | refine load_vec_at rfl rfl rfl hd hl ?_ | refine load_dot_at rfl rfl rfl hr ?_)
    refine (rhas_any e.deps e.rr e.rn hl _).mono ?_
    rintro e1 w3 ⟨rfl, hb3⟩
    clear hd hr c19
    go_wp2
    go_ret
    exact ⟨congrArg (fun b => Ending.returned (.bool b)) HX.out, B2.out.trans (hb3.mono B2.out.size)⟩
  · have HX : Hid ((isrefE e || hasv e.deps e.rr e.rn) = res) := by
      show _ = _
      rw [← hres.out, if_neg h10]
    have k10 : (e.kind == 10) = false := by simpa using h10
    have hp := plain_dot
    clear h10
    rcases Bool.eq_false_or_eq_true (isrefE e) with hi | hi
    · rw [hi, Bool.true_or] at HX
      have he := fun W : World => run_isref W hi
      clear hi
      go_wp2_with (first | refine load_vec_at rfl rfl rfl hd hl ?_ | refine load_dot_at rfl rfl rfl hr ?_)
      go_ret
      exact ⟨congrArg (fun b => Ending.returned (.bool b)) HX.out, B2.out⟩
    · rw [hi, Bool.false_or] at HX
      have he := fun W : World => run_isref W hi
      clear hi
      go_wp2_with (first | refine load_vec_at rfl rfl rfl hd hl ?_ | refine load_dot_at rfl rfl rfl hr ?_)
      refine (rhas_any e.deps e.rr e.rn hl _).mono ?_
      rintro e1 w3 ⟨rfl, hb3⟩
      clear hd hr c19
      go_wp2
      go_ret
      exact ⟨congrArg (fun b => Ending.returned (.bool b)) HX.out, B2.out.trans (hb3.mono B2.out.size)⟩

theorem place_iff (e : Ev) : placeE e = true ↔ fine e.deps = true ∧ okdot e.r e.n = true ∧ e.n = e.deps.getD e.r.toNat 0 + 1 := by
  constructor
  · exact place_parts
  · rintro ⟨h1, h2, h3⟩
    rw [placeE, decide_eq_true_eq, withE, h1, h2, if_pos (by rfl), if_pos h3]
theorem okev_not {e : Ev} (h : ¬ (placeE e = true ∧ 0 ≤ e.t ∧ e.t ≤ 1152921504606846975 ∧ opE e = true)) : okev e = false := by
  rw [Bool.eq_false_iff]
  intro h'
  simp only [okev, Bool.and_eq_true, decide_eq_true_eq] at h'
  exact h ⟨h'.1, h'.2.1, h'.2.2.1, h'.2.2.2.1⟩
theorem reright_any (e : Ev) (hl : e.deps.length = 16) (w : World) : Calls Try.prog 14 #[.agg (evc e)] w fun e' w' => e' = .returned (.bool (okev e)) ∧ Below w.heap.size w w' := by
  rcases Bool.eq_false_or_eq_true (okdot e.r e.n) with hd | hd
  · obtain ⟨r0, r1, n0, n1⟩ := of_decide_eq_true hd
    by_cases h0 : e.t < 0
    · rw [okev_not (fun h => by omega)]; exact reright_B e w hl hd (decide_eq_true h0)
    · by_cases h1 : 1152921504606846975 < e.t
      · rw [okev_not (fun h => by omega)]; exact reright_C e w hl hd (decide_eq_false h0) (decide_eq_true h1)
      · rcases Bool.eq_false_or_eq_true (fine e.deps) with hf | hf
        · obtain ⟨k, hk⟩ : ∃ k : Nat, e.r = (k : Int) := ⟨e.r.toNat, by omega⟩
          have hd' := hd
          rw [hk] at hd'
          have ek : e.r.toNat = k := by omega
          by_cases hn : e.deps.getD k 0 = e.n - 1
          · have hp : placeE e = true := (place_iff e).2 ⟨hf, hd, by rw [ek]; omega⟩
            rcases Bool.eq_false_or_eq_true (opE e) with ho | ho
            · have hg := reright_G e w hl k hk (by omega) hd' (decide_eq_false h0) (decide_eq_false h1) hf n0 n1 (by simpa using hn) ho _ rfl
              have hR : refE e = (if e.kind = 10 then hasv e.deps e.rr e.rn else isrefE e || hasv e.deps e.rr e.rn) := by
                unfold refE
                by_cases h10 : e.kind = 10
                · rw [if_pos h10, if_pos h10]
                · rw [if_neg h10, if_neg h10]
                  by_cases h9 : e.kind = 9
                  · rw [if_pos h9]
                  · rw [if_neg h9]
                    have hz := ((opE_iff e).1 ho).2.2.2.2 (decide_eq_false (by omega))
                    rw [show isrefE e = true from decide_eq_true hz, Bool.true_or]
              have hk' : okev e = refE e := by
                rw [okev, hp, ho, decide_eq_true (by omega : 0 ≤ e.t), decide_eq_true (by omega : e.t ≤ 1152921504606846975)]
                rfl
              rw [hk', hR]
              exact hg
            · rw [okev_not (fun h => by rw [ho] at h; cases h.2.2.2)]
              exact reright_F e w hl k hk (by omega) hd' (decide_eq_false h0) (decide_eq_false h1) hf n0 n1 (by simpa using hn) ho
          · rw [okev_not (fun h => hn (by have := ((place_iff e).1 h.1).2.2; rw [ek] at this; omega))]
            exact reright_E e w hl k hk (by omega) hd' (decide_eq_false h0) (decide_eq_false h1) hf n0 n1 (by simpa using hn)
        · rw [okev_not (fun h => by have := ((place_iff e).1 h.1).1; rw [hf] at this; cases this)]
          exact reright_D e w hl hd (decide_eq_false h0) (decide_eq_false h1) hf
  · rw [okev_not (fun h => by have := ((place_iff e).1 h.1).2.1; rw [hd] at this; cases this)]
    exact reright_A e w hl hd
end Go.Proofs.Ythpkpmcccpfabaa

namespace Go.Proofs.Ythpkpmcccpfabaa
set_option maxRecDepth 100000
open Go.RowKit

/-- Numbers from 0 to the greatest. -/
def Small (v : List Int) : Prop := ∀ j : Nat, 0 ≤ v.getD j 0 ∧ v.getD j 0 ≤ 1048576
theorem Small.fit {v : List Int} (h : Small v) : Fit v := fun j => by have := h j; omega
theorem small_zeros : Small zeros := fun j => by rw [zeros_getD]; omega
theorem Chain.take {T : List Ev} {v : List Int} (h : Chain T v) (j : Nat) : Chain (T.take j) v := fun k x hx => by
  have hk : k < j := by have := (List.getElem?_eq_some_iff.1 hx).1; rw [List.length_take] at this; omega
  rw [List.getElem?_take_of_lt hk] at hx
  rw [List.take_take, Nat.min_eq_left (by omega)]
  exact h k x hx
theorem Chain.small {T : List Ev} {v : List Int} (h : Chain T v) (hv : Small v) (hd : ∀ e ∈ T, okdot e.r e.n = true) : Small (vs T v) := fun j => by
  rcases Chain.at' T h hd j with h1 | ⟨e, he, -, h2⟩
  · rw [h1]; exact hv j
  · have := hd e he
    simp only [okdot, decide_eq_true_eq] at this
    omega
structure OnP (S : List Ev) (v : List Int) : Prop where
  buf : Buf S
  wide : ∀ x ∈ S, Wide x
  vl : v.length = 16
  small : Small v
theorem OnP.start : OnP [] zeros := ⟨Buf.nil, fun _ h => by simp at h, rfl, small_zeros⟩
theorem OnP.step {S T' S' : List Ev} {v u : List Int} {e : Ev} (h : OnP S v) (he : Wide e) (ho : Off S e v T' S' u) : OnP S' u :=
  ⟨ho.buf h.buf, (ho.wide h.wide he).2, by rw [ho.vs, vs_length, h.vl], by rw [ho.vs]; exact ho.chain.small h.small (fun y hy => okev_dot (ho.ok h.buf y hy))⟩
theorem enters_reright (xs : Array Value) (w : World) : (callFunc 14 xs).run Try.prog w = .ok (.enter 14 xs) w := enters Try.func14 (by kernel_rfl) (by kernel_rfl) xs w
theorem enters_rmay (xs : Array Value) (w : World) : (callFunc 15 xs).run Try.prog w = .ok (.enter 15 xs) w := enters Try.func15 (by kernel_rfl) (by kernel_rfl) xs w
theorem y_not {o : Oper} {a : Act} {w : World} {x : Operand} {b c : Bool} (ho : o.op = .unOp .not 4 x) (hx : a.eval x = .bool b) (hc : (!b) = c) : (execOp a.eval o).run Try.prog w = .ok (.value (.bool c)) w := by
  subst hc
  unfold execOp
  simp only [ho, hx]
  rfl
set_option maxHeartbeats 4000000 in
theorem lonce_walk (ao : Option Addr) (m c : Nat) (E : List Ev) (w : World) (hE : Evs w ao m c E) : Calls Try.prog 4 #[.slice ao m c] w fun ex w' => ex = .returned (.bool true) ∧ Below w.heap.size w w' := by
  have hA := qawake_any w
  have htop := hE.top
  have hroom := hE.room
  have hm63 : m ≤ 9223372036854775807 := by unfold maxLen at htop; omega
  by_cases hm : 150 < m
  · have hm' : (150 : Int) < (m : Int) := by omega
    clear hE
    go_enter Try.func4, Try.ntmps4
    go_wp2_with fail
    refine Calls.mono hA ?_
    rintro ex w1 ⟨rfl, hb1⟩
    have hA1 := qawake_any w1
    go_wp2_with fail
    refine Calls.mono hA1 ?_
    rintro ex w2 ⟨rfl, hb2⟩
    go_wp2
    go_ret
    exact ⟨rfl, hb1.trans (hb2.mono hb1.size)⟩
  have hm' : ¬ (150 : Int) < (m : Int) := by omega
  go_enter Try.func4, Try.ntmps4
  go_wp2_with fail
  refine Calls.mono hA ?_
  rintro ex w1 ⟨rfl, hb1⟩
  have hN := qnew_any w1
  have hF0 := bf_new w1
  have hb2 : Below w1.heap.size w1 (w1.alloc (.cells #[.map none] 34)) := (Below.refl _ _).alloc (Nat.le_refl _) _
  have hs2 := World.size_alloc w1 (.cells #[.map none] 34)
  generalize w1.alloc (.cells #[.map none] 34) = w2 at *
  obtain ⟨g, hg⟩ : ∃ g, w1.heap.size = g := ⟨_, rfl⟩
  rw [hg] at hN hF0 hs2
  have hgw : w.heap.size ≤ g := by rw [← hg]; exact hb1.size
  have hL0 : Lq w g (g + 1) (w2.alloc (.cells (vals zeros) 40)) none [] zeros := by
    have hb3 : Below w2.heap.size w2 (w2.alloc (.cells (vals zeros) 40)) := (Below.refl _ _).alloc (Nat.le_refl _) _
    refine ⟨(hb1.trans (hb2.mono hb1.size)).trans (hb3.mono (by omega)), hF0.below hb3, ?_, hgw, by omega, fun k e => by cases e⟩
    rw [← hs2]; exact lies_new w2 zeros
  have hzz : w2.alloc (.cells #[.int .i64 0, .int .i64 0, .int .i64 0, .int .i64 0, .int .i64 0, .int .i64 0, .int .i64 0, .int .i64 0, .int .i64 0, .int .i64 0, .int .i64 0, .int .i64 0, .int .i64 0, .int .i64 0, .int .i64 0, .int .i64 0] 40) = w2.alloc (.cells (vals zeros) 40) := by rw [zeros_vals]
  generalize hW3 : w2.alloc (.cells (vals zeros) 40) = W3 at *
  have hrel0 : Hid (∃ (i : Nat) (mm : Option Nat) (S : List Ev) (v : List Int), i ≤ m ∧ Value.int .i64 0 = .int .i64 (i : Int) ∧ Lq w g (g + 1) W3 mm S v ∧ OnP S v) := ⟨0, none, [], zeros, Nat.zero_le _, rfl, hL0, OnP.start⟩
  have HE : Hid (Evs w ao m c E) := hE
  clear hL0 hF0 hb1 hb2 hA hE hW3
  go_wp2_with fail
  refine Calls.mono hN ?_
  rintro ex w2' ⟨rfl, hw2⟩
  obtain rfl := hw2.symm
  go_wp2_with fail
  go_loopw [19] (fun c19 wr => ∃ (i : Nat) (mm : Option Nat) (S : List Ev) (v : List Int), i ≤ m ∧ c19 = .int .i64 (i : Int) ∧ Lq w g (g + 1) wr mm S v ∧ OnP S v) (fun c19 _ => m - (intOf c19).toNat)
  case atStart => exact hrel0.out
  case round =>
    clear hrel0 hzz hN
    obtain ⟨i, mm, S, v, hi, rfl, hL, hP⟩ := hrel
    by_cases hlt : i < m
    · have hlt' : (i : Int) < (m : Int) := by omega
      obtain ⟨b, off, e, hao, hei, hwe, hrg, hbw⟩ := HE.out.at hlt
      have he16 := hwe.1
      subst hao
      have hv16 := hP.vl
      have hLd := hL.drew
      have hOf := offer_any g mm S e v hwe hv16 wr.drew hLd.bf hP.buf hP.wide
      have hrgd : wr.drew.rangeAt b (off + i * 26) (evl e) := range_below hrg hLd.below hbw
      have HL : Hid _ := hLd
      have HP : Hid _ := hP
      have hvd : Lies wr.drew (g + 1) v := hLd.vec
      have hsd : g + 2 ≤ wr.heap.size := by have := hL.vec.lt; omega
      have hix := fun W : World => index_ev W (b := b) (off := off) (c := c) hlt
      clear hL hP hLd
      go_upto_region 8 with fail
      refine wp_region_noPanic ?_
      refine wp_region_held_drew (S := fun W' : World => W'.rangeAt b (off + i * 26) (evl e) ∧ Lies W' (g + 1) v) (by kernel_rfl) ⟨hrgd, hvd⟩ (fun hHeld => ?_)
      refine wpAnyH_take (i := 0) (oi := { dst := some 22, op := _, type := _, pos := _, after := _, guard := _ }) (v := .pointer (some ⟨g, 0, none⟩)) rfl (by kernel_rfl) (by kernel_rfl) (by kernel_rfl) (fun _ _ _ h => h) (Or.inl ⟨by rfl, ?_⟩) (by assumption) ?_
      · intro w9 hSw
        exact y_move rfl rfl
      simp only [Act.put, List.setIfInBounds_toArray, List.set_cons_zero, List.set_cons_succ]
      refine wpAnyH_take (i := 1) (oi := { dst := some 23, op := _, type := _, pos := _, after := _, guard := _ }) (v := .slice (some ⟨b, off, none⟩) m c) rfl (by kernel_rfl) (by kernel_rfl) (by kernel_rfl) (fun _ _ _ h => h) (Or.inl ⟨by rfl, ?_⟩) (by assumption) ?_
      · intro w9 hSw
        exact y_move rfl rfl
      simp only [Act.put, List.setIfInBounds_toArray, List.set_cons_zero, List.set_cons_succ]
      refine wpAnyH_take (i := 2) (oi := { dst := some 24, op := _, type := _, pos := _, after := _, guard := _ }) (v := .int .i64 (i : Int)) rfl (by kernel_rfl) (by kernel_rfl) (by kernel_rfl) (fun _ _ _ h => h) (Or.inl ⟨by rfl, ?_⟩) (by assumption) ?_
      · intro w9 hSw
        exact y_move rfl rfl
      simp only [Act.put, List.setIfInBounds_toArray, List.set_cons_zero, List.set_cons_succ]
      refine wpAnyH_take (i := 3) (oi := { dst := some 25, op := _, type := _, pos := _, after := _, guard := _ }) (v := .pointer (some ⟨b, off + i * 26, none⟩)) rfl (by kernel_rfl) (by kernel_rfl) (by kernel_rfl) (fun _ _ _ h => h) (Or.inl ⟨by rfl, ?_⟩) (by assumption) ?_
      · intro w9 hSw
        exact y_index rfl rfl rfl (hix _)
      simp only [Act.put, List.setIfInBounds_toArray, List.set_cons_zero, List.set_cons_succ]
      refine wpAnyH_take (i := 4) (oi := { dst := some 26, op := _, type := _, pos := _, after := _, guard := _ }) (v := .agg (evc e)) rfl (by kernel_rfl) (by kernel_rfl) (by kernel_rfl) (fun _ _ _ h => h) (Or.inl ⟨by rfl, ?_⟩) (by assumption) ?_
      · intro w9 hSw
        exact y_load rfl rfl (load_em hSw.1 he16)
      simp only [Act.put, List.setIfInBounds_toArray, List.set_cons_zero, List.set_cons_succ]
      refine wpAnyH_take (i := 5) (oi := { dst := some 27, op := _, type := _, pos := _, after := _, guard := _ }) (v := .agg (vals v)) rfl (by kernel_rfl) (by kernel_rfl) (by kernel_rfl) (fun _ _ _ h => h) (Or.inl ⟨by rfl, ?_⟩) (by assumption) ?_
      · intro w9 hSw
        exact y_load rfl rfl (load_v hSw.2 hv16)
      simp only [Act.put, List.setIfInBounds_toArray, List.set_cons_zero, List.set_cons_succ]
      clear hHeld
      refine wpAnyH_ready (rs := [6]) (by kernel_rfl) (by simp) ?_
      refine AllReadyH.cons (o := { dst := some 28, op := _, type := _, pos := _, after := _, guard := _ }) rfl (fun K hK => ?_) AllReadyH.nil
      rw [if_pos (by rfl)]
      refine y_call (f := 11) (xs := [.tmp 22, .tmp 26, .tmp 27]) (vs := [.pointer (some ⟨g, 0, none⟩), .agg (evc e), .agg (vals v)]) rfl rfl (enters_offer _ _) hOf ?_
      rintro ex w4 ⟨vt, T', S', u, m4, rfl, hO, hu16, hr4, hB4, ht4⟩
      refine ⟨_, rfl, ?_⟩
      have hL4 := HL.out.offer hB4 ht4
      have hrg4 : w4.rangeAt b (off + i * 26) (evl e) := range_below hrg hL4.below hbw
      refine hK.out _ _ ⟨hrg4, hL4.vec⟩ (fun hHeld => ?_)
      clear hK K
      simp only [Act.put, List.setIfInBounds_toArray, List.set_cons_zero, List.set_cons_succ]
      refine wpAnyH_take (i := 7) (oi := { dst := some 6, op := _, type := _, pos := _, after := _, guard := _ }) (v := vt) rfl (by kernel_rfl) (by kernel_rfl) (by kernel_rfl) (fun _ _ _ h => h) (Or.inl ⟨by rfl, ?_⟩) (by assumption) ?_
      · intro w9 hSw
        exact y_assign rfl rfl
      simp only [Act.put, List.setIfInBounds_toArray, List.set_cons_zero, List.set_cons_succ]
      refine wpAnyH_done (by kernel_rfl) ?_ _
      refine NoPanic.normal ?_
      clear hHeld
      have hwT := (hO.wide HP.out.wide hwe).1
      obtain ⟨at', ct, hvt, hTe⟩ := hr4.evs hwT
      have hTl : T'.length ≤ 64 := hO.len HP.out.buf
      have hTl' : T'.length ≤ 9223372036854775807 := by omega
      have HO : Hid (u = vs T' v) := hO.vs
      have HC : Hid (Chain T' v) := hO.chain
      have HAP : Hid (OnP S' u) := HP.out.step hwe hO
      have hokT : ∀ x ∈ T', okev x = true := hO.ok HP.out.buf
      have hok' : ∀ x ∈ T', okdot x.r x.n = true := fun x hx => okev_dot (hokT x hx)
      subst hvt
      have HR4 : Hid (Row w4 (g + 2) (.slice at' T'.length ct) T') := hr4.lower (by exact hsd)
      have hrelI : Hid (∃ j : Nat, j ≤ T'.length ∧ Value.int .i64 0 = .int .i64 (j : Int) ∧ Lq w g (g + 1) w4 m4 S' (vs (T'.take j) v) ∧ Row w4 (g + 2) (.slice at' T'.length ct) T') := ⟨0, Nat.zero_le _, rfl, hL4, HR4.out⟩
      clear hO hL4 hr4 HR4 HL hTe hvd hrgd hrg4 hrg
      go_wp2_with fail
      go_loopw [31] (fun c31 wj => ∃ j : Nat, j ≤ T'.length ∧ c31 = .int .i64 (j : Int) ∧ Lq w g (g + 1) wj m4 S' (vs (T'.take j) v) ∧ Row wj (g + 2) (.slice at' T'.length ct) T') (fun c31 _ => T'.length - (intOf c31).toNat)
      case atStart => exact hrelI.out
      case round =>
        clear hrelI
        obtain ⟨j, hj, rfl, hLj, hRj⟩ := hrel
        by_cases hjl : j < T'.length
        · have hjl' : (j : Int) < (T'.length : Int) := by omega
          obtain ⟨ao2, c2, hv2, hTe⟩ := hRj.evs hwT
          simp only [Value.slice.injEq, true_and] at hv2
          obtain ⟨rfl, rfl⟩ := hv2
          obtain ⟨b2, off2, x, hao2, hxj, hwx, hrg2, hbl2⟩ := hTe.at hjl
          subst hao2
          have hmx := List.mem_of_getElem? hxj
          have hdx0 := hok' x hmx
          have hdx := hdx0
          simp only [okdot, decide_eq_true_eq] at hdx
          have hx16 := hwx.1
          obtain ⟨vj, hvj⟩ : ∃ vj, vs (T'.take j) v = vj := ⟨_, rfl⟩
          have hvjl : vj.length = 16 := by rw [← hvj, vs_length, HP.out.vl]
          have hmay : mayE x vj = true := by rw [← hvj]; exact HC.out j x hxj
          have hfit : Fit vj := by
            rw [← hvj]
            exact ((HC.out.take j).small HP.out.small (fun y hy => hok' y (List.mem_of_mem_take hy))).fit
          obtain ⟨r, hr⟩ : ∃ r : Nat, x.r = (r : Int) := ⟨x.r.toNat, by omega⟩
          have hr16 : r < 16 := by omega
          have hb2g : g + 2 ≤ b2 := Row.own hRj b2 rfl
          have hb2ne : b2 ≠ g + 1 := by omega
          have hvn : vj.set r x.n = vs (T'.take (j + 1)) v := by rw [vs_take hxj, hr, hvj]; rfl
          rw [hvj] at hLj
          have hLd := hLj.drew
          have HLd : Hid _ := hLd
          have hrd0 : wr.drew.rangeAt b2 (off2 + j * 26) (evl x) := hrg2
          have hvd0 : Lies wr.drew (g + 1) vj := hLd.vec
          have HRd : Hid (Row wr.drew (g + 2) (.slice (some ⟨b2, off2, none⟩) T'.length ct) T') := hRj
          have hRi := reright_any x hx16 wr.drew
          rw [hokT x hmx] at hRi
          have hMy := fun W : World => rmay_any x vj hwx hdx0 hvjl hfit W
          rw [hmay] at hMy
          have hix2 := fun W : World => index_ev W (b := b2) (off := off2) (c := ct) hjl
          have hiv := fun W : World => index_vv W (g + 1) 0 r hr16
          simp only [Nat.zero_add] at hiv
          have hrr : ∀ W : World, W.rangeAt b2 (off2 + j * 26) (evl x) → W.cell? ⟨b2, off2 + j * 26, none⟩ = some (.int .i64 (r : Int)) := fun W h => by rw [range_r h, hr]
          clear hLj hRj hTe hrg2 hLd
          go_upto_region 12 with fail
          refine wp_region_noPanic ?_
          refine wp_region_held_drew (S := fun W' : World => W'.rangeAt b2 (off2 + j * 26) (evl x) ∧ Lies W' (g + 1) vj) (by kernel_rfl) ⟨hrd0, hvd0⟩ (fun hHeld => ?_)
          refine wpAnyH_take (i := 0) (oi := { dst := some 34, op := _, type := _, pos := _, after := _, guard := _ }) (v := .slice (some ⟨b2, off2, none⟩) T'.length ct) rfl (by kernel_rfl) (by kernel_rfl) (by kernel_rfl) (fun _ _ _ h => h) (Or.inl ⟨by rfl, ?_⟩) (by assumption) ?_
          · intro w9 hSw
            exact y_move rfl rfl
          simp only [Act.put, List.setIfInBounds_toArray, List.set_cons_zero, List.set_cons_succ]
          refine wpAnyH_take (i := 1) (oi := { dst := some 35, op := _, type := _, pos := _, after := _, guard := _ }) (v := .int .i64 (j : Int)) rfl (by kernel_rfl) (by kernel_rfl) (by kernel_rfl) (fun _ _ _ h => h) (Or.inl ⟨by rfl, ?_⟩) (by assumption) ?_
          · intro w9 hSw
            exact y_move rfl rfl
          simp only [Act.put, List.setIfInBounds_toArray, List.set_cons_zero, List.set_cons_succ]
          refine wpAnyH_take (i := 2) (oi := { dst := some 36, op := _, type := _, pos := _, after := _, guard := _ }) (v := .pointer (some ⟨b2, off2 + j * 26, none⟩)) rfl (by kernel_rfl) (by kernel_rfl) (by kernel_rfl) (fun _ _ _ h => h) (Or.inl ⟨by rfl, ?_⟩) (by assumption) ?_
          · intro w9 hSw
            exact y_index rfl rfl rfl (hix2 _)
          simp only [Act.put, List.setIfInBounds_toArray, List.set_cons_zero, List.set_cons_succ]
          refine wpAnyH_take (i := 3) (oi := { dst := some 37, op := _, type := _, pos := _, after := _, guard := _ }) (v := .agg (evc x)) rfl (by kernel_rfl) (by kernel_rfl) (by kernel_rfl) (fun _ _ _ h => h) (Or.inl ⟨by rfl, ?_⟩) (by assumption) ?_
          · intro w9 hSw
            exact y_load rfl rfl (load_em hSw.1 hx16)
          simp only [Act.put, List.setIfInBounds_toArray, List.set_cons_zero, List.set_cons_succ]
          clear hHeld
          refine wpAnyH_ready (rs := [4]) (by kernel_rfl) (by simp) ?_
          refine AllReadyH.cons (o := { dst := some 38, op := _, type := _, pos := _, after := _, guard := _ }) rfl (fun K hK => ?_) AllReadyH.nil
          rw [if_pos (by rfl)]
          refine y_call (f := 14) (xs := [.tmp 37]) (vs := [.agg (evc x)]) rfl rfl (enters_reright _ _) hRi ?_
          rintro ex w4 ⟨rfl, hbA⟩
          refine ⟨_, rfl, ?_⟩
          have hL4 := HLd.out.next hbA
          have HR4 : Hid (Row w4 (g + 2) (.slice (some ⟨b2, off2, none⟩) T'.length ct) T') := HRd.out.below hbA (Nat.le_refl _)
          have hS4a : w4.rangeAt b2 (off2 + j * 26) (evl x) ∧ Lies w4 (g + 1) vj := ⟨row_range HR4.out hwT hjl hxj, hL4.vec⟩
          refine hK.out _ _ hS4a (fun hHeld => ?_)
          clear hK K
          simp only [Act.put, List.setIfInBounds_toArray, List.set_cons_zero, List.set_cons_succ]
          refine wpAnyH_take (i := 5) (oi := { dst := some 39, op := _, type := _, pos := _, after := _, guard := _ }) (v := .bool false) rfl (by kernel_rfl) (by kernel_rfl) (by kernel_rfl) (fun _ _ _ h => h) (Or.inl ⟨by rfl, ?_⟩) (by assumption) ?_
          · intro w9 hSw
            exact y_not rfl rfl rfl
          simp only [Act.put, List.setIfInBounds_toArray, List.set_cons_zero, List.set_cons_succ]
          refine wpAnyH_take (i := 6) (oi := { dst := some 40, op := _, type := _, pos := _, after := _, guard := _ }) (v := .bool false) rfl (by kernel_rfl) (by kernel_rfl) (by kernel_rfl) (fun _ _ _ h => h) (Or.inl ⟨by rfl, ?_⟩) (by assumption) ?_
          · intro w9 hSw
            exact y_move rfl rfl
          simp only [Act.put, List.setIfInBounds_toArray, List.set_cons_zero, List.set_cons_succ]
          refine wpAnyH_take (i := 7) (oi := { dst := some 41, op := _, type := _, pos := _, after := _, guard := _ }) (v := .slice (some ⟨b2, off2, none⟩) T'.length ct) rfl (by kernel_rfl) (by kernel_rfl) (by kernel_rfl) (fun _ _ _ h => h) (Or.inl ⟨by rfl, ?_⟩) (by assumption) ?_
          · intro w9 hSw
            exact y_move rfl rfl
          simp only [Act.put, List.setIfInBounds_toArray, List.set_cons_zero, List.set_cons_succ]
          refine wpAnyH_take (i := 8) (oi := { dst := some 42, op := _, type := _, pos := _, after := _, guard := _ }) (v := .int .i64 (j : Int)) rfl (by kernel_rfl) (by kernel_rfl) (by kernel_rfl) (fun _ _ _ h => h) (Or.inl ⟨by rfl, ?_⟩) (by assumption) ?_
          · intro w9 hSw
            exact y_move rfl rfl
          simp only [Act.put, List.setIfInBounds_toArray, List.set_cons_zero, List.set_cons_succ]
          refine wpAnyH_take (i := 9) (oi := { dst := some 43, op := _, type := _, pos := _, after := _, guard := _ }) (v := .pointer (some ⟨b2, off2 + j * 26, none⟩)) rfl (by kernel_rfl) (by kernel_rfl) (by kernel_rfl) (fun _ _ _ h => h) (Or.inl ⟨by rfl, ?_⟩) (by assumption) ?_
          · intro w9 hSw
            exact y_index rfl rfl rfl (hix2 _)
          simp only [Act.put, List.setIfInBounds_toArray, List.set_cons_zero, List.set_cons_succ]
          refine wpAnyH_take (i := 10) (oi := { dst := some 44, op := _, type := _, pos := _, after := _, guard := _ }) (v := .agg (evc x)) rfl (by kernel_rfl) (by kernel_rfl) (by kernel_rfl) (fun _ _ _ h => h) (Or.inl ⟨by rfl, ?_⟩) (by assumption) ?_
          · intro w9 hSw
            exact y_load rfl rfl (load_em hSw.1 hx16)
          simp only [Act.put, List.setIfInBounds_toArray, List.set_cons_zero, List.set_cons_succ]
          refine wpAnyH_take (i := 11) (oi := { dst := some 45, op := _, type := _, pos := _, after := _, guard := _ }) (v := .agg (vals vj)) rfl (by kernel_rfl) (by kernel_rfl) (by kernel_rfl) (fun _ _ _ h => h) (Or.inl ⟨by rfl, ?_⟩) (by assumption) ?_
          · intro w9 hSw
            exact y_load rfl rfl (load_v hSw.2 hvjl)
          simp only [Act.put, List.setIfInBounds_toArray, List.set_cons_zero, List.set_cons_succ]
          clear hHeld
          refine wpAnyH_ready (rs := [12]) (by kernel_rfl) (by simp) ?_
          refine AllReadyH.cons (o := { dst := some 46, op := _, type := _, pos := _, after := _, guard := _ }) rfl (fun K hK => ?_) AllReadyH.nil
          rw [if_pos (by rfl)]
          refine y_call (f := 15) (xs := [.tmp 44, .tmp 45]) (vs := [.agg (evc x), .agg (vals vj)]) rfl rfl (enters_rmay _ _) (hMy _) ?_
          rintro ex w5 ⟨rfl, hbB⟩
          refine ⟨_, rfl, ?_⟩
          have hL5 := hL4.next hbB
          have HR5 : Hid (Row w5 (g + 2) (.slice (some ⟨b2, off2, none⟩) T'.length ct) T') := HR4.out.below hbB (Nat.le_refl _)
          have hS5a : w5.rangeAt b2 (off2 + j * 26) (evl x) ∧ Lies w5 (g + 1) vj := ⟨row_range HR5.out hwT hjl hxj, hL5.vec⟩
          refine hK.out _ _ hS5a (fun hHeld => ?_)
          clear hK K
          simp only [Act.put, List.setIfInBounds_toArray, List.set_cons_zero, List.set_cons_succ]
          refine wpAnyH_take (i := 13) (oi := { dst := some 47, op := _, type := _, pos := _, after := _, guard := _ }) (v := .bool false) rfl (by kernel_rfl) (by kernel_rfl) (by kernel_rfl) (fun _ _ _ h => h) (Or.inl ⟨by rfl, ?_⟩) (by assumption) ?_
          · intro w9 hSw
            exact y_not rfl rfl rfl
          simp only [Act.put, List.setIfInBounds_toArray, List.set_cons_zero, List.set_cons_succ]
          refine wpAnyH_take (i := 14) (oi := { dst := some 48, op := _, type := _, pos := _, after := _, guard := _ }) (v := .bool false) rfl (by kernel_rfl) (by kernel_rfl) (by kernel_rfl) (fun _ _ _ h => h) (Or.inl ⟨by rfl, ?_⟩) (by assumption) ?_
          · intro w9 hSw
            exact exec_pick (b := false) rfl rfl rfl rfl
          simp only [Act.put, List.setIfInBounds_toArray, List.set_cons_zero, List.set_cons_succ]
          refine wpAnyH_done (by kernel_rfl) ?_ _
          refine NoPanic.normal ?_
          clear hHeld
          have HRe : Hid (Row w5 (g + 2) (.slice (some ⟨b2, off2, none⟩) T'.length ct) T') := HR5.out
          have hLe := hL5.drew
          have hrd : w5.drew.rangeAt b2 (off2 + j * 26) (evl x) := hS5a.1
          have hcu := hLe.vec.cell (k := r) (by rw [hvjl]; exact hr16)
          have hfu := hLe.vec.frozen (k := r)
          have hst := st_int (v := .int .i64 x.n) hcu hfu rfl ⟨_, rfl⟩
          have hL6 := hLe.set r x.n
          rw [hvn] at hL6
          have hS5 : (w5.drew.setCell ⟨g + 1, r, none⟩ (.int .i64 x.n)).rangeAt b2 (off2 + j * 26) (evl x) := fun q z hz => by
            rw [World.cell?_setCell_other _ _ _ _ (by intro e; exact hb2ne (congrArg Addr.block e).symm)]; exact hrd q z hz
          have HL6 : Hid _ := hL6
          have HR6 : Hid _ := Row.set (j := r) (x := .int .i64 x.n) (Bv := g + 1) (w := w5.drew) HRe.out (by omega)
          clear hL6 hLe hL5 hS5a
          go_upto_region 14 with fail
          refine wp_region_noPanic ?_
          refine wp_region_held_drew (S := fun W' : World => W'.rangeAt b2 (off2 + j * 26) (evl x)) (by kernel_rfl) hrd (fun hHeld => ?_)
          refine wpAnyH_take (i := 0) (oi := { dst := some 49, op := _, type := _, pos := _, after := _, guard := _ }) (v := .slice (some ⟨b2, off2, none⟩) T'.length ct) rfl (by kernel_rfl) (by kernel_rfl) (by kernel_rfl) (fun _ _ _ h => h) (Or.inl ⟨by rfl, ?_⟩) (by assumption) ?_
          · intro w9 hSw
            exact y_move rfl rfl
          simp only [Act.put, List.setIfInBounds_toArray, List.set_cons_zero, List.set_cons_succ]
          refine wpAnyH_take (i := 1) (oi := { dst := some 50, op := _, type := _, pos := _, after := _, guard := _ }) (v := .int .i64 (j : Int)) rfl (by kernel_rfl) (by kernel_rfl) (by kernel_rfl) (fun _ _ _ h => h) (Or.inl ⟨by rfl, ?_⟩) (by assumption) ?_
          · intro w9 hSw
            exact y_move rfl rfl
          simp only [Act.put, List.setIfInBounds_toArray, List.set_cons_zero, List.set_cons_succ]
          refine wpAnyH_take (i := 2) (oi := { dst := some 51, op := _, type := _, pos := _, after := _, guard := _ }) (v := .pointer (some ⟨b2, off2 + j * 26, none⟩)) rfl (by kernel_rfl) (by kernel_rfl) (by kernel_rfl) (fun _ _ _ h => h) (Or.inl ⟨by rfl, ?_⟩) (by assumption) ?_
          · intro w9 hSw
            exact y_index rfl rfl rfl (hix2 _)
          simp only [Act.put, List.setIfInBounds_toArray, List.set_cons_zero, List.set_cons_succ]
          refine wpAnyH_take (i := 3) (oi := { dst := some 52, op := _, type := _, pos := _, after := _, guard := _ }) (v := .pointer (some ⟨b2, off2 + j * 26, none⟩)) rfl (by kernel_rfl) (by kernel_rfl) (by kernel_rfl) (fun _ _ _ h => h) (Or.inl ⟨by rfl, ?_⟩) (by assumption) ?_
          · intro w9 hSw
            exact y_field rfl rfl (field_em0 _ _ _)
          simp only [Act.put, List.setIfInBounds_toArray, List.set_cons_zero, List.set_cons_succ]
          refine wpAnyH_take (i := 4) (oi := { dst := some 53, op := _, type := _, pos := _, after := _, guard := _ }) (v := .pointer (some ⟨b2, off2 + j * 26, none⟩)) rfl (by kernel_rfl) (by kernel_rfl) (by kernel_rfl) (fun _ _ _ h => h) (Or.inl ⟨by rfl, ?_⟩) (by assumption) ?_
          · intro w9 hSw
            exact y_field rfl rfl (field_dm0 _ _ _)
          simp only [Act.put, List.setIfInBounds_toArray, List.set_cons_zero, List.set_cons_succ]
          refine wpAnyH_take (i := 5) (oi := { dst := some 54, op := _, type := _, pos := _, after := _, guard := _ }) (v := .int .i64 (r : Int)) rfl (by kernel_rfl) (by kernel_rfl) (by kernel_rfl) (fun _ _ _ h => h) (Or.inl ⟨by rfl, ?_⟩) (by assumption) ?_
          · intro w9 hSw
            exact y_load rfl rfl (load_int (hrr _ hSw))
          simp only [Act.put, List.setIfInBounds_toArray, List.set_cons_zero, List.set_cons_succ]
          refine wpAnyH_take (i := 6) (oi := { dst := some 55, op := _, type := _, pos := _, after := _, guard := _ }) (v := .slice (some ⟨b2, off2, none⟩) T'.length ct) rfl (by kernel_rfl) (by kernel_rfl) (by kernel_rfl) (fun _ _ _ h => h) (Or.inl ⟨by rfl, ?_⟩) (by assumption) ?_
          · intro w9 hSw
            exact y_move rfl rfl
          simp only [Act.put, List.setIfInBounds_toArray, List.set_cons_zero, List.set_cons_succ]
          refine wpAnyH_take (i := 7) (oi := { dst := some 56, op := _, type := _, pos := _, after := _, guard := _ }) (v := .int .i64 (j : Int)) rfl (by kernel_rfl) (by kernel_rfl) (by kernel_rfl) (fun _ _ _ h => h) (Or.inl ⟨by rfl, ?_⟩) (by assumption) ?_
          · intro w9 hSw
            exact y_move rfl rfl
          simp only [Act.put, List.setIfInBounds_toArray, List.set_cons_zero, List.set_cons_succ]
          refine wpAnyH_take (i := 8) (oi := { dst := some 57, op := _, type := _, pos := _, after := _, guard := _ }) (v := .pointer (some ⟨b2, off2 + j * 26, none⟩)) rfl (by kernel_rfl) (by kernel_rfl) (by kernel_rfl) (fun _ _ _ h => h) (Or.inl ⟨by rfl, ?_⟩) (by assumption) ?_
          · intro w9 hSw
            exact y_index rfl rfl rfl (hix2 _)
          simp only [Act.put, List.setIfInBounds_toArray, List.set_cons_zero, List.set_cons_succ]
          refine wpAnyH_take (i := 9) (oi := { dst := some 58, op := _, type := _, pos := _, after := _, guard := _ }) (v := .pointer (some ⟨b2, off2 + j * 26, none⟩)) rfl (by kernel_rfl) (by kernel_rfl) (by kernel_rfl) (fun _ _ _ h => h) (Or.inl ⟨by rfl, ?_⟩) (by assumption) ?_
          · intro w9 hSw
            exact y_field rfl rfl (field_em0 _ _ _)
          simp only [Act.put, List.setIfInBounds_toArray, List.set_cons_zero, List.set_cons_succ]
          refine wpAnyH_take (i := 10) (oi := { dst := some 59, op := _, type := _, pos := _, after := _, guard := _ }) (v := .pointer (some ⟨b2, off2 + j * 26 + 1, none⟩)) rfl (by kernel_rfl) (by kernel_rfl) (by kernel_rfl) (fun _ _ _ h => h) (Or.inl ⟨by rfl, ?_⟩) (by assumption) ?_
          · intro w9 hSw
            exact y_field rfl rfl (field_dm1 _ _ _)
          simp only [Act.put, List.setIfInBounds_toArray, List.set_cons_zero, List.set_cons_succ]
          refine wpAnyH_take (i := 11) (oi := { dst := some 60, op := _, type := _, pos := _, after := _, guard := _ }) (v := .int .i64 x.n) rfl (by kernel_rfl) (by kernel_rfl) (by kernel_rfl) (fun _ _ _ h => h) (Or.inl ⟨by rfl, ?_⟩) (by assumption) ?_
          · intro w9 hSw
            exact y_load rfl rfl (load_int (range_n hSw))
          simp only [Act.put, List.setIfInBounds_toArray, List.set_cons_zero, List.set_cons_succ]
          refine wpAnyH_take (i := 12) (oi := { dst := some 61, op := _, type := _, pos := _, after := _, guard := _ }) (v := .pointer (some ⟨g + 1, r, none⟩)) rfl (by kernel_rfl) (by kernel_rfl) (by kernel_rfl) (fun _ _ _ h => h) (Or.inl ⟨by rfl, ?_⟩) (by assumption) ?_
          · intro w9 hSw
            exact y_index rfl rfl rfl (hiv _)
          simp only [Act.put, List.setIfInBounds_toArray, List.set_cons_zero, List.set_cons_succ]
          clear hHeld
          refine wpAnyH_ready (rs := [13]) (by kernel_rfl) (by simp) ?_
          refine AllReadyH.cons (o := { dst := none, op := _, type := _, pos := _, after := _, guard := _ }) rfl (fun K hK => ?_) AllReadyH.nil
          rw [if_pos (by rfl)]
          refine y_store (ty := 3) (x := .tmp 61) (y := .tmp 60) (ad := ⟨g + 1, r, none⟩) (v := .int .i64 x.n) (w' := w5.drew.setCell ⟨g + 1, r, none⟩ (.int .i64 x.n)) rfl rfl rfl hst ?_
          refine hK.out _ _ hS5 (fun hHeld => ?_)
          clear hK K
          simp only [Act.put]
          refine wpAnyH_done (by kernel_rfl) ?_ _
          refine NoPanic.normal ?_
          clear hHeld
          generalize w5.drew.setCell ⟨g + 1, r, none⟩ (.int .i64 x.n) = w6 at *
          go_wp2
          go_roundw
          case rel => exact ⟨j + 1, by omega, by go_num, HL6.out, HR6.out⟩
          case measure => simp [intOf]; omega
        · have hjl' : ¬ (j : Int) < (T'.length : Int) := by omega
          have hjj : T'.take j = T' := List.take_of_length_le (by omega)
          rw [hjj, ← HO.out] at hLj
          have HL6 : Hid _ := hLj
          clear hLj hRj
          go_wp2
          go_roundw
          case rel => exact ⟨i + 1, m4, S', u, by omega, by go_num, HL6.out, HAP.out⟩
          case measure => simp [intOf]; omega
    · have hlt' : ¬ (i : Int) < (m : Int) := by omega
      have hLn := qlen_any g mm S wr hL.bf
      have hSl : (S.length : Int) ≤ 64 := by have := hP.buf.len; omega
      have HB : Hid _ := hL.below
      clear hL hP HE
      go_wp2_with fail
      refine Calls.mono hLn ?_
      rintro ex w8 ⟨rfl, hw8⟩
      obtain rfl := hw8.symm
      clear hLn
      go_wp2
      go_ret
      exact ⟨rfl, HB.out⟩
end Go.Proofs.Ythpkpmcccpfabaa
