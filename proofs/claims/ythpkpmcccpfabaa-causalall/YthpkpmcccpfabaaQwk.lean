/-
  What awake comes to; CausalNil.
-/
import Derived.Test.YthpkpmcccpfabaaQof
namespace Go.Proofs.Ythpkpmcccpfabaa
set_option maxRecDepth 100000
open Go.RowKit

def awE : Ev := ⟨0, 1, 0, zeros, 11, [107], [], [], 0, 0, 0⟩
theorem aw_ok : okev awE = true := by kernel_rfl
theorem aw_wide : Wide awE := ⟨rfl, by simp [awE], by simp [awE], by simp [awE]⟩
theorem aw_b1 (w : World) : (Instr.build 38 #[(1, .int .i64 1)]).run Try.prog w = .ok (.agg (dotc 0 1)) w := by kernel_rfl
theorem aw_b2 (w : World) : (Instr.build 42 #[(0, .int .i64 11), (1, .string ⟨#[107]⟩)]).run Try.prog w = .ok (.agg (opc awE)) w := by kernel_rfl
theorem aw_b3 (w : World) : (Instr.build 44 #[(0, .agg (dotc 0 1)), (3, .agg (opc awE))]).run Try.prog w = .ok (.agg (evc awE)) w := by kernel_rfl
theorem aw_b4 (w : World) : (Instr.build 40 #[]).run Try.prog w = .ok (.agg (vals zeros)) w := by kernel_rfl
theorem aw_takes : takesE [] awE zeros = true := by
  unfold takesE
  rw [aw_ok]
  rfl
theorem aw_off {T S' : List Ev} {u : List Int} (h : Off [] awE zeros T S' u) : T = [awE] ∧ S' = [] := by
  obtain ⟨L, hT, hS⟩ := h
  have ho : offS [] awE zeros = [awE] := by unfold offS; rw [aw_takes]; rfl
  rw [ho] at hT hS
  have h1 : runQ 1 [awE] zeros = ([awE], [], seeV zeros awE) := by
    have hm : mayE awE zeros = true := by kernel_rfl
    rw [runQ, runQ]
    simp [stepQ, List.findIdx?_cons, hm]
  obtain ⟨rfl, rfl, rfl⟩ := hT.one ⟨1, h1, rfl⟩
  refine ⟨rfl, ?_⟩
  rw [hS]
  have : hasv (seeV zeros awE) awE.r awE.n = true := by kernel_rfl
  simp [this]
section
variable {P : Program} {w : World} {ops : Array Oper} {rest : List Oper} {o : Oper} {a : Act} {Q : Exit → Act → World → Prop} {x y z : Operand} {ty : TypeId} {v p q r : Value} {i j k : Nat}
theorem wpList_b1 (hw : Region.wanted o (yielded ops a.tmps) = true) (ho : o.op = .build ty #[(i, x)]) (hx : a.eval x = p) (hr : (Instr.build ty #[(i, p)]).run P w = .ok v w) (hK : wpList P ops Q rest (a.put o.dst v) w) : wpList P ops Q (o :: rest) a w := by
  refine wpList_step fun K hK' => ?_
  rw [if_pos hw]
  unfold Oper.wp execOp
  simp only [ho, List.map_toArray, List.map_cons, List.map_nil, hx, Sem.run_bind, Sem.run_pure, Result.andThen_ok, hr]
  exact hK' _ _ hK
theorem wpList_b2 (hw : Region.wanted o (yielded ops a.tmps) = true) (ho : o.op = .build ty #[(i, x), (j, y)]) (hx : a.eval x = p) (hy : a.eval y = q) (hr : (Instr.build ty #[(i, p), (j, q)]).run P w = .ok v w) (hK : wpList P ops Q rest (a.put o.dst v) w) : wpList P ops Q (o :: rest) a w := by
  refine wpList_step fun K hK' => ?_
  rw [if_pos hw]
  unfold Oper.wp execOp
  simp only [ho, List.map_toArray, List.map_cons, List.map_nil, hx, hy, Sem.run_bind, Sem.run_pure, Result.andThen_ok, hr]
  exact hK' _ _ hK
theorem wpList_b3 (hw : Region.wanted o (yielded ops a.tmps) = true) (ho : o.op = .build ty #[(i, x), (j, y), (k, z)]) (hx : a.eval x = p) (hy : a.eval y = q) (hz : a.eval z = r) (hr : (Instr.build ty #[(i, p), (j, q), (k, r)]).run P w = .ok v w) (hK : wpList P ops Q rest (a.put o.dst v) w) : wpList P ops Q (o :: rest) a w := by
  refine wpList_step fun K hK' => ?_
  rw [if_pos hw]
  unfold Oper.wp execOp
  simp only [ho, List.map_toArray, List.map_cons, List.map_nil, hx, hy, hz, Sem.run_bind, Sem.run_pure, Result.andThen_ok, hr]
  exact hK' _ _ hK
end
theorem wpList_b0 {P : Program} {w : World} {ops : Array Oper} {rest : List Oper} {o : Oper} {a : Act} {Q : Exit → Act → World → Prop} {ty : TypeId} {v : Value} (hw : Region.wanted o (yielded ops a.tmps) = true) (ho : o.op = .build ty #[]) (hr : (Instr.build ty #[]).run P w = .ok v w) (hK : wpList P ops Q rest (a.put o.dst v) w) : wpList P ops Q (o :: rest) a w := by
  refine wpList_step fun K hK' => ?_
  rw [if_pos hw]
  unfold Oper.wp execOp
  simp only [ho, List.map_toArray, List.map_nil, Sem.run_bind, Sem.run_pure, Result.andThen_ok, hr]
  exact hK' _ _ hK
theorem Tn.low {g B : Nat} {m m' : Option Nat} {w W W' : World} (hb : Below B w W) (h : Tn g m m' W W') (hB : B ≤ W.heap.size) (hg : B ≤ g) (hm : ∀ k, m = some k → B ≤ k) : Below B w W' ∧ ∀ k, m' = some k → B ≤ k :=
  ⟨hb.trans (h.below hB hg hm), fun k hk => by rcases h.own k hk with h1 | h1; · exact hm k h1
                                               · omega⟩
set_option maxHeartbeats 1000000 in
theorem qawake_any (w : World) : Calls Try.prog 8 #[] w fun e w' => e = .returned (.bool true) ∧ Below w.heap.size w w' := by
  have hN := qnew_any w
  have hF0 := bf_new w
  have hb0 : Below w.heap.size w (w.alloc (.cells #[.map none] 34)) := (Below.refl _ w).alloc (Nat.le_refl _) _
  generalize hW0 : w.alloc (.cells #[.map none] 34) = W0 at *
  obtain ⟨g, hg⟩ : ∃ g, w.heap.size = g := ⟨_, rfl⟩
  rw [hg] at hN hF0 hb0 ⊢
  have hOf := offer_any g none [] awE zeros aw_wide rfl W0 hF0 Buf.nil (fun _ h => by simp at h)
  have hne := eql_pb W0 ⟨g, 0, none⟩
  have hb1 := aw_b1 W0
  have hb2 := aw_b2 W0
  have hb3 := aw_b3 W0
  have hb4 := aw_b4 W0
  have HB0 : Hid (Below g w W0) := hb0
  have hsz : g ≤ W0.heap.size := hg ▸ hb0.size
  clear hF0 hb0
  go_enter Try.func8, Try.ntmps8
  go_wp2_with fail
  refine Calls.mono hN ?_
  rintro e w1 ⟨rfl, hw1⟩
  obtain rfl := hw1.symm
  go_wp2_with (first
    | (refine wpList_b1 (ty := 38) (i := 1) (x := .const (.int .i64 1)) (p := .int .i64 1) (v := .agg (dotc 0 1)) rfl rfl rfl hb1 ?_)
    | (refine wpList_b2 (ty := 42) (i := 0) (j := 1) (x := .const (.int .i64 11)) (y := .const (.string ⟨#[107]⟩)) (p := .int .i64 11) (q := .string ⟨#[107]⟩) (v := .agg (opc awE)) rfl rfl rfl rfl hb2 ?_)
    | (refine wpList_b2 (ty := 44) (i := 0) (j := 3) (x := .tmp 7) (y := .tmp 8) (p := .agg (dotc 0 1)) (q := .agg (opc awE)) (v := .agg (evc awE)) rfl rfl rfl rfl hb3 ?_)
    | (refine wpList_b0 (ty := 40) (v := .agg (vals zeros)) rfl rfl hb4 ?_))
  refine Calls.mono hOf ?_
  rintro e w2 ⟨vt, T, S', u, m', rfl, hO, -, hr2, hB2, ht2⟩
  obtain ⟨rfl, rfl⟩ := aw_off hO
  have HB2 : Hid (Below g w w2) := (Tn.low HB0.out ht2 hsz (Nat.le_refl _) (fun k e => by cases e)).1
  have hL := qlen_any g m' [] w2 hB2
  obtain ⟨ao, cap, hvt, -⟩ := hr2.evs (fun e he => by rw [List.mem_singleton.1 he]; exact aw_wide)
  subst hvt
  clear hOf hO hr2 hB2 ht2 hb1 hb2 hb3 hb4 hne hN
  go_wp2_with fail
  refine Calls.mono hL ?_
  rintro e w3 ⟨rfl, hw3⟩
  obtain rfl := hw3.symm
  go_wp2
  go_ret
  exact ⟨rfl, HB2.out⟩
theorem offer_nil (e : Ev) (v : List Int) (w : World) : Calls Try.prog 11 #[.pointer none, .agg (evc e), .agg (vals v)] w fun ex w' => ex = .returned (.slice none 0 0) ∧ Below w.heap.size w w' := by
  have hb0 : Below w.heap.size w ((w.alloc (.cells (evc e) 44)).alloc (.cells (vals v) 40)) := ((Below.refl _ w).alloc (Nat.le_refl _) _).alloc (by simp) _
  have he : ∀ W, (binOp .eql 24 (.pointer none) (.pointer none)).run Try.prog W = .ok (.bool true) W := fun W => by kernel_rfl
  go_enter Try.func11, Try.ntmps11
  go_wp2
  go_ret
  exact ⟨rfl, hb0⟩
set_option maxHeartbeats 1000000 in
theorem lnil_walk (e : Ev) (v : List Int) (he16 : e.deps.length = 16) (hv : v.length = 16) (w : World) : Calls Try.prog 6 #[.agg (evc e), .agg (vals v)] w fun ex w' => ex = .returned (.bool true) ∧ Below w.heap.size w w' := by
  have hb0 : Below w.heap.size w ((w.alloc (.cells (evc e) 44)).alloc (.cells (vals v) 40)) := ((Below.refl _ w).alloc (Nat.le_refl _) _).alloc (by simp) _
  have hE0 := (liesE_new w e).alloc (.cells (vals v) 40)
  have hV0 : Lies ((w.alloc (.cells (evc e) 44)).alloc (.cells (vals v) 40)) (w.heap.size + 1) v := by
    have := lies_new (w.alloc (.cells (evc e) 44)) v
    rwa [World.size_alloc] at this
  generalize hW0 : (w.alloc (.cells (evc e) 44)).alloc (.cells (vals v) 40) = W0 at *
  have hA := qawake_any W0
  go_enter Try.func6, Try.ntmps6
  go_wp2_with fail
  refine Calls.mono hA ?_
  rintro ex w1 ⟨rfl, hb1⟩
  have hE1 := hE0.below hb1 hE0.lt
  have hlv := load_v (hV0.below hb1 hV0.lt) hv
  have HB1 : Hid (Below w.heap.size w w1) := hb0.trans (hb1.mono hb0.size)
  have hO := offer_nil e v w1
  clear hb0 hE0 hV0 hb1 hA
  go_wp2_with (first
    | refine load_ev rfl rfl rfl hE1 he16 ?_
    | (refine wpList_loadR (ty := 40) (x := .tmp 3) (ad := ⟨w.heap.size + 1, 0, none⟩) (v := .agg (vals v)) rfl rfl rfl hlv ?_))
  refine Calls.mono hO ?_
  rintro ex w2 ⟨rfl, hb2⟩
  have HB2 : Hid (Below w.heap.size w w2) := HB1.out.trans (hb2.mono HB1.out.size)
  have hL := qlen_nil w2
  clear hlv hE1 hO hb2 HB1
  go_wp2_with fail
  refine Calls.mono hL ?_
  rintro ex w3 ⟨rfl, hw3⟩
  obtain rfl := hw3.symm
  go_wp2
  go_ret
  exact ⟨rfl, HB2.out⟩
end Go.Proofs.Ythpkpmcccpfabaa
