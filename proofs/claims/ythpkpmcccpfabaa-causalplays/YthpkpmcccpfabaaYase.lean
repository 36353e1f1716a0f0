/-
  What slices.AppendSeq(nil, seq) and slices.Collect(seq) come to, over whatever iterator.
-/
import Derived.Test.YthpkpmcccpfabaaYste
import Derived.Test.YthpkpmcccpfabaaYvle
import Derived.RangeFuncBound
import Derived.RangeFuncCalls
import Derived.RangeFuncLeaves
import Derived.Shelf.RegionOpen
namespace Go.Proofs.Ythpkpmcccpfabaa.E
set_option maxRecDepth 100000
set_option maxRecDepth 100000
open Go.RowKit Go.Shelf Go.Sort
attribute [local go_sem] Oper.semAt_some

theorem elB : El 60 74 #[Value.int IntKind.i64 0, Value.int IntKind.i64 0, Value.int IntKind.i64 0, Value.int IntKind.i64 0, Value.int IntKind.i64 0, Value.int IntKind.i64 0, Value.int IntKind.i64 0, Value.int IntKind.i64 0, Value.int IntKind.i64 0, Value.int IntKind.i64 0, Value.int IntKind.i64 0, Value.int IntKind.i64 0, Value.int IntKind.i64 0, Value.int IntKind.i64 0, Value.int IntKind.i64 0, Value.int IntKind.i64 0, Value.int IntKind.i64 0, Value.int IntKind.i64 0, Value.int IntKind.i64 0, Value.int IntKind.i64 0, Value.int IntKind.i64 0, Value.int IntKind.i64 0, Value.string { data := #[] }, Value.string { data := #[] }, Value.string { data := #[] }, Value.int IntKind.i64 0, Value.int IntKind.i64 0, Value.int IntKind.i64 0] 248 := ⟨Try.underlying60, by kernel_rfl, rfl, by decide⟩

/-- Between two rounds: the box holds a row of what has come. -/
def ApI (w : World) (Bs : Nat) (pre : List (It (Cx 26))) (W : World) : Prop := (∃ v, W.heap[Bs]? = some (.cells #[v] 60 (0, 0)) ∧ Rw 74 W w.heap.size v pre) ∧ Below w.heap.size w W
/-- Behind the assignment: the round's item lies in a block. -/
def ApA (tm : Nat → Array Value) (x : It (Cx 26)) (a' : Act) (W : World) : Prop := ∃ Bx, W.heap[Bx]? = some (.cells (xc x) 74 (0, 0)) ∧ a' = { tmps := tm Bx, defers := [] }

theorem Rw.grown {e : TypeId} {w w' : World} {base : Nat} {v : Value} {S : List (It (Cx 26))} {row : Option Nat} (h : Rw e w base v S) (hg : w.grownBy w' row) (hne : ∀ k, v.ownBlock = some k → row ≠ some k) : Rw e w' base v S :=
  h.keep fun k hk => hg.block k (h.lt k hk).2 (fun e => hne k hk e.symm)
theorem Rw.cellsAt {e : TypeId} {w : World} {base : Nat} {v : Value} {S : List (It (Cx 26))} (h : Rw e w base v S) : ∀ k, v.ownBlock = some k → ∃ cur, w.heap[k]? = some (.cells cur e (0, 0)) := by
  intro k hk
  rcases h.2 with ⟨rfl, -⟩ | ⟨g, cap, cur, rfl, hbg, hg, -⟩
  · cases hk
  · obtain rfl : g = k := by simpa [Value.ownBlock] using hk
    exact ⟨cur, hg⟩
theorem Rw.ne {e : TypeId} {w : World} {base : Nat} {v : Value} {S : List (It (Cx 26))} (h : Rw e w base v S) {j : Nat} {o : Obj} (hj : w.heap[j]? = some o) (hno : ∀ cur, o ≠ .cells cur e (0, 0)) : v.ownBlock ≠ some j := by
  intro hk
  obtain ⟨cur, hc⟩ := h.cellsAt j hk
  rw [hj] at hc
  exact hno cur (Option.some.inj hc)

theorem apI_own (w : World) (Bs B : Nat) (hB : w.heap.size ≤ B) : OwnFrom B (ApI w Bs) := fun pre W W' row ⟨⟨v, hv, hr⟩, hb⟩ hg hrow => by
  refine ⟨⟨v, ?_, ?_⟩, hb.grown hg hb.size (fun k e => by have := (hrow k e).1; omega)⟩
  · refine (hg.block Bs (Array.getElem?_eq_some_iff.1 hv).1 (fun e => ?_)).trans hv
    obtain ⟨-, o, ho, hc⟩ := hrow Bs e.symm
    rw [hv] at ho; cases ho; cases hc
  · refine hr.grown hg fun k hk e => ?_
    obtain ⟨-, o, ho, hc⟩ := hrow k e
    obtain ⟨cur, hcur⟩ := hr.cellsAt k hk
    rw [hcur] at ho; cases ho; cases hc
theorem apA_own (tm : Nat → Array Value) (x : It (Cx 26)) (a' : Act) (B : Nat) : OwnFrom B (fun (_ : Unit) W => ApA tm x a' W) := fun _ W W' row ⟨Bx, h, e⟩ hg hrow => by
  refine ⟨Bx, (hg.block Bx (Array.getElem?_eq_some_iff.1 h).1 (fun e => ?_)).trans h, e⟩
  obtain ⟨-, o, ho, hc⟩ := hrow Bx e.symm
  rw [h] at ho; cases ho; cases hc

/-- 'append' whose run is known. -/
theorem wpListIn_appR {F : Fence} {n : Nat} {P : Program} {w : World} {ops : Array Oper} {rest : List Oper} {o : Oper} {a : Act} {Q : Exit → Act → World → Prop} (hg : o.guard = none) (s x : Operand) (T : TypeId) (hop : o.op = Op.call { callee := Callee.builtin Builtin.append, args := #[s, x], argTypes := #[T, T] })
    (v y v' : Value) (w' : World) (hs : a.eval s = v) (hx : a.eval x = y) (hr : (Builtin.append_ #[T, T] o.type #[v, y]).run P w = .ok v' w') (hK : wpListIn F n P ops Q rest (a.put o.dst v') w') : wpListIn F n P ops Q (o :: rest) a w := by
  refine wpListIn_plain hg fun K hK' => ?_
  unfold Oper.wpIn
  refine ⟨by simp [Oper.about, hop, resolve, Target.leads, Sem.run_pure], ?_⟩
  rw [Oper.semAt_plain F _ _ (by rw [hop]; intro c hc'; cases hc')]
  simp only [execOp, hop, resolve, invoke, builtin, Sem.run_bind, Sem.run_pure, Result.andThen_ok, List.map_toArray, List.map_cons, List.map_nil, hs, hx, hr]
  exact hK' _ _ hK

set_option maxHeartbeats 2000000 in
theorem appendseq_in (n : Nat) (hn : 2 ≤ n) (g : Nat) (lb : Array Value) (eg : ∀ args w, (callFunc g args).run Try.prog w = .ok (.enter g args) w)
    (S Sp : List (It (Cx 26)) → Prop) (N : Nat) (hN : N ≤ 1048576) (w : World) (hseq : SeqStopsK Fence.wide (n - 1) Try.prog g lb (fun i : It (Cx 26) => #[.agg (xc i)]) KeepsWalks S Sp N w) :
    CallsIn Fence.wide n Try.prog 65 #[.slice none 0 0, .func (.func g) #[] lb] w fun e w' => ∃ v xs, e = .returned v ∧ S xs ∧ Rw 74 w' w.heap.size v xs ∧ Below w.heap.size w w' := by
  have h1 : 1 ≤ n := by omega
  refine callsIn_of_wp_marks Try.func65 rfl trivial ?_ rfl
  simp only [Try.ntmps65, List.size_toArray, List.length_cons, List.length_nil, Nat.reduceAdd, Nat.reduceSub, Array.replicate_succ, Array.replicate_zero, List.push_toArray, List.append_toArray, List.nil_append, List.cons_append]
  gi_wp2
  have hbw : Below w.heap.size w (w.alloc (.cells #[.slice none 0 0] 60)) := (Below.refl _ w).alloc (Nat.le_refl _) _
  have hI0 : ApI w w.heap.size [] (w.alloc (.cells #[.slice none 0 0] 60)) := ⟨⟨_, heap_alloc_new w _, rw_nil _ _ _⟩, hbw⟩
  have hsz : (w.alloc (.cells #[.slice none 0 0] 60)).heap.size = w.heap.size + 1 := by simp
  refine wpIn_rangeFunc_ownH rfl h1 (gf := g) (lb := lb) rfl trivial eg hseq walksK_t walksK_b hbw (fun _ => rfl)
    (ApI w w.heap.size) (fun _ _ _ => False) (apI_own w w.heap.size _ (by rw [hsz]; omega)) (fun _ _ _ _ _ h _ _ => h) hI0
    (fun x => ApA (fun Bx => #[.slice none 0 0, .func (.func g) #[] lb, .pointer (some ⟨w.heap.size, 0, none⟩), undef, .slice none 0 0, .pointer (some ⟨Bx, 0, none⟩), .func (.func g) #[] lb, .agg (xc x), undef, undef, undef, undef, undef]) x)
    (fun x a' => apA_own _ x a' _) ?assign ?body ?done ?stop
  case assign =>
    intro l pre x W K hi hK
    have hst := st_new W x
    gi_wp2_with (first
      | (refine wpListIn_storeR (ty := 74) (x := .tmp 5) (y := .tmp 7) (ad := ⟨W.heap.size, 0, none⟩) (v := .agg (xc x)) (w' := W.alloc (.cells (xc x) 74)) rfl rfl rfl rfl hst ?_)
      | gi_in)
    exact hK _ _ ((KeepsOthers.alloc _ _).from _) (KeepsWalks.alloc _ _) ((apI_own w w.heap.size w.heap.size (Nat.le_refl _)).alloc _ hi) ⟨W.heap.size, heap_alloc_new W _, rfl⟩
  case body =>
    rintro l pre x a' W hl hr ⟨⟨v, hv, hrow⟩, hb⟩ ⟨Bx, hx, rfl⟩ hlt
    have c0 : W.cell? ⟨w.heap.size, 0, none⟩ = some v := cell_of_row W _ 0 _ _ _ hv
    have hld := ld_at hx
    have hbd := run_build1 elB W x
    obtain ⟨v', w', happ, hrow', hg', hown'⟩ := run_app1 elB (w := W.alloc (.cells (xc x) 74)) 60 w.heap.size v pre (hrow.alloc _) ⟨W.heap.size, 0, none⟩ 1 x (ats_new W _ x) (by omega) (by have := hb.size; simp; omega)
    have hvl := hrow.val
    obtain ⟨ao', cap', hv', -, -⟩ := hrow'.val
    have hne := hrow.ne hv (fun cur e => by cases e)
    have hv2 : w'.heap[w.heap.size]? = some (.cells #[v] 60 (0, 0)) := (hg'.block _ (by have := (Array.getElem?_eq_some_iff.1 hv).1; simp; omega) (fun e => hne e.symm)).trans ((Below.heap_alloc W _ _ (Array.getElem?_eq_some_iff.1 hv).1).trans hv)
    have c1 : w'.cell? ⟨w.heap.size, 0, none⟩ = some v := cell_of_row w' _ 0 _ _ _ hv2
    have f1 : w'.frozen? ⟨w.heap.size, 0, none⟩ = false := frozen_of_row w' _ 0 _ _ hv2
    have ko : KeepsOthers W (w'.setCell ⟨w.heap.size, 0, none⟩ v') := ((KeepsOthers.alloc W _).trans (KeepsOthers.of_grownBy hg' (fun j o hj ho => by
      obtain ⟨cur, hc⟩ := (hrow.alloc (.cells (xc x) 74)).cellsAt j hj
      rw [hc] at ho; cases ho; rfl))).trans (KeepsOthers.setCell _ _ _)
    have hne' := hrow'.ne hv2 (fun cur e => by cases e)
    have hgs : w'.grownBy (w'.setCell ⟨w.heap.size, 0, none⟩ v') (some w.heap.size) := ⟨rfl, rfl, rfl, by simp [World.setCell], fun k _ hk => Below.heap_setCell _ _ _ k (fun e => hk (by rw [e]))⟩
    have hb2 : Below w.heap.size w (w'.setCell ⟨w.heap.size, 0, none⟩ v') := ((hb.alloc hb.size _).grown hg' (by have := hb.size; simp; omega) (fun k e => (hrow.lt k e).1)).grown hgs (by have := hb.size; have := hg'.size; simp at this; omega) (fun k e => by cases e; exact Nat.le_refl _)
    have hfin : ApI w w.heap.size (pre ++ [x]) (w'.setCell ⟨w.heap.size, 0, none⟩ v') := ⟨⟨v', by rw [heap_setCell_same _ _ 0 _ _ _ hv2]; rfl, hrow'.grown hgs (fun k hk e => hne' (by rw [hk, ← e]))⟩, hb2⟩
    have FIN : Hid (KeepsFrom (w.alloc (.cells #[.slice none 0 0] 60)).heap.size W (w'.setCell ⟨w.heap.size, 0, none⟩ v') ∧ KeepsWalks W (w'.setCell ⟨w.heap.size, 0, none⟩ v') ∧ ApI w w.heap.size (pre ++ [x]) (w'.setCell ⟨w.heap.size, 0, none⟩ v')) := ⟨ko.from _, ko.walks, hfin⟩
    obtain ⟨ao, cap, rfl, -, -⟩ := hvl
    subst hv'
    generalize (pre ++ [x]).length = m at *
    clear ko hne' hgs hb2 hfin hg' hown' hrow' hrow hv hv2 hx hne hl hr hseq hI0 hbw
    gi_wp2_with (first | (refine wpListIn_loadR (ty := 74) (x := .tmp 5) (ad := ⟨Bx, 0, none⟩) (v := .agg (xc x)) rfl rfl rfl hld ?_) | (refine wpListIn_buildR (ty := 60) (k := 1) (x := .tmp 9) (u := .agg (xc x)) (v := .slice (some ⟨W.heap.size, 0, none⟩) 1 1) (w' := W.alloc (.cells (xc x) 74)) rfl rfl rfl hbd ?_) | (gi_at_builtin; refine wpListIn_appR rfl _ _ 60 rfl _ _ _ _ rfl rfl happ ?_) | gi_in)
    exact FIN.out
  case done =>
    rintro D xs W hD hS ⟨⟨v, hv, hrow⟩, hb⟩ hK
    have c0 : W.cell? ⟨w.heap.size, 0, none⟩ = some v := cell_of_row W _ 0 _ _ _ hv
    have hR2 : Rw 74 (W.putObj D (.deferred none)) w.heap.size v xs := hrow.grown (grownBy_putObj' W D _) (fun k hk e => by
      obtain ⟨cur, hc⟩ := hrow.cellsAt k hk
      cases e
      rw [hK] at hc; cases hc)
    have hb2 : Below w.heap.size w (W.putObj D (.deferred none)) := hb.grown (grownBy_putObj' W D _) hb.size (fun k e => by cases e; rw [hsz] at hD; omega)
    clear hseq hI0 hbw
    gi_wp2
    refine ⟨by simp, .inl ⟨_, _, rfl, run_takeDeferred hK, ?_⟩⟩
    exact ⟨_, results_tmp rfl _ _ _, v, xs, rfl, hS, hR2, hb2⟩
  case stop =>
    rintro D c pre W _ _ h _
    exact h.elim
end Go.Proofs.Ythpkpmcccpfabaa.E
