/-
  What slices.AppendSeq(nil, seq) and slices.Collect(seq) come to, over whatever iterator.
-/
import Derived.Test.YtmlfekbmbnfkjabGreatDoorQ41
import Derived.Test.YtmlfekbmbnfkjabGreatDoorQ37
import Derived.RangeFuncBound
import Derived.RangeFuncCalls
import Derived.RangeFuncLeaves
import Derived.Shelf.RegionOpen
import Derived.Test.YtmlfekbmbnfkjabGreatDoorQ12
namespace Go.Proofs.YtmlfekbmbnfkjabGreatDoor.E
set_option maxRecDepth 100000
set_option maxRecDepth 100000
open Go.RowKit Go.Shelf Go.Sort
attribute [local go_sem] Oper.semAt_some

theorem elB : El 121 112 #[Value.int IntKind.i64 0, Value.int IntKind.i64 0, Value.int IntKind.i64 0, Value.int IntKind.i64 0, Value.int IntKind.i64 0, Value.int IntKind.i64 0, Value.int IntKind.i64 0, Value.int IntKind.i64 0, Value.int IntKind.i64 0, Value.int IntKind.i64 0, Value.int IntKind.i64 0, Value.int IntKind.i64 0, Value.int IntKind.i64 0, Value.int IntKind.i64 0, Value.int IntKind.i64 0, Value.int IntKind.i64 0, Value.int IntKind.i64 0, Value.int IntKind.i64 0, Value.int IntKind.i64 0, Value.int IntKind.i64 0, Value.int IntKind.i64 0, Value.int IntKind.i64 0, Value.string { data := #[] }, Value.string { data := #[] }, Value.string { data := #[] }, Value.int IntKind.i64 0, Value.int IntKind.i64 0, Value.int IntKind.i64 0] 248 := ⟨Tryz.underlying121, by kernel_rfl, rfl, by decide⟩

/-- Between two rounds: the box holds a row of what has come. -/
def ApI (w : World) (Bs : Nat) (pre : List (It (Cx 26))) (W : World) : Prop := (∃ v, W.heap[Bs]? = some (.cells #[v] 121 (0, 0)) ∧ Rw 112 W w.heap.size v pre) ∧ Below w.heap.size w W
/-- Behind the assignment: the round's item lies in a block. -/
def ApA (tm : Nat → Array Value) (x : It (Cx 26)) (a' : Act) (W : World) : Prop := ∃ Bx, W.heap[Bx]? = some (.cells (xc x) 112 (0, 0)) ∧ a' = { tmps := tm Bx, defers := [] }

theorem Rw.grown {e : TypeId} {w w' : World} {base : Nat} {v : Value} {S : List (It (Cx 26))} {row : Option Nat} (h : Rw e w base v S) (hg : w.grownBy w' row) (hne : ∀ k, v.ownBlock = some k → row ≠ some k) : Rw e w' base v S :=
  h.keep fun k hk => hg.block k (h.lt k hk).2 (fun e => hne k hk e.symm)
theorem Rw.cellsAt {e : TypeId} {w : World} {base : Nat} {v : Value} {S : List (It (Cx 26))} (h : Rw e w base v S) : ∀ k, v.ownBlock = some k → ∃ cur, w.heap[k]? = some (.cells cur e (0, 0)) := by
  intro k hk
  rcases h.2 with ⟨rfl, -⟩ | ⟨g, cap, cur, rfl, hbg, hg, -⟩
  · cases hk
  · obtain rfl : g = k := by simpa [Value.ownBlock] using hk
    exact ⟨cur, hg⟩
theorem Rw.ne {e : TypeId} {w : World} {base : Nat} {v : Value} {S : List (It (Cx 26))} (h : Rw e w base v S) {j : Nat} {o : Obj} (hj : w.heap[j]? = some o) (hno : ∀ cur, o ≠ .cells cur e (0, 0)) : v.ownBlock ≠ some j := by
  intro hk
  obtain ⟨cur, hc⟩ := h.cellsAt j hk
  rw [hj] at hc
  exact hno cur (Option.some.inj hc)

theorem apI_own (w : World) (Bs B : Nat) (hB : w.heap.size ≤ B) : OwnFrom B (ApI w Bs) := fun pre W W' row ⟨⟨v, hv, hr⟩, hb⟩ hg hrow => by
  refine ⟨⟨v, ?_, ?_⟩, hb.grown hg hb.size (fun k e => by have := (hrow k e).1; omega)⟩
  · refine (hg.block Bs (Array.getElem?_eq_some_iff.1 hv).1 (fun e => ?_)).trans hv
    obtain ⟨-, o, ho, hc⟩ := hrow Bs e.symm
    rw [hv] at ho; cases ho; cases hc
  · refine hr.grown hg fun k hk e => ?_
    obtain ⟨-, o, ho, hc⟩ := hrow k e
    obtain ⟨cur, hcur⟩ := hr.cellsAt k hk
    rw [hcur] at ho; cases ho; cases hc
theorem apA_own (tm : Nat → Array Value) (x : It (Cx 26)) (a' : Act) (B : Nat) : OwnFrom B (fun (_ : Unit) W => ApA tm x a' W) := fun _ W W' row ⟨Bx, h, e⟩ hg hrow => by
  refine ⟨Bx, (hg.block Bx (Array.getElem?_eq_some_iff.1 h).1 (fun e => ?_)).trans h, e⟩
  obtain ⟨-, o, ho, hc⟩ := hrow Bx e.symm
  rw [h] at ho; cases ho; cases hc

/-- 'append' whose run is known. -/
theorem wpListIn_appR {F : Fence} {n : Nat} {P : Program} {w : World} {ops : Array Oper} {rest : List Oper} {o : Oper} {a : Act} {Q : Exit → Act → World → Prop} (hg : o.guard = none) (s x : Operand) (T : TypeId) (hop : o.op = Op.call { callee := Callee.builtin Builtin.append, args := #[s, x], argTypes := #[T, T] })
    (v y v' : Value) (w' : World) (hs : a.eval s = v) (hx : a.eval x = y) (hr : (Builtin.append_ #[T, T] o.type #[v, y]).run P w = .ok v' w') (hK : wpListIn F n P ops Q rest (a.put o.dst v') w') : wpListIn F n P ops Q (o :: rest) a w := by
  refine wpListIn_plain hg fun K hK' => ?_
  unfold Oper.wpIn
  refine ⟨by simp [Oper.about, hop, resolve, Target.leads, Sem.run_pure], ?_⟩
  rw [Oper.semAt_plain F _ _ (by rw [hop]; intro c hc'; cases hc')]
  simp only [execOp, hop, resolve, invoke, builtin, Sem.run_bind, Sem.run_pure, Result.andThen_ok, List.map_toArray, List.map_cons, List.map_nil, hs, hx, hr]
  exact hK' _ _ hK

set_option maxHeartbeats 2000000 in
theorem appendseq_in (n : Nat) (hn : 2 ≤ n) (g : Nat) (lb : Array Value) (eg : ∀ args w, (callFunc g args).run Tryz.prog w = .ok (.enter g args) w)
    (S Sp : List (It (Cx 26)) → Prop) (N : Nat) (hN : N ≤ 1048576) (w : World) (hseq : SeqStopsK Fence.wide (n - 1) Tryz.prog g lb (fun i : It (Cx 26) => #[.agg (xc i)]) KeepsWalks S Sp N w) :
    CallsIn Fence.wide n Tryz.prog 209 #[.slice none 0 0, .func (.func g) #[] lb] w fun e w' => ∃ v xs, e = .returned v ∧ S xs ∧ Rw 112 w' w.heap.size v xs ∧ Below w.heap.size w w' := by
  have h1 : 1 ≤ n := by omega
  refine callsIn_of_wp_marks Tryz.func209 rfl trivial ?_ rfl
  simp only [Tryz.ntmps209, List.size_toArray, List.length_cons, List.length_nil, Nat.reduceAdd, Nat.reduceSub, Array.replicate_succ, Array.replicate_zero, List.push_toArray, List.append_toArray, List.nil_append, List.cons_append]
  gi_wp2
  have hbw : Below w.heap.size w (w.alloc (.cells #[.slice none 0 0] 121)) := (Below.refl _ w).alloc (Nat.le_refl _) _
  have hI0 : ApI w w.heap.size [] (w.alloc (.cells #[.slice none 0 0] 121)) := ⟨⟨_, heap_alloc_new w _, rw_nil _ _ _⟩, hbw⟩
  have hsz : (w.alloc (.cells #[.slice none 0 0] 121)).heap.size = w.heap.size + 1 := by simp
  refine wpIn_rangeFunc_ownH rfl h1 (gf := g) (lb := lb) rfl trivial eg hseq walksK_t walksK_b hbw (fun _ => rfl)
    (ApI w w.heap.size) (fun _ _ _ => False) (apI_own w w.heap.size _ (by rw [hsz]; omega)) (fun _ _ _ _ _ h _ _ => h) hI0
    (fun x => ApA (fun Bx => #[.slice none 0 0, .func (.func g) #[] lb, .pointer (some ⟨w.heap.size, 0, none⟩), undef, .slice none 0 0, .pointer (some ⟨Bx, 0, none⟩), .func (.func g) #[] lb, .agg (xc x), undef, undef, undef, undef, undef]) x)
    (fun x a' => apA_own _ x a' _) ?assign ?body ?done ?stop
  case assign =>
    intro l pre x W K hi hK
    have hst := st_new W x
    gi_wp2_with (first
      | (refine wpListIn_storeR (ty := 112) (x := .tmp 5) (y := .tmp 7) (ad := ⟨W.heap.size, 0, none⟩) (v := .agg (xc x)) (w' := W.alloc (.cells (xc x) 112)) rfl rfl rfl rfl hst ?_)
      | gi_in)
    exact hK _ _ ((KeepsOthers.alloc _ _).from _) (KeepsWalks.alloc _ _) ((apI_own w w.heap.size w.heap.size (Nat.le_refl _)).alloc _ hi) ⟨W.heap.size, heap_alloc_new W _, rfl⟩
  case body =>
    rintro l pre x a' W hl hr ⟨⟨v, hv, hrow⟩, hb⟩ ⟨Bx, hx, rfl⟩ hlt
    have c0 : W.cell? ⟨w.heap.size, 0, none⟩ = some v := cell_of_row W _ 0 _ _ _ hv
    have hld := ld_at hx
    have hbd := run_build1 elB W x
    obtain ⟨v', w', happ, hrow', hg', hown'⟩ := run_app1 elB (w := W.alloc (.cells (xc x) 112)) 121 w.heap.size v pre (hrow.alloc _) ⟨W.heap.size, 0, none⟩ 1 x (ats_new W _ x) (by omega) (by have := hb.size; simp; omega)
    have hvl := hrow.val
    obtain ⟨ao', cap', hv', -, -⟩ := hrow'.val
    have hne := hrow.ne hv (fun cur e => by cases e)
    have hv2 : w'.heap[w.heap.size]? = some (.cells #[v] 121 (0, 0)) := (hg'.block _ (by have := (Array.getElem?_eq_some_iff.1 hv).1; simp; omega) (fun e => hne e.symm)).trans ((Below.heap_alloc W _ _ (Array.getElem?_eq_some_iff.1 hv).1).trans hv)
    have c1 : w'.cell? ⟨w.heap.size, 0, none⟩ = some v := cell_of_row w' _ 0 _ _ _ hv2
    have f1 : w'.frozen? ⟨w.heap.size, 0, none⟩ = false := frozen_of_row w' _ 0 _ _ hv2
    have ko : KeepsOthers W (w'.setCell ⟨w.heap.size, 0, none⟩ v') := ((KeepsOthers.alloc W _).trans (KeepsOthers.of_grownBy hg' (fun j o hj ho => by
      obtain ⟨cur, hc⟩ := (hrow.alloc (.cells (xc x) 112)).cellsAt j hj
      rw [hc] at ho; cases ho; rfl))).trans (KeepsOthers.setCell _ _ _)
    have hne' := hrow'.ne hv2 (fun cur e => by cases e)
    have hgs : w'.grownBy (w'.setCell ⟨w.heap.size, 0, none⟩ v') (some w.heap.size) := ⟨rfl, rfl, rfl, by simp [World.setCell], fun k _ hk => Below.heap_setCell _ _ _ k (fun e => hk (by rw [e]))⟩
    have hb2 : Below w.heap.size w (w'.setCell ⟨w.heap.size, 0, none⟩ v') := ((hb.alloc hb.size _).grown hg' (by have := hb.size; simp; omega) (fun k e => (hrow.lt k e).1)).grown hgs (by have := hb.size; have := hg'.size; simp at this; omega) (fun k e => by cases e; exact Nat.le_refl _)
    have hfin : ApI w w.heap.size (pre ++ [x]) (w'.setCell ⟨w.heap.size, 0, none⟩ v') := ⟨⟨v', by rw [heap_setCell_same _ _ 0 _ _ _ hv2]; rfl, hrow'.grown hgs (fun k hk e => hne' (by rw [hk, ← e]))⟩, hb2⟩
    have FIN : Hid (KeepsFrom (w.alloc (.cells #[.slice none 0 0] 121)).heap.size W (w'.setCell ⟨w.heap.size, 0, none⟩ v') ∧ KeepsWalks W (w'.setCell ⟨w.heap.size, 0, none⟩ v') ∧ ApI w w.heap.size (pre ++ [x]) (w'.setCell ⟨w.heap.size, 0, none⟩ v')) := ⟨ko.from _, ko.walks, hfin⟩
    obtain ⟨ao, cap, rfl, -, -⟩ := hvl
    subst hv'
    generalize (pre ++ [x]).length = m at *
    clear ko hne' hgs hb2 hfin hg' hown' hrow' hrow hv hv2 hx hne hl hr hseq hI0 hbw
    gi_wp2_with (first | (refine wpListIn_loadR (ty := 112) (x := .tmp 5) (ad := ⟨Bx, 0, none⟩) (v := .agg (xc x)) rfl rfl rfl hld ?_) | (refine wpListIn_buildR (ty := 121) (k := 1) (x := .tmp 9) (u := .agg (xc x)) (v := .slice (some ⟨W.heap.size, 0, none⟩) 1 1) (w' := W.alloc (.cells (xc x) 112)) rfl rfl rfl hbd ?_) | (gi_at_builtin; refine wpListIn_appR rfl _ _ 121 rfl _ _ _ _ rfl rfl happ ?_) | gi_in)
    exact FIN.out
  case done =>
    rintro D xs W hD hS ⟨⟨v, hv, hrow⟩, hb⟩ hK
    have c0 : W.cell? ⟨w.heap.size, 0, none⟩ = some v := cell_of_row W _ 0 _ _ _ hv
    have hR2 : Rw 112 (W.putObj D (.deferred none)) w.heap.size v xs := hrow.grown (grownBy_putObj' W D _) (fun k hk e => by
      obtain ⟨cur, hc⟩ := hrow.cellsAt k hk
      cases e
      rw [hK] at hc; cases hc)
    have hb2 : Below w.heap.size w (W.putObj D (.deferred none)) := hb.grown (grownBy_putObj' W D _) hb.size (fun k e => by cases e; rw [hsz] at hD; omega)
    clear hseq hI0 hbw
    gi_wp2
    refine ⟨by simp, .inl ⟨_, _, rfl, run_takeDeferred hK, ?_⟩⟩
    exact ⟨_, results_tmp rfl _ _ _, v, xs, rfl, hS, hR2, hb2⟩
  case stop =>
    rintro D c pre W _ _ h _
    exact h.elim
end Go.Proofs.YtmlfekbmbnfkjabGreatDoor.E

/-
  What Items comes to: all things, in their dots' order.
-/
namespace Go.Proofs.YtmlfekbmbnfkjabGreatDoor.E
set_option maxRecDepth 100000
set_option maxRecDepth 100000
open Go.RowKit Go.Shelf Go.Sort
open Go.ChangeMaps (setBlock)

set_option maxHeartbeats 1000000 in
/-- Over a nil map nothing comes. -/
theorem valuesf_nil (n l Bm : Nat) (J : List (It (Cx 26)) → World → Prop) (W : World) (hJ : AbidesFrom W.heap.size J) (hm : W.cell? ⟨Bm, 0, none⟩ = some (.map none)) (h0 : J [] W) :
    CallsIn Fence.wide n Tryz.prog 172 #[.func (.yield l) #[] #[], .pointer (some ⟨Bm, 0, none⟩)] W fun e W' => (∃ v, e = .returned v) ∧ J [] W' := by
  have hJ0 := hJ [] W (W.alloc (.mapIter none 0 #[] 0)) none h0 (World.grownBy_alloc W _ none) (fun r e => by cases e)
  have hrun := run_range_nilMap (P := Tryz.prog) W 79 _ _ Tryz.underlying79
  have hnx := run_next_nilMap (P := Tryz.prog) W 0 0 0 #[]
  generalize W.alloc (.mapIter none 0 #[] 0) = W2 at *
  refine callsIn_of_wp Tryz.func172 rfl trivial ?_ rfl
  simp only [Tryz.ntmps172, List.size_toArray, List.length_cons, List.length_nil, Nat.reduceAdd, Nat.reduceSub, Array.replicate_succ, Array.replicate_zero, List.push_toArray, List.append_toArray, List.nil_append, List.cons_append]
  gi_wp2
  gi_loopw [4] (fun _ wr => wr = W2) (fun _ _ => 0)
  case atStart => rfl
  case round =>
    subst hrel
    gi_wp2
    go_end0
    exact ⟨⟨_, rfl⟩, hJ0⟩
theorem values_nil (n Bm : Nat) (w : World) (hBm : Bm < w.heap.size) (hm : w.cell? ⟨Bm, 0, none⟩ = some (.map none)) :
    SeqStopsK Fence.wide n Tryz.prog 172 #[.pointer (some ⟨Bm, 0, none⟩)] (fun i : It (Cx 26) => #[.agg (xc i)]) KeepsWalks (fun xs => xs.Perm []) (fun _ => True) 0 w := fun l J _ W hW hJ _ _ h0 =>
  (valuesf_nil n l Bm J W hJ ((hW.cell (p := ⟨Bm, 0, none⟩) hBm).trans hm) h0).mono fun _ _ ⟨h1, h2⟩ => ⟨h1, .inl ⟨[], List.Perm.refl _, h2⟩⟩

theorem values_any (m : Option Nat) (w : World) : Calls Tryz.prog 135 #[.map m] w fun e w' => e = .returned (.func (.func 172) #[] #[.pointer (some ⟨w.heap.size, 0, none⟩)]) ∧ w' = w.alloc (.cells #[.map m] 79) := by
  have hmf : ∀ (fn : Fn) (first cap : Array Value) (w : World), (Instr.makeFunc fn first cap).run Tryz.prog w = .ok (.func fn first cap) w := fun _ _ _ _ => rfl
  go_enter Tryz.func135, Tryz.ntmps135
  go_wp2
  go_ret
  exact ⟨rfl, rfl⟩
set_option maxHeartbeats 400000 in
/-- slices.Collect over a bag's map. -/
theorem collect_any (Bm : Nat) (m : Option Nat) (S : List (It (Cx 26))) (w : World) (hBm : Bm < w.heap.size) (hm : w.cell? ⟨Bm, 0, none⟩ = some (.map m)) (hS : (m = none ∧ S = []) ∨ ∃ b, m = some b ∧ Mp w b S) (hl : S.length ≤ 1048576) :
    Calls Tryz.prog 170 #[.func (.func 172) #[] #[.pointer (some ⟨Bm, 0, none⟩)]] w fun e w' => ∃ v L, e = .returned v ∧ L.Perm S ∧ Rw 112 w' w.heap.size v L ∧ Below w.heap.size w w' := by
  have eg : ∀ args w, (callFunc 172 args).run Tryz.prog w = .ok (.enter 172 args) w := enters_of Tryz.func172 (by kernel_rfl) rfl
  have hA : Calls Tryz.prog 209 #[.slice none 0 0, .func (.func 172) #[] #[.pointer (some ⟨Bm, 0, none⟩)]] w fun e w' => ∃ v L, e = .returned v ∧ L.Perm S ∧ Rw 112 w' w.heap.size v L ∧ Below w.heap.size w w' := by
    refine (callsIn_wide (n := 3)).1 ?_
    rcases hS with ⟨rfl, rfl⟩ | ⟨b, rfl, hM⟩
    · exact appendseq_in 3 (by omega) 172 _ eg _ _ 0 (by omega) w (values_nil 2 Bm w hBm hm)
    · exact appendseq_in 3 (by omega) 172 _ eg _ _ S.length hl w (values_stops 2 Bm b S (by omega) w hBm hm hM)
  go_enter Tryz.func170, Tryz.ntmps170
  go_wp2_with fail
  refine Calls.mono hA ?_
  rintro e w1 ⟨v, L, rfl, h1, h2, h3⟩
  go_wp2
  go_ret
  exact ⟨v, L, rfl, h1, h2, h3⟩
set_option maxHeartbeats 400000 in
theorem sortedfunc_any (Bm : Nat) (m : Option Nat) (S : List (It (Cx 26))) (w : World) (hBm : Bm < w.heap.size) (hm : w.cell? ⟨Bm, 0, none⟩ = some (.map m)) (hS : (m = none ∧ S = []) ∨ ∃ b, m = some b ∧ Mp w b S) (hs : Srt S) (hl : S.length ≤ 1048576) :
    Calls Tryz.prog 134 #[.func (.func 172) #[] #[.pointer (some ⟨Bm, 0, none⟩)], .func (.func 136) #[] #[]] w fun e w' => ∃ v, e = .returned v ∧ Rw 112 w' w.heap.size v S ∧ Below w.heap.size w w' := by
  have hC := collect_any Bm m S w hBm hm hS hl
  go_enter Tryz.func134, Tryz.ntmps134
  go_wp2_with fail
  refine Calls.mono hC ?_
  rintro e w1 ⟨v, L, rfl, h1, h2, h3⟩
  have hSo := sort_any v L S w.heap.size w1 h2 (by have := h1.length_eq; omega) h1 hs
  go_wp2_with fail
  refine Calls.mono hSo ?_
  rintro e w2 ⟨rfl, h4, h5⟩
  have hb := h3.grown h5 h3.size (fun k e => (h2.lt k e).1)
  go_wp2
  go_ret
  exact ⟨v, rfl, h4, hb⟩
set_option maxHeartbeats 400000 in
theorem items_any (g o : Nat) (cs : Array Value) (ty : TypeId) (m : Option Nat) (S : List (It (Cx 26))) (w : World) (h : Bg w g o cs ty m S) (hl : S.length ≤ 1048576) :
    Calls Tryz.prog 91 #[.pointer (some ⟨g, o, none⟩)] w fun e w' => ∃ v, e = .returned v ∧ Rw 112 w' w.heap.size v S ∧ Below w.heap.size w w' := by
  have hz := orz_some g o w
  have hc := h.c0
  have hb : Below w.heap.size w (w.alloc (.cells #[.map m] 79)) := (Below.refl _ w).alloc (Nat.le_refl _) _
  have hV := values_any m w
  have hF := sortedfunc_any w.heap.size m S (w.alloc (.cells #[.map m] 79)) (by simp) (cell_of_row _ _ 0 _ _ _ (heap_alloc_new w _)) (by
    rcases h.map with hn | ⟨b, hb, hM⟩
    · exact .inl hn
    · exact .inr ⟨b, hb, hM.alloc _⟩) h.srt hl
  generalize w.alloc (.cells #[.map m] 79) = W1 at *
  clear h
  go_enter Tryz.func91, Tryz.ntmps91
  go_wp2_with fail
  refine Calls.mono hz ?_
  rintro e w1 ⟨rfl, hw1⟩
  obtain rfl := hw1.symm
  go_wp2_with fail
  refine Calls.mono hV ?_
  rintro e w1 ⟨rfl, hw2⟩
  obtain rfl := hw2.symm
  go_wp2_with fail
  refine Calls.mono hF ?_
  rintro e w2 ⟨v, rfl, h1, h2⟩
  go_wp2
  go_ret
  exact ⟨v, rfl, h1.lower hb.size, hb.trans (h2.mono hb.size)⟩
end Go.Proofs.YtmlfekbmbnfkjabGreatDoor.E

/-
  What slices.AppendSeq(nil, seq) and slices.Collect(seq) come to, over whatever iterator.
-/
namespace Go.Proofs.YtmlfekbmbnfkjabGreatDoor.D
set_option maxRecDepth 100000
set_option maxRecDepth 100000
open Go.RowKit Go.Shelf Go.Sort
attribute [local go_sem] Oper.semAt_some

theorem elB : El 187 135 #[Value.int IntKind.i64 0, Value.int IntKind.i64 0, Value.int IntKind.i64 0, Value.int IntKind.i64 0, Value.int IntKind.i64 0, Value.int IntKind.i64 0, Value.int IntKind.i64 0, Value.int IntKind.i64 0, Value.int IntKind.i64 0, Value.int IntKind.i64 0, Value.int IntKind.i64 0, Value.int IntKind.i64 0, Value.int IntKind.i64 0, Value.int IntKind.i64 0, Value.int IntKind.i64 0, Value.int IntKind.i64 0, Value.int IntKind.i64 0, Value.int IntKind.i64 0, Value.int IntKind.i64 0, Value.int IntKind.i64 0, Value.int IntKind.i64 0, Value.int IntKind.i64 0, Value.string { data := #[] }, Value.string { data := #[] }, Value.string { data := #[] }, Value.int IntKind.i64 0, Value.int IntKind.i64 0, Value.int IntKind.i64 0, Value.int IntKind.i64 0, Value.int IntKind.i64 0] 264 := ⟨Tryz.underlying187, by kernel_rfl, rfl, by decide⟩

/-- Between two rounds: the box holds a row of what has come. -/
def ApI (w : World) (Bs : Nat) (pre : List (It (Cx 28))) (W : World) : Prop := (∃ v, W.heap[Bs]? = some (.cells #[v] 187 (0, 0)) ∧ Rw 135 W w.heap.size v pre) ∧ Below w.heap.size w W
/-- Behind the assignment: the round's item lies in a block. -/
def ApA (tm : Nat → Array Value) (x : It (Cx 28)) (a' : Act) (W : World) : Prop := ∃ Bx, W.heap[Bx]? = some (.cells (xc x) 135 (0, 0)) ∧ a' = { tmps := tm Bx, defers := [] }

theorem Rw.grown {e : TypeId} {w w' : World} {base : Nat} {v : Value} {S : List (It (Cx 28))} {row : Option Nat} (h : Rw e w base v S) (hg : w.grownBy w' row) (hne : ∀ k, v.ownBlock = some k → row ≠ some k) : Rw e w' base v S :=
  h.keep fun k hk => hg.block k (h.lt k hk).2 (fun e => hne k hk e.symm)
theorem Rw.cellsAt {e : TypeId} {w : World} {base : Nat} {v : Value} {S : List (It (Cx 28))} (h : Rw e w base v S) : ∀ k, v.ownBlock = some k → ∃ cur, w.heap[k]? = some (.cells cur e (0, 0)) := by
  intro k hk
  rcases h.2 with ⟨rfl, -⟩ | ⟨g, cap, cur, rfl, hbg, hg, -⟩
  · cases hk
  · obtain rfl : g = k := by simpa [Value.ownBlock] using hk
    exact ⟨cur, hg⟩
theorem Rw.ne {e : TypeId} {w : World} {base : Nat} {v : Value} {S : List (It (Cx 28))} (h : Rw e w base v S) {j : Nat} {o : Obj} (hj : w.heap[j]? = some o) (hno : ∀ cur, o ≠ .cells cur e (0, 0)) : v.ownBlock ≠ some j := by
  intro hk
  obtain ⟨cur, hc⟩ := h.cellsAt j hk
  rw [hj] at hc
  exact hno cur (Option.some.inj hc)

theorem apI_own (w : World) (Bs B : Nat) (hB : w.heap.size ≤ B) : OwnFrom B (ApI w Bs) := fun pre W W' row ⟨⟨v, hv, hr⟩, hb⟩ hg hrow => by
  refine ⟨⟨v, ?_, ?_⟩, hb.grown hg hb.size (fun k e => by have := (hrow k e).1; omega)⟩
  · refine (hg.block Bs (Array.getElem?_eq_some_iff.1 hv).1 (fun e => ?_)).trans hv
    obtain ⟨-, o, ho, hc⟩ := hrow Bs e.symm
    rw [hv] at ho; cases ho; cases hc
  · refine hr.grown hg fun k hk e => ?_
    obtain ⟨-, o, ho, hc⟩ := hrow k e
    obtain ⟨cur, hcur⟩ := hr.cellsAt k hk
    rw [hcur] at ho; cases ho; cases hc
theorem apA_own (tm : Nat → Array Value) (x : It (Cx 28)) (a' : Act) (B : Nat) : OwnFrom B (fun (_ : Unit) W => ApA tm x a' W) := fun _ W W' row ⟨Bx, h, e⟩ hg hrow => by
  refine ⟨Bx, (hg.block Bx (Array.getElem?_eq_some_iff.1 h).1 (fun e => ?_)).trans h, e⟩
  obtain ⟨-, o, ho, hc⟩ := hrow Bx e.symm
  rw [h] at ho; cases ho; cases hc

/-- 'append' whose run is known. -/
theorem wpListIn_appR {F : Fence} {n : Nat} {P : Program} {w : World} {ops : Array Oper} {rest : List Oper} {o : Oper} {a : Act} {Q : Exit → Act → World → Prop} (hg : o.guard = none) (s x : Operand) (T : TypeId) (hop : o.op = Op.call { callee := Callee.builtin Builtin.append, args := #[s, x], argTypes := #[T, T] })
    (v y v' : Value) (w' : World) (hs : a.eval s = v) (hx : a.eval x = y) (hr : (Builtin.append_ #[T, T] o.type #[v, y]).run P w = .ok v' w') (hK : wpListIn F n P ops Q rest (a.put o.dst v') w') : wpListIn F n P ops Q (o :: rest) a w := by
  refine wpListIn_plain hg fun K hK' => ?_
  unfold Oper.wpIn
  refine ⟨by simp [Oper.about, hop, resolve, Target.leads, Sem.run_pure], ?_⟩
  rw [Oper.semAt_plain F _ _ (by rw [hop]; intro c hc'; cases hc')]
  simp only [execOp, hop, resolve, invoke, builtin, Sem.run_bind, Sem.run_pure, Result.andThen_ok, List.map_toArray, List.map_cons, List.map_nil, hs, hx, hr]
  exact hK' _ _ hK

set_option maxHeartbeats 2000000 in
theorem appendseq_in (n : Nat) (hn : 2 ≤ n) (g : Nat) (lb : Array Value) (eg : ∀ args w, (callFunc g args).run Tryz.prog w = .ok (.enter g args) w)
    (S Sp : List (It (Cx 28)) → Prop) (N : Nat) (hN : N ≤ 1048576) (w : World) (hseq : SeqStopsK Fence.wide (n - 1) Tryz.prog g lb (fun i : It (Cx 28) => #[.agg (xc i)]) KeepsWalks S Sp N w) :
    CallsIn Fence.wide n Tryz.prog 263 #[.slice none 0 0, .func (.func g) #[] lb] w fun e w' => ∃ v xs, e = .returned v ∧ S xs ∧ Rw 135 w' w.heap.size v xs ∧ Below w.heap.size w w' := by
  have h1 : 1 ≤ n := by omega
  refine callsIn_of_wp_marks Tryz.func263 rfl trivial ?_ rfl
  simp only [Tryz.ntmps263, List.size_toArray, List.length_cons, List.length_nil, Nat.reduceAdd, Nat.reduceSub, Array.replicate_succ, Array.replicate_zero, List.push_toArray, List.append_toArray, List.nil_append, List.cons_append]
  gi_wp2
  have hbw : Below w.heap.size w (w.alloc (.cells #[.slice none 0 0] 187)) := (Below.refl _ w).alloc (Nat.le_refl _) _
  have hI0 : ApI w w.heap.size [] (w.alloc (.cells #[.slice none 0 0] 187)) := ⟨⟨_, heap_alloc_new w _, rw_nil _ _ _⟩, hbw⟩
  have hsz : (w.alloc (.cells #[.slice none 0 0] 187)).heap.size = w.heap.size + 1 := by simp
  refine wpIn_rangeFunc_ownH rfl h1 (gf := g) (lb := lb) rfl trivial eg hseq walksK_t walksK_b hbw (fun _ => rfl)
    (ApI w w.heap.size) (fun _ _ _ => False) (apI_own w w.heap.size _ (by rw [hsz]; omega)) (fun _ _ _ _ _ h _ _ => h) hI0
    (fun x => ApA (fun Bx => #[.slice none 0 0, .func (.func g) #[] lb, .pointer (some ⟨w.heap.size, 0, none⟩), undef, .slice none 0 0, .pointer (some ⟨Bx, 0, none⟩), .func (.func g) #[] lb, .agg (xc x), undef, undef, undef, undef, undef]) x)
    (fun x a' => apA_own _ x a' _) ?assign ?body ?done ?stop
  case assign =>
    intro l pre x W K hi hK
    have hst := st_new W x
    gi_wp2_with (first
      | (refine wpListIn_storeR (ty := 135) (x := .tmp 5) (y := .tmp 7) (ad := ⟨W.heap.size, 0, none⟩) (v := .agg (xc x)) (w' := W.alloc (.cells (xc x) 135)) rfl rfl rfl rfl hst ?_)
      | gi_in)
    exact hK _ _ ((KeepsOthers.alloc _ _).from _) (KeepsWalks.alloc _ _) ((apI_own w w.heap.size w.heap.size (Nat.le_refl _)).alloc _ hi) ⟨W.heap.size, heap_alloc_new W _, rfl⟩
  case body =>
    rintro l pre x a' W hl hr ⟨⟨v, hv, hrow⟩, hb⟩ ⟨Bx, hx, rfl⟩ hlt
    have c0 : W.cell? ⟨w.heap.size, 0, none⟩ = some v := cell_of_row W _ 0 _ _ _ hv
    have hld := ld_at hx
    have hbd := run_build1 elB W x
    obtain ⟨v', w', happ, hrow', hg', hown'⟩ := run_app1 elB (w := W.alloc (.cells (xc x) 135)) 187 w.heap.size v pre (hrow.alloc _) ⟨W.heap.size, 0, none⟩ 1 x (ats_new W _ x) (by omega) (by have := hb.size; simp; omega)
    have hvl := hrow.val
    obtain ⟨ao', cap', hv', -, -⟩ := hrow'.val
    have hne := hrow.ne hv (fun cur e => by cases e)
    have hv2 : w'.heap[w.heap.size]? = some (.cells #[v] 187 (0, 0)) := (hg'.block _ (by have := (Array.getElem?_eq_some_iff.1 hv).1; simp; omega) (fun e => hne e.symm)).trans ((Below.heap_alloc W _ _ (Array.getElem?_eq_some_iff.1 hv).1).trans hv)
    have c1 : w'.cell? ⟨w.heap.size, 0, none⟩ = some v := cell_of_row w' _ 0 _ _ _ hv2
    have f1 : w'.frozen? ⟨w.heap.size, 0, none⟩ = false := frozen_of_row w' _ 0 _ _ hv2
    have ko : KeepsOthers W (w'.setCell ⟨w.heap.size, 0, none⟩ v') := ((KeepsOthers.alloc W _).trans (KeepsOthers.of_grownBy hg' (fun j o hj ho => by
      obtain ⟨cur, hc⟩ := (hrow.alloc (.cells (xc x) 135)).cellsAt j hj
      rw [hc] at ho; cases ho; rfl))).trans (KeepsOthers.setCell _ _ _)
    have hne' := hrow'.ne hv2 (fun cur e => by cases e)
    have hgs : w'.grownBy (w'.setCell ⟨w.heap.size, 0, none⟩ v') (some w.heap.size) := ⟨rfl, rfl, rfl, by simp [World.setCell], fun k _ hk => Below.heap_setCell _ _ _ k (fun e => hk (by rw [e]))⟩
    have hb2 : Below w.heap.size w (w'.setCell ⟨w.heap.size, 0, none⟩ v') := ((hb.alloc hb.size _).grown hg' (by have := hb.size; simp; omega) (fun k e => (hrow.lt k e).1)).grown hgs (by have := hb.size; have := hg'.size; simp at this; omega) (fun k e => by cases e; exact Nat.le_refl _)
    have hfin : ApI w w.heap.size (pre ++ [x]) (w'.setCell ⟨w.heap.size, 0, none⟩ v') := ⟨⟨v', by rw [heap_setCell_same _ _ 0 _ _ _ hv2]; rfl, hrow'.grown hgs (fun k hk e => hne' (by rw [hk, ← e]))⟩, hb2⟩
    have FIN : Hid (KeepsFrom (w.alloc (.cells #[.slice none 0 0] 187)).heap.size W (w'.setCell ⟨w.heap.size, 0, none⟩ v') ∧ KeepsWalks W (w'.setCell ⟨w.heap.size, 0, none⟩ v') ∧ ApI w w.heap.size (pre ++ [x]) (w'.setCell ⟨w.heap.size, 0, none⟩ v')) := ⟨ko.from _, ko.walks, hfin⟩
    obtain ⟨ao, cap, rfl, -, -⟩ := hvl
    subst hv'
    generalize (pre ++ [x]).length = m at *
    clear ko hne' hgs hb2 hfin hg' hown' hrow' hrow hv hv2 hx hne hl hr hseq hI0 hbw
    gi_wp2_with (first | (refine wpListIn_loadR (ty := 135) (x := .tmp 5) (ad := ⟨Bx, 0, none⟩) (v := .agg (xc x)) rfl rfl rfl hld ?_) | (refine wpListIn_buildR (ty := 187) (k := 1) (x := .tmp 9) (u := .agg (xc x)) (v := .slice (some ⟨W.heap.size, 0, none⟩) 1 1) (w' := W.alloc (.cells (xc x) 135)) rfl rfl rfl hbd ?_) | (gi_at_builtin; refine wpListIn_appR rfl _ _ 187 rfl _ _ _ _ rfl rfl happ ?_) | gi_in)
    exact FIN.out
  case done =>
    rintro D xs W hD hS ⟨⟨v, hv, hrow⟩, hb⟩ hK
    have c0 : W.cell? ⟨w.heap.size, 0, none⟩ = some v := cell_of_row W _ 0 _ _ _ hv
    have hR2 : Rw 135 (W.putObj D (.deferred none)) w.heap.size v xs := hrow.grown (grownBy_putObj' W D _) (fun k hk e => by
      obtain ⟨cur, hc⟩ := hrow.cellsAt k hk
      cases e
      rw [hK] at hc; cases hc)
    have hb2 : Below w.heap.size w (W.putObj D (.deferred none)) := hb.grown (grownBy_putObj' W D _) hb.size (fun k e => by cases e; rw [hsz] at hD; omega)
    clear hseq hI0 hbw
    gi_wp2
    refine ⟨by simp, .inl ⟨_, _, rfl, run_takeDeferred hK, ?_⟩⟩
    exact ⟨_, results_tmp rfl _ _ _, v, xs, rfl, hS, hR2, hb2⟩
  case stop =>
    rintro D c pre W _ _ h _
    exact h.elim
end Go.Proofs.YtmlfekbmbnfkjabGreatDoor.D

/-
  What Items comes to: all things, in their dots' order.
-/
namespace Go.Proofs.YtmlfekbmbnfkjabGreatDoor.D
set_option maxRecDepth 100000
set_option maxRecDepth 100000
open Go.RowKit Go.Shelf Go.Sort
open Go.ChangeMaps (setBlock)

set_option maxHeartbeats 1000000 in
/-- Over a nil map nothing comes. -/
theorem valuesf_nil (n l Bm : Nat) (J : List (It (Cx 28)) → World → Prop) (W : World) (hJ : AbidesFrom W.heap.size J) (hm : W.cell? ⟨Bm, 0, none⟩ = some (.map none)) (h0 : J [] W) :
    CallsIn Fence.wide n Tryz.prog 222 #[.func (.yield l) #[] #[], .pointer (some ⟨Bm, 0, none⟩)] W fun e W' => (∃ v, e = .returned v) ∧ J [] W' := by
  have hJ0 := hJ [] W (W.alloc (.mapIter none 0 #[] 0)) none h0 (World.grownBy_alloc W _ none) (fun r e => by cases e)
  have hrun := run_range_nilMap (P := Tryz.prog) W 82 _ _ Tryz.underlying82
  have hnx := run_next_nilMap (P := Tryz.prog) W 0 0 0 #[]
  generalize W.alloc (.mapIter none 0 #[] 0) = W2 at *
  refine callsIn_of_wp Tryz.func222 rfl trivial ?_ rfl
  simp only [Tryz.ntmps222, List.size_toArray, List.length_cons, List.length_nil, Nat.reduceAdd, Nat.reduceSub, Array.replicate_succ, Array.replicate_zero, List.push_toArray, List.append_toArray, List.nil_append, List.cons_append]
  gi_wp2
  gi_loopw [4] (fun _ wr => wr = W2) (fun _ _ => 0)
  case atStart => rfl
  case round =>
    subst hrel
    gi_wp2
    go_end0
    exact ⟨⟨_, rfl⟩, hJ0⟩
theorem values_nil (n Bm : Nat) (w : World) (hBm : Bm < w.heap.size) (hm : w.cell? ⟨Bm, 0, none⟩ = some (.map none)) :
    SeqStopsK Fence.wide n Tryz.prog 222 #[.pointer (some ⟨Bm, 0, none⟩)] (fun i : It (Cx 28) => #[.agg (xc i)]) KeepsWalks (fun xs => xs.Perm []) (fun _ => True) 0 w := fun l J _ W hW hJ _ _ h0 =>
  (valuesf_nil n l Bm J W hJ ((hW.cell (p := ⟨Bm, 0, none⟩) hBm).trans hm) h0).mono fun _ _ ⟨h1, h2⟩ => ⟨h1, .inl ⟨[], List.Perm.refl _, h2⟩⟩

theorem values_any (m : Option Nat) (w : World) : Calls Tryz.prog 191 #[.map m] w fun e w' => e = .returned (.func (.func 222) #[] #[.pointer (some ⟨w.heap.size, 0, none⟩)]) ∧ w' = w.alloc (.cells #[.map m] 82) := by
  have hmf : ∀ (fn : Fn) (first cap : Array Value) (w : World), (Instr.makeFunc fn first cap).run Tryz.prog w = .ok (.func fn first cap) w := fun _ _ _ _ => rfl
  go_enter Tryz.func191, Tryz.ntmps191
  go_wp2
  go_ret
  exact ⟨rfl, rfl⟩
set_option maxHeartbeats 400000 in
/-- slices.Collect over a bag's map. -/
theorem collect_any (Bm : Nat) (m : Option Nat) (S : List (It (Cx 28))) (w : World) (hBm : Bm < w.heap.size) (hm : w.cell? ⟨Bm, 0, none⟩ = some (.map m)) (hS : (m = none ∧ S = []) ∨ ∃ b, m = some b ∧ Mp w b S) (hl : S.length ≤ 1048576) :
    Calls Tryz.prog 220 #[.func (.func 222) #[] #[.pointer (some ⟨Bm, 0, none⟩)]] w fun e w' => ∃ v L, e = .returned v ∧ L.Perm S ∧ Rw 135 w' w.heap.size v L ∧ Below w.heap.size w w' := by
  have eg : ∀ args w, (callFunc 222 args).run Tryz.prog w = .ok (.enter 222 args) w := enters_of Tryz.func222 (by kernel_rfl) rfl
  have hA : Calls Tryz.prog 263 #[.slice none 0 0, .func (.func 222) #[] #[.pointer (some ⟨Bm, 0, none⟩)]] w fun e w' => ∃ v L, e = .returned v ∧ L.Perm S ∧ Rw 135 w' w.heap.size v L ∧ Below w.heap.size w w' := by
    refine (callsIn_wide (n := 3)).1 ?_
    rcases hS with ⟨rfl, rfl⟩ | ⟨b, rfl, hM⟩
    · exact appendseq_in 3 (by omega) 222 _ eg _ _ 0 (by omega) w (values_nil 2 Bm w hBm hm)
    · exact appendseq_in 3 (by omega) 222 _ eg _ _ S.length hl w (values_stops 2 Bm b S (by omega) w hBm hm hM)
  go_enter Tryz.func220, Tryz.ntmps220
  go_wp2_with fail
  refine Calls.mono hA ?_
  rintro e w1 ⟨v, L, rfl, h1, h2, h3⟩
  go_wp2
  go_ret
  exact ⟨v, L, rfl, h1, h2, h3⟩
set_option maxHeartbeats 400000 in
theorem sortedfunc_any (Bm : Nat) (m : Option Nat) (S : List (It (Cx 28))) (w : World) (hBm : Bm < w.heap.size) (hm : w.cell? ⟨Bm, 0, none⟩ = some (.map m)) (hS : (m = none ∧ S = []) ∨ ∃ b, m = some b ∧ Mp w b S) (hs : Srt S) (hl : S.length ≤ 1048576) :
    Calls Tryz.prog 190 #[.func (.func 222) #[] #[.pointer (some ⟨Bm, 0, none⟩)], .func (.func 192) #[] #[]] w fun e w' => ∃ v, e = .returned v ∧ Rw 135 w' w.heap.size v S ∧ Below w.heap.size w w' := by
  have hC := collect_any Bm m S w hBm hm hS hl
  go_enter Tryz.func190, Tryz.ntmps190
  go_wp2_with fail
  refine Calls.mono hC ?_
  rintro e w1 ⟨v, L, rfl, h1, h2, h3⟩
  have hSo := sort_any v L S w.heap.size w1 h2 (by have := h1.length_eq; omega) h1 hs
  go_wp2_with fail
  refine Calls.mono hSo ?_
  rintro e w2 ⟨rfl, h4, h5⟩
  have hb := h3.grown h5 h3.size (fun k e => (h2.lt k e).1)
  go_wp2
  go_ret
  exact ⟨v, rfl, h4, hb⟩
set_option maxHeartbeats 400000 in
theorem items_any (g o : Nat) (cs : Array Value) (ty : TypeId) (m : Option Nat) (S : List (It (Cx 28))) (w : World) (h : Bg w g o cs ty m S) (hl : S.length ≤ 1048576) :
    Calls Tryz.prog 152 #[.pointer (some ⟨g, o, none⟩)] w fun e w' => ∃ v, e = .returned v ∧ Rw 135 w' w.heap.size v S ∧ Below w.heap.size w w' := by
  have hz := orz_some g o w
  have hc := h.c0
  have hb : Below w.heap.size w (w.alloc (.cells #[.map m] 82)) := (Below.refl _ w).alloc (Nat.le_refl _) _
  have hV := values_any m w
  have hF := sortedfunc_any w.heap.size m S (w.alloc (.cells #[.map m] 82)) (by simp) (cell_of_row _ _ 0 _ _ _ (heap_alloc_new w _)) (by
    rcases h.map with hn | ⟨b, hb, hM⟩
    · exact .inl hn
    · exact .inr ⟨b, hb, hM.alloc _⟩) h.srt hl
  generalize w.alloc (.cells #[.map m] 82) = W1 at *
  clear h
  go_enter Tryz.func152, Tryz.ntmps152
  go_wp2_with fail
  refine Calls.mono hz ?_
  rintro e w1 ⟨rfl, hw1⟩
  obtain rfl := hw1.symm
  go_wp2_with fail
  refine Calls.mono hV ?_
  rintro e w1 ⟨rfl, hw2⟩
  obtain rfl := hw2.symm
  go_wp2_with fail
  refine Calls.mono hF ?_
  rintro e w2 ⟨v, rfl, h1, h2⟩
  go_wp2
  go_ret
  exact ⟨v, rfl, h1.lower hb.size, hb.trans (h2.mono hb.size)⟩
end Go.Proofs.YtmlfekbmbnfkjabGreatDoor.D

/-
  What Get and Remove come to (28 cells an item).
-/
namespace Go.Proofs.YtmlfekbmbnfkjabGreatDoor.E
set_option maxRecDepth 100000
open Go.RowKit
open Go.ChangeMaps (setBlock)

/-- What is there, or the zero item. -/
def gets (S : List (It (Cx 26))) (r n : Int) : It (Cx 26) := (find S r n).getD ⟨0, 0, zx⟩
theorem Bg.lookup {w : World} {g o : Nat} {cs : Array Value} {ty : TypeId} {m : Option Nat} {S : List (It (Cx 26))} (h : Bg w g o cs ty m S) (r n : Int) :
    (Instr.lookup 79 (.map m) (.agg (dotc r n)) true).run Tryz.prog w = .ok (.tuple #[.agg (xc (gets S r n)), .bool (hasD S r n)]) w := by
  rcases h.map with ⟨rfl, rfl⟩ | ⟨b, rfl, hm⟩
  · exact lookup_nil w r n
  · exact hm.lookup r n
theorem Bg.del {w : World} {g o : Nat} {cs : Array Value} {ty : TypeId} {m : Option Nat} {S : List (It (Cx 26))} (h : Bg w g o cs ty m S) (r n : Int) (t0 : TypeId) (W : World) (hW : W.heap = w.heap) (h1 : W.os = w.os) (h2 : W.tape = w.tape) (h3 : W.output = w.output) :
    ∃ w', (Builtin.delete_ #[79, 32] t0 #[.map m, .agg (dotc r n)]).run Tryz.prog W = .ok (.tuple #[]) w' ∧ Bg w' g o cs ty m (Go.Proofs.YtmlfekbmbnfkjabGreatDoor.del S r n) ∧ Tn g m m w w' := by
  rcases h.map with ⟨rfl, rfl⟩ | ⟨b, rfl, hm⟩
  · exact ⟨W, delete_nil W r n t0, ⟨by rw [hW]; exact h.blk, h.at', .inl ⟨rfl, rfl⟩⟩, h1, h2, h3, by rw [hW]; exact Nat.le_refl _, fun k _ _ _ => by rw [hW], fun _ e => .inl e⟩
  · obtain ⟨ob, ho⟩ := hm.delete r n t0
    have := ho W (by rw [hW])
    exact ⟨_, this.1, h.blocked hW this.2, tn_blocked g b w W ob hW h1 h2 h3⟩
/-- What Get and Remove read. -/
structure Gr (g o : Nat) (cs : Array Value) (ty : TypeId) (m : Option Nat) (S : List (It (Cx 26))) (B : Nat) (r n : Int) (W : World) : Prop where
  bg : Bg W g o cs ty m S
  dt : LiesD W B r n
theorem Gr.below {g o : Nat} {cs : Array Value} {ty : TypeId} {m : Option Nat} {S : List (It (Cx 26))} {B : Nat} {r n : Int} {W W' : World} (h : Gr g o cs ty m S B r n W) (hb : Below W.heap.size W W') : Gr g o cs ty m S B r n W' := ⟨h.bg.below hb (Nat.le_refl _), h.dt.below hb h.dt.lt⟩
end Go.Proofs.YtmlfekbmbnfkjabGreatDoor.E

