/-
  What slices.AppendSeq(nil, seq) and slices.Collect(seq) come to, over whatever iterator.
-/
import Derived.Test.YtmlfekbmbnfkjabGreatDoorR15
import Derived.RangeFuncBound
import Derived.RangeFuncCalls
import Derived.RangeFuncLeaves
import Derived.Shelf.RegionOpen
import Derived.Test.YtmlfekbmbnfkjabGreatDoorR09
import Derived.Laws.CopyRow
namespace Go.Proofs.YtmlfekbmbnfkjabGreatDoor.E
set_option maxRecDepth 100000
set_option maxRecDepth 100000
open Go.RowKit Go.Shelf Go.Sort
attribute [local go_sem] Oper.semAt_some

theorem elB : El 121 112 #[Value.int IntKind.i64 0, Value.int IntKind.i64 0, Value.int IntKind.i64 0, Value.int IntKind.i64 0, Value.int IntKind.i64 0, Value.int IntKind.i64 0, Value.int IntKind.i64 0, Value.int IntKind.i64 0, Value.int IntKind.i64 0, Value.int IntKind.i64 0, Value.int IntKind.i64 0, Value.int IntKind.i64 0, Value.int IntKind.i64 0, Value.int IntKind.i64 0, Value.int IntKind.i64 0, Value.int IntKind.i64 0, Value.int IntKind.i64 0, Value.int IntKind.i64 0, Value.int IntKind.i64 0, Value.int IntKind.i64 0, Value.int IntKind.i64 0, Value.int IntKind.i64 0, Value.string { data := #[] }, Value.string { data := #[] }, Value.string { data := #[] }, Value.int IntKind.i64 0, Value.int IntKind.i64 0, Value.int IntKind.i64 0] 248 := ⟨Tryz.underlying121, by kernel_rfl, rfl, by decide⟩

/-- Between two rounds: the box holds a row of what has come. -/
def ApI (w : World) (Bs : Nat) (pre : List (It (Cx 26))) (W : World) : Prop := (∃ v, W.heap[Bs]? = some (.cells #[v] 121 (0, 0)) ∧ Rw 112 W w.heap.size v pre) ∧ Below w.heap.size w W
/-- Behind the assignment: the round's item lies in a block. -/
def ApA (tm : Nat → Array Value) (x : It (Cx 26)) (a' : Act) (W : World) : Prop := ∃ Bx, W.heap[Bx]? = some (.cells (xc x) 112 (0, 0)) ∧ a' = { tmps := tm Bx, defers := [] }

theorem Rw.grown {e : TypeId} {w w' : World} {base : Nat} {v : Value} {S : List (It (Cx 26))} {row : Option Nat} (h : Rw e w base v S) (hg : w.grownBy w' row) (hne : ∀ k, v.ownBlock = some k → row ≠ some k) : Rw e w' base v S :=
  h.keep fun k hk => hg.block k (h.lt k hk).2 (fun e => hne k hk e.symm)
theorem Rw.cellsAt {e : TypeId} {w : World} {base : Nat} {v : Value} {S : List (It (Cx 26))} (h : Rw e w base v S) : ∀ k, v.ownBlock = some k → ∃ cur, w.heap[k]? = some (.cells cur e (0, 0)) := by
  intro k hk
  rcases h.2 with ⟨rfl, -⟩ | ⟨g, cap, cur, rfl, hbg, hg, -⟩
  · cases hk
  · obtain rfl : g = k := by simpa [Value.ownBlock] using hk
    exact ⟨cur, hg⟩
theorem Rw.ne {e : TypeId} {w : World} {base : Nat} {v : Value} {S : List (It (Cx 26))} (h : Rw e w base v S) {j : Nat} {o : Obj} (hj : w.heap[j]? = some o) (hno : ∀ cur, o ≠ .cells cur e (0, 0)) : v.ownBlock ≠ some j := by
  intro hk
  obtain ⟨cur, hc⟩ := h.cellsAt j hk
  rw [hj] at hc
  exact hno cur (Option.some.inj hc)

theorem apI_own (w : World) (Bs B : Nat) (hB : w.heap.size ≤ B) : OwnFrom B (ApI w Bs) := fun pre W W' row ⟨⟨v, hv, hr⟩, hb⟩ hg hrow => by
  refine ⟨⟨v, ?_, ?_⟩, hb.grown hg hb.size (fun k e => by have := (hrow k e).1; omega)⟩
  · refine (hg.block Bs (Array.getElem?_eq_some_iff.1 hv).1 (fun e => ?_)).trans hv
    obtain ⟨-, o, ho, hc⟩ := hrow Bs e.symm
    rw [hv] at ho; cases ho; cases hc
  · refine hr.grown hg fun k hk e => ?_
    obtain ⟨-, o, ho, hc⟩ := hrow k e
    obtain ⟨cur, hcur⟩ := hr.cellsAt k hk
    rw [hcur] at ho; cases ho; cases hc
theorem apA_own (tm : Nat → Array Value) (x : It (Cx 26)) (a' : Act) (B : Nat) : OwnFrom B (fun (_ : Unit) W => ApA tm x a' W) := fun _ W W' row ⟨Bx, h, e⟩ hg hrow => by
  refine ⟨Bx, (hg.block Bx (Array.getElem?_eq_some_iff.1 h).1 (fun e => ?_)).trans h, e⟩
  obtain ⟨-, o, ho, hc⟩ := hrow Bx e.symm
  rw [h] at ho; cases ho; cases hc

/-- 'append' whose run is known. -/
theorem wpListIn_appR {F : Fence} {n : Nat} {P : Program} {w : World} {ops : Array Oper} {rest : List Oper} {o : Oper} {a : Act} {Q : Exit → Act → World → Prop} (hg : o.guard = none) (s x : Operand) (T : TypeId) (hop : o.op = Op.call { callee := Callee.builtin Builtin.append, args := #[s, x], argTypes := #[T, T] })
    (v y v' : Value) (w' : World) (hs : a.eval s = v) (hx : a.eval x = y) (hr : (Builtin.append_ #[T, T] o.type #[v, y]).run P w = .ok v' w') (hK : wpListIn F n P ops Q rest (a.put o.dst v') w') : wpListIn F n P ops Q (o :: rest) a w := by
  refine wpListIn_plain hg fun K hK' => ?_
  unfold Oper.wpIn
  refine ⟨by simp [Oper.about, hop, resolve, Target.leads, Sem.run_pure], ?_⟩
  rw [Oper.semAt_plain F _ _ (by rw [hop]; intro c hc'; cases hc')]
  simp only [execOp, hop, resolve, invoke, builtin, Sem.run_bind, Sem.run_pure, Result.andThen_ok, List.map_toArray, List.map_cons, List.map_nil, hs, hx, hr]
  exact hK' _ _ hK

set_option maxHeartbeats 2000000 in
theorem appendseq_in (n : Nat) (hn : 2 ≤ n) (g : Nat) (lb : Array Value) (eg : ∀ args w, (callFunc g args).run Tryz.prog w = .ok (.enter g args) w)
    (S Sp : List (It (Cx 26)) → Prop) (N : Nat) (hN : N ≤ 1048576) (w : World) (hseq : SeqStopsK Fence.wide (n - 1) Tryz.prog g lb (fun i : It (Cx 26) => #[.agg (xc i)]) KeepsWalks S Sp N w) :
    CallsIn Fence.wide n Tryz.prog 209 #[.slice none 0 0, .func (.func g) #[] lb] w fun e w' => ∃ v xs, e = .returned v ∧ S xs ∧ Rw 112 w' w.heap.size v xs ∧ Below w.heap.size w w' := by
  have h1 : 1 ≤ n := by omega
  refine callsIn_of_wp_marks Tryz.func209 rfl trivial ?_ rfl
  simp only [Tryz.ntmps209, List.size_toArray, List.length_cons, List.length_nil, Nat.reduceAdd, Nat.reduceSub, Array.replicate_succ, Array.replicate_zero, List.push_toArray, List.append_toArray, List.nil_append, List.cons_append]
  gi_wp2
  have hbw : Below w.heap.size w (w.alloc (.cells #[.slice none 0 0] 121)) := (Below.refl _ w).alloc (Nat.le_refl _) _
  have hI0 : ApI w w.heap.size [] (w.alloc (.cells #[.slice none 0 0] 121)) := ⟨⟨_, heap_alloc_new w _, rw_nil _ _ _⟩, hbw⟩
  have hsz : (w.alloc (.cells #[.slice none 0 0] 121)).heap.size = w.heap.size + 1 := by simp
  refine wpIn_rangeFunc_ownH rfl h1 (gf := g) (lb := lb) rfl trivial eg hseq walksK_t walksK_b hbw (fun _ => rfl)
    (ApI w w.heap.size) (fun _ _ _ => False) (apI_own w w.heap.size _ (by rw [hsz]; omega)) (fun _ _ _ _ _ h _ _ => h) hI0
    (fun x => ApA (fun Bx => #[.slice none 0 0, .func (.func g) #[] lb, .pointer (some ⟨w.heap.size, 0, none⟩), undef, .slice none 0 0, .pointer (some ⟨Bx, 0, none⟩), .func (.func g) #[] lb, .agg (xc x), undef, undef, undef, undef, undef]) x)
    (fun x a' => apA_own _ x a' _) ?assign ?body ?done ?stop
  case assign =>
    intro l pre x W K hi hK
    have hst := st_new W x
    gi_wp2_with (first
      | (refine wpListIn_storeR (ty := 112) (x := .tmp 5) (y := .tmp 7) (ad := ⟨W.heap.size, 0, none⟩) (v := .agg (xc x)) (w' := W.alloc (.cells (xc x) 112)) rfl rfl rfl rfl hst ?_)
      | gi_in)
    exact hK _ _ ((KeepsOthers.alloc _ _).from _) (KeepsWalks.alloc _ _) ((apI_own w w.heap.size w.heap.size (Nat.le_refl _)).alloc _ hi) ⟨W.heap.size, heap_alloc_new W _, rfl⟩
  case body =>
    rintro l pre x a' W hl hr ⟨⟨v, hv, hrow⟩, hb⟩ ⟨Bx, hx, rfl⟩ hlt
    have c0 : W.cell? ⟨w.heap.size, 0, none⟩ = some v := cell_of_row W _ 0 _ _ _ hv
    have hld := ld_at hx
    have hbd := run_build1 elB W x
    obtain ⟨v', w', happ, hrow', hg', hown'⟩ := run_app1 elB (w := W.alloc (.cells (xc x) 112)) 121 w.heap.size v pre (hrow.alloc _) ⟨W.heap.size, 0, none⟩ 1 x (ats_new W _ x) (by omega) (by have := hb.size; simp; omega)
    have hvl := hrow.val
    obtain ⟨ao', cap', hv', -, -⟩ := hrow'.val
    have hne := hrow.ne hv (fun cur e => by cases e)
    have hv2 : w'.heap[w.heap.size]? = some (.cells #[v] 121 (0, 0)) := (hg'.block _ (by have := (Array.getElem?_eq_some_iff.1 hv).1; simp; omega) (fun e => hne e.symm)).trans ((Below.heap_alloc W _ _ (Array.getElem?_eq_some_iff.1 hv).1).trans hv)
    have c1 : w'.cell? ⟨w.heap.size, 0, none⟩ = some v := cell_of_row w' _ 0 _ _ _ hv2
    have f1 : w'.frozen? ⟨w.heap.size, 0, none⟩ = false := frozen_of_row w' _ 0 _ _ hv2
    have ko : KeepsOthers W (w'.setCell ⟨w.heap.size, 0, none⟩ v') := ((KeepsOthers.alloc W _).trans (KeepsOthers.of_grownBy hg' (fun j o hj ho => by
      obtain ⟨cur, hc⟩ := (hrow.alloc (.cells (xc x) 112)).cellsAt j hj
      rw [hc] at ho; cases ho; rfl))).trans (KeepsOthers.setCell _ _ _)
    have hne' := hrow'.ne hv2 (fun cur e => by cases e)
    have hgs : w'.grownBy (w'.setCell ⟨w.heap.size, 0, none⟩ v') (some w.heap.size) := ⟨rfl, rfl, rfl, by simp [World.setCell], fun k _ hk => Below.heap_setCell _ _ _ k (fun e => hk (by rw [e]))⟩
    have hb2 : Below w.heap.size w (w'.setCell ⟨w.heap.size, 0, none⟩ v') := ((hb.alloc hb.size _).grown hg' (by have := hb.size; simp; omega) (fun k e => (hrow.lt k e).1)).grown hgs (by have := hb.size; have := hg'.size; simp at this; omega) (fun k e => by cases e; exact Nat.le_refl _)
    have hfin : ApI w w.heap.size (pre ++ [x]) (w'.setCell ⟨w.heap.size, 0, none⟩ v') := ⟨⟨v', by rw [heap_setCell_same _ _ 0 _ _ _ hv2]; rfl, hrow'.grown hgs (fun k hk e => hne' (by rw [hk, ← e]))⟩, hb2⟩
    have FIN : Hid (KeepsFrom (w.alloc (.cells #[.slice none 0 0] 121)).heap.size W (w'.setCell ⟨w.heap.size, 0, none⟩ v') ∧ KeepsWalks W (w'.setCell ⟨w.heap.size, 0, none⟩ v') ∧ ApI w w.heap.size (pre ++ [x]) (w'.setCell ⟨w.heap.size, 0, none⟩ v')) := ⟨ko.from _, ko.walks, hfin⟩
    obtain ⟨ao, cap, rfl, -, -⟩ := hvl
    subst hv'
    generalize (pre ++ [x]).length = m at *
    clear ko hne' hgs hb2 hfin hg' hown' hrow' hrow hv hv2 hx hne hl hr hseq hI0 hbw
    gi_wp2_with (first | (refine wpListIn_loadR (ty := 112) (x := .tmp 5) (ad := ⟨Bx, 0, none⟩) (v := .agg (xc x)) rfl rfl rfl hld ?_) | (refine wpListIn_buildR (ty := 121) (k := 1) (x := .tmp 9) (u := .agg (xc x)) (v := .slice (some ⟨W.heap.size, 0, none⟩) 1 1) (w' := W.alloc (.cells (xc x) 112)) rfl rfl rfl hbd ?_) | (gi_at_builtin; refine wpListIn_appR rfl _ _ 121 rfl _ _ _ _ rfl rfl happ ?_) | gi_in)
    exact FIN.out
  case done =>
    rintro D xs W hD hS ⟨⟨v, hv, hrow⟩, hb⟩ hK
    have c0 : W.cell? ⟨w.heap.size, 0, none⟩ = some v := cell_of_row W _ 0 _ _ _ hv
    have hR2 : Rw 112 (W.putObj D (.deferred none)) w.heap.size v xs := hrow.grown (grownBy_putObj' W D _) (fun k hk e => by
      obtain ⟨cur, hc⟩ := hrow.cellsAt k hk
      cases e
      rw [hK] at hc; cases hc)
    have hb2 : Below w.heap.size w (W.putObj D (.deferred none)) := hb.grown (grownBy_putObj' W D _) hb.size (fun k e => by cases e; rw [hsz] at hD; omega)
    clear hseq hI0 hbw
    gi_wp2
    refine ⟨by simp, .inl ⟨_, _, rfl, run_takeDeferred hK, ?_⟩⟩
    exact ⟨_, results_tmp rfl _ _ _, v, xs, rfl, hS, hR2, hb2⟩
  case stop =>
    rintro D c pre W _ _ h _
    exact h.elim
end Go.Proofs.YtmlfekbmbnfkjabGreatDoor.E

/-
  What slices.IndexFunc and slices.DeleteFunc come to over a function that may change what lies elsewhere (28 cells an item).
-/
namespace Go.Proofs.YtmlfekbmbnfkjabGreatDoor.E
set_option maxRecDepth 100000
open Go.RowKit Go.Sort

/-- Blocks of items are as they were. -/
def Kpt (W w' : World) : Prop := W.heap.size ≤ w'.heap.size ∧ ∀ (k : Nat) (cur : Array Value), W.heap[k]? = some (.cells cur 112 (0, 0)) → w'.heap[k]? = W.heap[k]?
/-- What a function tells of each item, one behind the other, and what it leaves. -/
structure PredJ (p : It (Cx 26) → Bool) (Bv Bw : Nat) (S : List (It (Cx 26))) (base : Nat) (J : Nat → World → Prop) : Prop where
  asks : ∀ (j : Nat) (i : It (Cx 26)) (W : World), S[j]? = some i → J j W → Calls Tryz.prog 98 #[.agg (xc i), .pointer (some ⟨Bv, 0, none⟩), .pointer (some ⟨Bw, 0, none⟩)] W fun e w' => e = .returned (.bool (p i)) ∧ J (j + 1) w' ∧ Kpt W w'
  stays : ∀ (j : Nat) (W W' : World) (row : Option Nat), J j W → W.grownBy W' row → (∀ g, row = some g → base ≤ g ∧ ∃ cur, W.heap[g]? = some (.cells cur 112 (0, 0))) → J j W'
/-- The first place at which p is true, or -1. -/
def idxI (p : It (Cx 26) → Bool) (S : List (It (Cx 26))) : Int := match S.findIdx? p with
  | none => -1
  | some k => (k : Int)
/-- How many were asked. -/
def asked (p : It (Cx 26) → Bool) (S : List (It (Cx 26))) : Nat := match S.findIdx? p with
  | none => S.length
  | some k => k + 1
theorem Rw.kpt {w w' : World} {base : Nat} {v : Value} {S : List (It (Cx 26))} (h : Rw 112 w base v S) (hk : Kpt w w') : Rw 112 w' base v S := h.keep fun k hv => by
  obtain ⟨cur, hc⟩ := h.cellsAt k hv
  exact hk.2 k cur hc
set_option maxHeartbeats 1000000 in
theorem indexfunc_any (p : It (Cx 26) → Bool) (Bv Bw : Nat) (S : List (It (Cx 26))) (base : Nat) (J : Nat → World → Prop) (hp : PredJ p Bv Bw S base J) (v : Value) (w : World) (hrow : Rw 112 w base v S) (h0 : J 0 w) :
    Calls Tryz.prog 137 #[v, .func (.func 98) #[] #[.pointer (some ⟨Bv, 0, none⟩), .pointer (some ⟨Bw, 0, none⟩)]] w fun e w' => e = .returned (.int .i64 (idxI p S)) ∧ J (asked p S) w' ∧ Rw 112 w' base v S := by
  obtain ⟨ao, cap, hv, hnc, hcm⟩ := hrow.val
  have hcm' : S.length ≤ 9223372036854775807 := by unfold maxLen at hcm; omega
  have hvv : v = .slice ao S.length cap := hv
  obtain ⟨n, hn⟩ : ∃ n, S.length = n := ⟨_, rfl⟩
  rw [hn] at hv hcm'
  rw [hv]
  go_enter Tryz.func137, Tryz.ntmps137
  go_wp2
  go_loopw [8] (fun c wr => ∃ k : Nat, k ≤ n ∧ c = .int .i64 (k : Int) ∧ (∀ j, j < k → ∀ i, S[j]? = some i → p i = false) ∧ J k wr ∧ Rw 112 wr base v S) (fun c _ => n - (intOf c).toNat)
  case atStart => exact ⟨0, Nat.zero_le _, rfl, fun j hj => absurd hj (Nat.not_lt_zero _), h0, hrow⟩
  case round =>
    obtain ⟨k, hk, rfl, hno, hJ, hR⟩ := hrel
    by_cases hlt : k < n
    · have hlt' : (k : Int) < (n : Int) := by omega
      obtain ⟨g, cap', i, hv', -, hi, hbg, hgl, hrg, -⟩ := hR.atx (k := k) (by omega)
      rw [hvv] at hv'
      simp only [Value.slice.injEq] at hv'
      obtain ⟨rfl, -, rfl⟩ := hv'
      have hld := ld_mid hrg
      have hc := hp.asks k i wr hi hJ
      rcases Bool.eq_false_or_eq_true (p i) with hpi | hpi
      · have hf : S.findIdx? p = some k := by
          rw [List.findIdx?_eq_some_iff_getElem]
          obtain ⟨h1, h2⟩ := List.getElem?_eq_some_iff.1 hi
          refine ⟨h1, by rw [h2]; exact hpi, fun j hj => ?_⟩
          have := hno j hj _ (List.getElem?_eq_getElem (by omega))
          simpa using this
        have HR : Hid (idxI p S = (k : Int) ∧ asked p S = k + 1) := ⟨by unfold idxI; rw [hf], by unfold asked; rw [hf]⟩
        rw [hpi] at hc
        have HRW : Hid (Rw 112 wr base v S) := hR
        clear hno hrow hvv hf hR hrg hJ h0
        go_wp2_with (first | (refine wpList_loadR (ty := 112) (x := .tmp 14) (ad := ⟨g, k * 28, none⟩) (v := .agg (xc i)) rfl rfl rfl hld ?_))
        refine Calls.mono hc ?_
        rintro e w2 ⟨rfl, hJ2, hk2⟩
        have hR2 : Hid (Rw 112 w2 base v S) := Rw.kpt HRW.out hk2
        go_wp2
        go_ret
        exact ⟨by rw [HR.out.1]; rfl, by rw [HR.out.2]; exact hJ2, by rw [← hv]; exact hR2.out⟩
      · rw [hpi] at hc
        have hno' : Hid (∀ j, j < k + 1 → ∀ i, S[j]? = some i → p i = false) := fun j hj x hx => by
          by_cases e : j = k
          · subst e; rw [hi] at hx; cases hx; exact hpi
          · exact hno j (by omega) x hx
        have HRW : Hid (Rw 112 wr base v S) := hR
        clear hno hR hrg hJ h0 hrow
        go_wp2_with (first | (refine wpList_loadR (ty := 112) (x := .tmp 14) (ad := ⟨g, k * 28, none⟩) (v := .agg (xc i)) rfl rfl rfl hld ?_))
        refine Calls.mono hc ?_
        rintro e w2 ⟨rfl, hJ2, hk2⟩
        have hR2 : Hid (Rw 112 w2 base v S) := Rw.kpt HRW.out hk2
        go_wp2
        go_roundw
        case rel => exact ⟨k + 1, by omega, by go_num, hno'.out, hJ2, hR2.out⟩
        case measure => simp [intOf]; omega
    · have hlt' : ¬ (k : Int) < (n : Int) := by omega
      have hf : S.findIdx? p = none := by
        rw [List.findIdx?_eq_none_iff]
        intro x hx
        obtain ⟨j, hj⟩ := List.getElem?_of_mem hx
        exact hno j (by have := (List.getElem?_eq_some_iff.1 hj).1; omega) x hj
      have HR : Hid (idxI p S = -1 ∧ asked p S = k) := ⟨by unfold idxI; rw [hf], by unfold asked; rw [hf]; simp only; omega⟩
      have HRW : Hid (Rw 112 wr base v S) := hR
      clear hno hf hR h0 hrow
      go_wp2
      go_ret
      exact ⟨by rw [HR.out.1]; rfl, by rw [HR.out.2]; exact hJ, by rw [← hv]; exact HRW.out⟩
end Go.Proofs.YtmlfekbmbnfkjabGreatDoor.E

/-
  What slices.DeleteFunc comes to over Drop's function: the things of which it isn't true, in their order (28 cells an item).
-/
namespace Go.Proofs.YtmlfekbmbnfkjabGreatDoor.E
set_option maxRecDepth 100000
open Go.RowKit Go.Sort

theorem idx_none {p : It (Cx 26) → Bool} {S : List (It (Cx 26))} (h : S.findIdx? p = none) : S.filter (fun i => !p i) = S := by
  rw [List.findIdx?_eq_none_iff] at h
  exact List.filter_eq_self.2 fun x hx => by rw [h x hx]; rfl
theorem idx_some {p : It (Cx 26) → Bool} {S : List (It (Cx 26))} {k : Nat} (h : S.findIdx? p = some k) : k < S.length ∧ (S.take (k + 1)).filter (fun i => !p i) = S.take k := by
  rw [List.findIdx?_eq_some_iff_getElem] at h
  obtain ⟨h1, h2, h3⟩ := h
  refine ⟨h1, ?_⟩
  rw [List.take_succ_eq_append_getElem h1, List.filter_append]
  have e1 : (S.take k).filter (fun i => !p i) = S.take k := List.filter_eq_self.2 fun x hx => by
    obtain ⟨j, hj⟩ := List.getElem?_of_mem hx
    obtain ⟨hj1, hj2⟩ := List.getElem?_eq_some_iff.1 hj
    have hjk : j < k := by rw [List.length_take] at hj1; omega
    have := h3 j hjk
    rw [List.getElem_take] at hj2
    rw [← hj2]
    simpa using this
  rw [e1]
  simp [h2]
/-- An item is laid into its row. -/
theorem st_mid {w : World} {g a : Nat} {cur : Array Value} (i : It (Cx 26)) (hg : w.heap[g]? = some (.cells cur 112 (0, 0))) (hc : a * 28 + 28 ≤ cur.size) :
    (storeVar 112 ⟨g, a * 28, none⟩ (.agg (xc i))).run Tryz.prog w = .ok () (w.setRow g (cur.toList.take (a * 28) ++ xl i ++ cur.toList.drop (a * 28 + (xl i).length)).toArray) := by
  have hst := run_storeCells_at Tryz.prog g (a * 28) 112 (xl i) 0 cur w hg (by rw [xl_length]; omega) (xl_one i)
  rw [Nat.add_zero] at hst
  have hi := size_it i
  cases hq : Tryz.prog.info? 112 with
  | none => simp [hq] at hi
  | some ti =>
    have hs : (xc i).size = ti.size := by simp [hq] at hi; omega
    have h2 : (xl i).length = ti.size := by rw [← hs, xc, List.size_toArray]
    simp [storeVar, sizeOf, typeInfo, hq, Value.cells, xc, h2, hst]
theorem Rw.setx {w : World} {base g n cap : Nat} {S : List (It (Cx 26))} {cur : Array Value} (h : Rw 112 w base (.slice (some ⟨g, 0, none⟩) n cap) S) (hg0 : w.heap[g]? = some (.cells cur 112 (0, 0))) {a : Nat} (ha : a < S.length) (i : It (Cx 26)) :
    a * 28 + 28 ≤ cur.size ∧ Rw 112 (w.setRow g (cur.toList.take (a * 28) ++ xl i ++ cur.toList.drop (a * 28 + (xl i).length)).toArray) base (.slice (some ⟨g, 0, none⟩) n cap) (S.set a i) := by
  rcases h.2 with ⟨hv, -⟩ | ⟨g', cap', cur', hv, hbg, hg, hn, hc, hcs, htk⟩
  · cases hv
  · simp only [Value.slice.injEq, Option.some.injEq, Addr.mk.injEq, and_true] at hv
    obtain ⟨rfl, rfl, rfl⟩ := hv
    rw [hg0] at hg
    simp only [Option.some.injEq, Obj.cells.injEq, and_true] at hg
    subst hg
    have hK := xl_length i
    have hcl : a * 28 + 28 ≤ cur.size := by rw [hcs]; omega
    refine ⟨hcl, by rw [xs_length], .inr ⟨g, cap, _, by rw [List.length_set], hbg, setRow_heap w g _ _ _ _ hg0, by rw [List.length_set]; exact hn, hc, ?_, ?_⟩⟩
    · simp [hK, hcs]; omega
    · rw [List.length_set, xs_set S a i ha, ← htk]
      have hl : cur.toList.length = cap * 28 := by rw [Array.length_toList, hcs]
      have := take_mid (C := cur.toList) (X := xl i) (p := a * 28) (q := 28) (N := S.length * 28) (by omega) (by omega) hK
      rw [show a * (26 + 2) = a * 28 from rfl, show (a + 1) * (26 + 2) = a * 28 + 28 by omega, ← this, hK]
theorem grown_row (w : World) (g : Nat) (cs : Array Value) : w.grownBy (w.setRow g cs) (some g) :=
  ⟨rfl, rfl, rfl, by simp [World.setRow], fun k _ hk => by
    have hne : k ≠ g := fun e => hk (by rw [e])
    exact setRow_other w g k cs hne⟩
/-- The row is cut behind a, and the rest is cleared. -/
theorem Rw.clear {w : World} {base g n cap a : Nat} {R : List (It (Cx 26))} (h : Rw 112 w base (.slice (some ⟨g, 0, none⟩) n cap) R) (ha : a < n) :
    ∃ w', (∀ ty, (Builtin.clear_ #[121] ty #[.slice (some ⟨g, a * 28, none⟩) (n - a) (cap - a)]).run Tryz.prog w = .ok (.tuple #[]) w') ∧ Rw 112 w' base (.slice (some ⟨g, 0, none⟩) a cap) (R.take a) ∧ w.grownBy w' (some g) := by
  rcases h.2 with ⟨hv, -⟩ | ⟨g', cap', cur, hv, hbg, hg, hn, hc, hcs, htk⟩
  · cases hv
  · simp only [Value.slice.injEq, Option.some.injEq, Addr.mk.injEq, and_true] at hv
    obtain ⟨rfl, rfl, rfl⟩ := hv
    have hzs : (#[Value.int IntKind.i64 0, Value.int IntKind.i64 0, Value.int IntKind.i64 0, Value.int IntKind.i64 0, Value.int IntKind.i64 0, Value.int IntKind.i64 0, Value.int IntKind.i64 0, Value.int IntKind.i64 0, Value.int IntKind.i64 0, Value.int IntKind.i64 0, Value.int IntKind.i64 0, Value.int IntKind.i64 0, Value.int IntKind.i64 0, Value.int IntKind.i64 0, Value.int IntKind.i64 0, Value.int IntKind.i64 0, Value.int IntKind.i64 0, Value.int IntKind.i64 0, Value.int IntKind.i64 0, Value.int IntKind.i64 0, Value.int IntKind.i64 0, Value.int IntKind.i64 0, Value.string { data := #[] }, Value.string { data := #[] }, Value.string { data := #[] }, Value.int IntKind.i64 0, Value.int IntKind.i64 0, Value.int IntKind.i64 0] : Array Value).size = 28 := rfl
    have hzo : ∀ u ∈ (#[Value.int IntKind.i64 0, Value.int IntKind.i64 0, Value.int IntKind.i64 0, Value.int IntKind.i64 0, Value.int IntKind.i64 0, Value.int IntKind.i64 0, Value.int IntKind.i64 0, Value.int IntKind.i64 0, Value.int IntKind.i64 0, Value.int IntKind.i64 0, Value.int IntKind.i64 0, Value.int IntKind.i64 0, Value.int IntKind.i64 0, Value.int IntKind.i64 0, Value.int IntKind.i64 0, Value.int IntKind.i64 0, Value.int IntKind.i64 0, Value.int IntKind.i64 0, Value.int IntKind.i64 0, Value.int IntKind.i64 0, Value.int IntKind.i64 0, Value.int IntKind.i64 0, Value.string { data := #[] }, Value.string { data := #[] }, Value.string { data := #[] }, Value.int IntKind.i64 0, Value.int IntKind.i64 0, Value.int IntKind.i64 0] : Array Value), u.oneCell' = true := by
      have h1 := xc_one (⟨0, 0, zx⟩ : It (Cx 26))
      rw [zx_cells, Array.all_eq_true_iff_forall_mem] at h1
      exact h1
    have hzl : (Builtin.zeroCells #[Value.int IntKind.i64 0, Value.int IntKind.i64 0, Value.int IntKind.i64 0, Value.int IntKind.i64 0, Value.int IntKind.i64 0, Value.int IntKind.i64 0, Value.int IntKind.i64 0, Value.int IntKind.i64 0, Value.int IntKind.i64 0, Value.int IntKind.i64 0, Value.int IntKind.i64 0, Value.int IntKind.i64 0, Value.int IntKind.i64 0, Value.int IntKind.i64 0, Value.int IntKind.i64 0, Value.int IntKind.i64 0, Value.int IntKind.i64 0, Value.int IntKind.i64 0, Value.int IntKind.i64 0, Value.int IntKind.i64 0, Value.int IntKind.i64 0, Value.int IntKind.i64 0, Value.string { data := #[] }, Value.string { data := #[] }, Value.string { data := #[] }, Value.int IntKind.i64 0, Value.int IntKind.i64 0, Value.int IntKind.i64 0] (R.length - a)).toList.length = (R.length - a) * 28 := by simp [Builtin.zeroCells]
    have hone : ∀ u ∈ (Builtin.zeroCells #[Value.int IntKind.i64 0, Value.int IntKind.i64 0, Value.int IntKind.i64 0, Value.int IntKind.i64 0, Value.int IntKind.i64 0, Value.int IntKind.i64 0, Value.int IntKind.i64 0, Value.int IntKind.i64 0, Value.int IntKind.i64 0, Value.int IntKind.i64 0, Value.int IntKind.i64 0, Value.int IntKind.i64 0, Value.int IntKind.i64 0, Value.int IntKind.i64 0, Value.int IntKind.i64 0, Value.int IntKind.i64 0, Value.int IntKind.i64 0, Value.int IntKind.i64 0, Value.int IntKind.i64 0, Value.int IntKind.i64 0, Value.int IntKind.i64 0, Value.int IntKind.i64 0, Value.string { data := #[] }, Value.string { data := #[] }, Value.string { data := #[] }, Value.int IntKind.i64 0, Value.int IntKind.i64 0, Value.int IntKind.i64 0] (R.length - a)).toList, u.oneCell' = true := by
      generalize hZ : (#[Value.int IntKind.i64 0, Value.int IntKind.i64 0, Value.int IntKind.i64 0, Value.int IntKind.i64 0, Value.int IntKind.i64 0, Value.int IntKind.i64 0, Value.int IntKind.i64 0, Value.int IntKind.i64 0, Value.int IntKind.i64 0, Value.int IntKind.i64 0, Value.int IntKind.i64 0, Value.int IntKind.i64 0, Value.int IntKind.i64 0, Value.int IntKind.i64 0, Value.int IntKind.i64 0, Value.int IntKind.i64 0, Value.int IntKind.i64 0, Value.int IntKind.i64 0, Value.int IntKind.i64 0, Value.int IntKind.i64 0, Value.int IntKind.i64 0, Value.int IntKind.i64 0, Value.string { data := #[] }, Value.string { data := #[] }, Value.string { data := #[] }, Value.int IntKind.i64 0, Value.int IntKind.i64 0, Value.int IntKind.i64 0] : Array Value) = Z0 at hzs hzo
      intro u hu
      simp only [Builtin.zeroCells, Array.toList_map, List.mem_map] at hu
      obtain ⟨j, -, rfl⟩ := hu
      have hlt : j % Z0.size < Z0.size := Nat.mod_lt _ (by omega)
      rw [getElem!_pos Z0 _ hlt]
      exact hzo _ (Array.getElem_mem hlt)
    obtain ⟨Z, hZ⟩ : ∃ Z, (Builtin.zeroCells #[Value.int IntKind.i64 0, Value.int IntKind.i64 0, Value.int IntKind.i64 0, Value.int IntKind.i64 0, Value.int IntKind.i64 0, Value.int IntKind.i64 0, Value.int IntKind.i64 0, Value.int IntKind.i64 0, Value.int IntKind.i64 0, Value.int IntKind.i64 0, Value.int IntKind.i64 0, Value.int IntKind.i64 0, Value.int IntKind.i64 0, Value.int IntKind.i64 0, Value.int IntKind.i64 0, Value.int IntKind.i64 0, Value.int IntKind.i64 0, Value.int IntKind.i64 0, Value.int IntKind.i64 0, Value.int IntKind.i64 0, Value.int IntKind.i64 0, Value.int IntKind.i64 0, Value.string { data := #[] }, Value.string { data := #[] }, Value.string { data := #[] }, Value.int IntKind.i64 0, Value.int IntKind.i64 0, Value.int IntKind.i64 0] (R.length - a)).toList = Z := ⟨_, rfl⟩
    rw [hZ] at hzl hone
    have hst := run_storeCells_at Tryz.prog g (a * 28) 112 Z 0 cur w hg (by rw [hzl, hcs]; omega) hone
    rw [Nat.add_zero] at hst
    refine ⟨w.setRow g (cur.toList.take (a * 28) ++ Z ++ cur.toList.drop (a * 28 + Z.length)).toArray, fun ty => ?_, ⟨by rw [xs_length], .inr ⟨g, cap, _, by rw [List.length_take, Nat.min_eq_left (by omega)], hbg, setRow_heap w g _ _ _ _ hg, by rw [List.length_take]; omega, hc, ?_, ?_⟩⟩, grown_row _ _ _⟩
    · obtain ⟨m, hm⟩ : ∃ m, R.length - a = m + 1 := ⟨R.length - a - 1, by omega⟩
      rw [hm] at hZ ⊢
      simp only [Builtin.clear_, Value.cells]
      simp [hZ]
      rw [hst]
      simp
    · simp [hzl, hcs]; omega
    · rw [List.length_take, Nat.min_eq_left (by omega)]
      have hl : a * 28 ≤ cur.toList.length := by rw [Array.length_toList, hcs]; omega
      rw [List.append_assoc, List.take_append_of_le_length (by rw [List.length_take]; omega), List.take_take]
      have e1 : xs (R.take a) = (xs R).take (a * 28) := by
        have := xs_append (R.take a) (R.drop a)
        rw [List.take_append_drop] at this
        have hL : (xs (R.take a)).length = a * 28 := by rw [xs_length, List.length_take, Nat.min_eq_left (by omega)]
        rw [this, ← hL, List.take_left]
      rw [e1, ← htk, List.take_take]
      congr 1
      omega
end Go.Proofs.YtmlfekbmbnfkjabGreatDoor.E

/-
  What slices.DeleteFunc comes to over Drop's function (28 cells an item).
-/
namespace Go.Proofs.YtmlfekbmbnfkjabGreatDoor.E
set_option maxRecDepth 100000
open Go.RowKit Go.Sort

theorem Rw.stays {p : It (Cx 26) → Bool} {Bv Bw : Nat} {S : List (It (Cx 26))} {base : Nat} {J : Nat → World → Prop} (hp : PredJ p Bv Bw S base J) {j : Nat} {W : World} (o : Obj) (h : J j W) : J j (W.alloc o) :=
  hp.stays j W _ none h (World.grownBy_alloc W _ none) (fun g e => by cases e)
set_option maxHeartbeats 2000000 in
theorem deletefunc_any (p : It (Cx 26) → Bool) (Bv Bw : Nat) (S : List (It (Cx 26))) (base : Nat) (J : Nat → World → Prop) (hp : PredJ p Bv Bw S base J) (v : Value) (w : World) (hrow : Rw 112 w base v S) (h0 : J 0 w) :
    Calls Tryz.prog 97 #[v, .func (.func 98) #[] #[.pointer (some ⟨Bv, 0, none⟩), .pointer (some ⟨Bw, 0, none⟩)]] w fun e w' => ∃ v', e = .returned v' ∧ Rw 112 w' base v' (S.filter fun i => !p i) ∧ J S.length w' := by
  have hI := indexfunc_any p Bv Bw S base J hp v w hrow h0
  cases hf : S.findIdx? p with
  | none =>
    rw [idx_none hf]
    have e1 : idxI p S = -1 := by unfold idxI; rw [hf]
    have e2 : asked p S = S.length := by unfold asked; rw [hf]
    rw [e1, e2] at hI
    obtain ⟨ao, cap, hv, -, -⟩ := hrow.val
    subst hv
    clear hf e1 e2 hrow h0
    go_enter Tryz.func97, Tryz.ntmps97
    go_wp2_with fail
    refine Calls.mono hI ?_
    rintro e w1 ⟨rfl, hJ, hr⟩
    have HR : Hid (Rw 112 w1 base (.slice ao S.length cap) S) := hr
    clear hr
    go_wp2
    go_ret
    exact ⟨_, rfl, HR.out, hJ⟩
  | some k =>
    obtain ⟨hk, hfk⟩ := idx_some hf
    have e1 : idxI p S = (k : Int) := by unfold idxI; rw [hf]
    have e2 : asked p S = k + 1 := by unfold asked; rw [hf]
    rw [e1, e2] at hI
    obtain ⟨g, cap, i0, hv, hnc, -, hbg, hgl, -⟩ := hrow.atx hk
    subst hv
    have hcm' : S.length ≤ 9223372036854775807 := by obtain ⟨_, cap', -, h2, h3⟩ := hrow.val; unfold maxLen at h3; omega
    have hcc : cap ≤ 9223372036854775807 := by
      rcases hrow.2 with ⟨hv, -⟩ | ⟨g', cap', cur, hv, -, -, -, hc, -⟩
      · cases hv
      · simp only [Value.slice.injEq] at hv; unfold maxLen at hc; omega
    have HF : Hid _ := hfk
    clear hf e1 e2 hfk h0
    obtain ⟨n, hn⟩ : ∃ n, S.length = n := ⟨_, rfl⟩
    rw [hn] at hnc hcm' hk hrow hI ⊢
    have hk1 : ((k : Int) == -1) = false := by simp
    go_enter Tryz.func97, Tryz.ntmps97
    go_wp2_with fail
    refine Calls.mono hI ?_
    rintro e w1 ⟨rfl, hJ1, hr1⟩
    have HR1 : Hid (Rw 112 w1 base (.slice (some ⟨g, 0, none⟩) n cap) S) := hr1
    clear hI hrow hr1
    go_wp2
    go_loopw [5, 6] (fun ci cj wr => ∃ (a j : Nat) (R : List (It (Cx 26))), a < j ∧ j ≤ n ∧ ci = .int .i64 (a : Int) ∧ cj = .int .i64 (j : Int) ∧ R.length = n ∧ R.take a = (S.take j).filter (fun i => !p i) ∧ R.drop j = S.drop j ∧ Rw 112 wr base (.slice (some ⟨g, 0, none⟩) n cap) R ∧ J j wr) (fun _ cj _ => n - (intOf cj).toNat)
    case atStart => exact ⟨k, k + 1, S, by omega, by omega, rfl, by go_num, hn, HF.out.symm, rfl, HR1.out, hJ1⟩
    case round =>
      clear HR1 hJ1
      obtain ⟨a, j, R, haj, hjn, rfl, rfl, hRn, hta, hdr, hr, hJ⟩ := hrel
      by_cases hlt : j < n
      · have hlt' : (j : Int) < (n : Int) := by omega
        obtain ⟨g', cap', i, hv', -, hi, -, -, hrg, -⟩ := hr.atx (k := j) (by omega)
        simp only [Value.slice.injEq, Option.some.injEq, Addr.mk.injEq, and_true] at hv'
        obtain ⟨rfl, -, rfl⟩ := hv'
        have hSi : S[j]? = some i := by
          have h1 : (R.drop j)[0]? = (S.drop j)[0]? := by rw [hdr]
          rw [List.getElem?_drop, List.getElem?_drop, Nat.add_zero, hi] at h1
          exact h1.symm
        have hld := ld_mid hrg
        have hld1 : (loadVar 112 ⟨g, j * 28, none⟩).run Tryz.prog wr = .ok (.agg (xc i)) wr := hld
        have hst := st_new wr i
        have hldn := ld_new wr i
        have hx := heap_alloc_new wr (.cells (xc i) 112)
        have hJ1 := Rw.stays hp (.cells (xc i) 112) hJ
        have hr1 : Rw 112 (wr.alloc (.cells (xc i) 112)) base (.slice (some ⟨g, 0, none⟩) n cap) R := hr.alloc _
        generalize wr.alloc (.cells (xc i) 112) = W1 at *
        have hc := hp.asks j i W1 hSi hJ1
        have HR1 : Hid (Rw 112 W1 base (.slice (some ⟨g, 0, none⟩) n cap) R) := hr1
        have HP : Hid _ := hp
        clear hr hr1 hJ hJ1 hrg hld hp
        rcases Bool.eq_false_or_eq_true (p i) with hpi | hpi
        · rw [hpi] at hc
          have ht : R.take a = (S.take (j + 1)).filter (fun i => !p i) := by
            rw [hta, List.take_add_one, hSi, List.filter_append]
            simp [hpi]
          have hd : R.drop (j + 1) = S.drop (j + 1) := by rw [← List.drop_drop, ← List.drop_drop, hdr]
          have HT : Hid _ := ht
          have HD : Hid _ := hd
          clear hta hdr ht hd
          go_wp2_with (first
            | (refine wpList_loadR (ty := 112) (x := .tmp 24) (ad := ⟨g, j * 28, none⟩) (v := .agg (xc i)) rfl rfl rfl hld1 ?_)
            | (refine wpList_storeR (ty := 112) (x := .tmp 7) (y := .tmp 25) (ad := ⟨wr.heap.size, 0, none⟩) (v := .agg (xc i)) (w' := W1) rfl rfl rfl rfl hst ?_)
            | (refine wpList_loadR (ty := 112) (x := .tmp 7) (ad := ⟨wr.heap.size, 0, none⟩) (v := .agg (xc i)) rfl rfl rfl hldn ?_))
          refine Calls.mono hc ?_
          rintro e w2 ⟨rfl, hJ2, hk2⟩
          have hr2 : Hid (Rw 112 w2 base (.slice (some ⟨g, 0, none⟩) n cap) R) := Rw.kpt HR1.out hk2
          clear hx hld1 hst hldn hc hk2
          go_wp2
          go_roundw
          case rel => exact ⟨a, j + 1, R, by omega, by omega, rfl, by go_num, hRn, HT.out, HD.out, hr2.out, hJ2⟩
          case measure => simp [intOf]; omega
        · rw [hpi] at hc
          have ht : (R.set a i).take (a + 1) = (S.take (j + 1)).filter (fun i => !p i) := by
            have hal : a < (R.set a i).length := by rw [List.length_set]; omega
            rw [List.take_succ_eq_append_getElem hal, List.getElem_set_self, List.take_set_of_le (Nat.le_refl _), hta, List.take_add_one, hSi, List.filter_append]
            simp [hpi]
          have hd : (R.set a i).drop (j + 1) = S.drop (j + 1) := by
            rw [List.drop_set_of_lt (by omega), ← List.drop_drop, ← List.drop_drop, hdr]
          have HT : Hid _ := ht
          have HD : Hid _ := hd
          clear hta hdr ht hd
          go_wp2_with (first
            | (refine wpList_loadR (ty := 112) (x := .tmp 24) (ad := ⟨g, j * 28, none⟩) (v := .agg (xc i)) rfl rfl rfl hld1 ?_)
            | (refine wpList_storeR (ty := 112) (x := .tmp 7) (y := .tmp 25) (ad := ⟨wr.heap.size, 0, none⟩) (v := .agg (xc i)) (w' := W1) rfl rfl rfl rfl hst ?_)
            | (refine wpList_loadR (ty := 112) (x := .tmp 7) (ad := ⟨wr.heap.size, 0, none⟩) (v := .agg (xc i)) rfl rfl rfl hldn ?_))
          refine Calls.mono hc ?_
          rintro e w2 ⟨rfl, hJ2, hk2⟩
          have hx2 := (hk2.2 _ _ hx).trans hx
          have hld2 := ld_at hx2
          have hr2 : Rw 112 w2 base (.slice (some ⟨g, 0, none⟩) n cap) R := Rw.kpt HR1.out hk2
          obtain ⟨g', cap', ia, hv', -, -, hbg2, -, -, cur, hcur⟩ := hr2.atx (k := a) (by omega)
          simp only [Value.slice.injEq, Option.some.injEq, Addr.mk.injEq, and_true] at hv'
          obtain ⟨rfl, -, rfl⟩ := hv'
          obtain ⟨hcl, hr3⟩ := hr2.setx hcur (a := a) (by omega) i
          have hst2 := st_mid i hcur hcl
          have hJ3 := HP.out.stays (j + 1) w2 _ (some g) hJ2 (grown_row w2 g (cur.toList.take (a * 28) ++ xl i ++ cur.toList.drop (a * 28 + (xl i).length)).toArray) (fun g' e => by cases e; exact ⟨hbg2, cur, hcur⟩)
          generalize w2.setRow g (cur.toList.take (a * 28) ++ xl i ++ cur.toList.drop (a * 28 + (xl i).length)).toArray = W3 at *
          have H3 : Hid (Rw 112 W3 base (.slice (some ⟨g, 0, none⟩) n cap) (R.set a i)) := hr3
          have J3 : Hid (J (j + 1) W3) := hJ3
          have han : (a : Int) < (n : Int) := by omega
          clear hx hld1 hst hldn hc hk2 hr2 hr3 hcl hcur hx2 hJ2 hJ3
          go_wp2_with (first
            | (refine wpList_loadR (ty := 112) (x := .tmp 7) (ad := ⟨wr.heap.size, 0, none⟩) (v := .agg (xc i)) rfl rfl rfl hld2 ?_)
            | (refine wpList_storeR (ty := 112) (x := .tmp 33) (y := .tmp 32) (ad := ⟨g, a * 28, none⟩) (v := .agg (xc i)) (w' := W3) rfl rfl rfl rfl hst2 ?_))
          go_roundw
          case rel => exact ⟨a + 1, j + 1, R.set a i, by omega, by omega, by go_num, by go_num, by rw [List.length_set]; exact hRn, HT.out, HD.out, H3.out, J3.out⟩
          case measure => simp [intOf]; omega
      · have hlt' : ¬ (j : Int) < (n : Int) := by omega
        have hjn' : j = n := by omega
        have hfin : S.take j = S := List.take_of_length_le (by omega)
        rw [hfin] at hta
        obtain ⟨w3, hcl, hr3, hg3⟩ := hr.clear (a := a) (by omega)
        rw [hta] at hr3
        obtain ⟨g', cap', ia, hv', -, -, hbg2, -, -, cur, hcur⟩ := hr.atx (k := a) (by omega)
        simp only [Value.slice.injEq, Option.some.injEq, Addr.mk.injEq, and_true] at hv'
        obtain ⟨rfl, -, rfl⟩ := hv'
        have hJ3 := hp.stays j wr w3 (some g) hJ hg3 (fun g' e => by cases e; exact ⟨hbg2, cur, hcur⟩)
        have R3 : Hid (Rw 112 w3 base (.slice (some ⟨g, 0, none⟩) a cap) (S.filter fun i => !p i)) := hr3
        have J3 : Hid (J n w3) := hjn' ▸ hJ3
        have ha0 : (0 : Int) ≤ (a : Int) := by omega
        have han : (a : Int) ≤ (n : Int) := by omega
        have hac : (a : Int) ≤ (cap : Int) := by omega
        clear hta hdr hp hr hr3 hg3 hfin hJ hJ3 hcur hjn'
        go_wp2
        go_ret
        exact ⟨_, rfl, R3.out, J3.out⟩
end Go.Proofs.YtmlfekbmbnfkjabGreatDoor.E

