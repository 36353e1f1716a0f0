/-
  What byDots and slices.SortFunc come to: the things in their dots' order.
-/
import Derived.Test.YtmlfekbmbnfkjabGreatDoorR27
import Derived.Test.YtmlfekbmbnfkjabGreatDoorR09
import Derived.Shelf.SlSortCmp.NoneTotal
import Derived.Deep.RegionHeld3
import Derived.Sort.OwnSorted
import Derived.RangeFuncBound
import Derived.RangeFuncCalls
import Derived.RangeFuncLeaves
import Derived.Shelf.RegionOpen
import Derived.Test.YtmlfekbmbnfkjabGreatDoorR19
import Derived.Test.YtmlfekbmbnfkjabGreatDoorR22
import Derived.Test.YtmlfekbmbnfkjabGreatDoorR16
import Derived.Test.YtmlfekbmbnfkjabGreatDoorR26
namespace Go.Proofs.YtmlfekbmbnfkjabGreatDoor.D
set_option maxRecDepth 100000
open Go.RowKit Go.Sort

def cfI (i j : It (Cx 28)) : Int := orI (cmpI i.r j.r) (cmpI i.n j.n)

set_option maxHeartbeats 1000000 in
set_option maxRecDepth 100000 in
theorem bydots_any (i j : It (Cx 28)) (w : World) : Calls Tryz.prog 192 #[.agg (xc i), .agg (xc j)] w fun e w' => e = .returned (.int .i64 (cfI i j)) ∧ ∃ q os', w' = grow (w.drewN q) os' := by
  have hr := fun W => compare_any i.r j.r W
  have hn := fun W => compare_any i.n j.n W
  obtain ⟨W, hW⟩ : ∃ W, (w.alloc (.cells (xc i) 135)).alloc (.cells (xc j) 135) = W := ⟨_, rfl⟩
  have hs : W.heap.size = w.heap.size + 2 := by rw [← hW]; simp
  have ha : W.heap[w.heap.size]? = some (.cells (xc i) 135 (0, 0)) := by
    rw [← hW, Below.heap_alloc _ _ _ (by simp)]
    exact heap_alloc_new w _
  have hb : W.heap[w.heap.size + 1]? = some (.cells (xc j) 135 (0, 0)) := by
    rw [← hW]
    have := heap_alloc_new (w.alloc (.cells (xc i) 135)) (.cells (xc j) 135)
    rwa [World.size_alloc] at this
  have c0 : W.cell? ⟨w.heap.size, 0, none⟩ = some (.int .i64 i.r) := cell_of_row W _ 0 _ _ _ ha
  have c1 : W.cell? ⟨w.heap.size, 1, none⟩ = some (.int .i64 i.n) := cell_of_row W _ 1 _ _ _ ha
  have d0 : W.cell? ⟨w.heap.size + 1, 0, none⟩ = some (.int .i64 j.r) := cell_of_row W _ 0 _ _ _ hb
  have d1 : W.cell? ⟨w.heap.size + 1, 1, none⟩ = some (.int .i64 j.n) := cell_of_row W _ 1 _ _ _ hb
  have hor := fun (b : Nat) (W' : World) => or_any (cmpI i.r j.r) (cmpI i.n j.n) b W'
  rw [show cfI i j = orI (cmpI i.r j.r) (cmpI i.n j.n) from rfl]
  have HO : Hid _ := hor
  generalize orI (cmpI i.r j.r) (cmpI i.n j.n) = c at *
  generalize cmpI i.r j.r = p at *
  generalize cmpI i.n j.n = q at *
  obtain ⟨W2, hW2⟩ : ∃ W2, (W.alloc (.cells #[.int .i64 p, .int .i64 q] 3)).drew = W2 := ⟨_, rfl⟩
  have hb2 : Below W.heap.size W W2 := hW2 ▸ ((Below.refl _ W).alloc (Nat.le_refl _) _).drew
  have f0 := (hb2.cell (p := ⟨w.heap.size, 0, none⟩) (by show w.heap.size < _; omega)).trans c0
  have f1 := (hb2.cell (p := ⟨w.heap.size, 1, none⟩) (by show w.heap.size < _; omega)).trans c1
  have f2 := (hb2.cell (p := ⟨w.heap.size + 1, 0, none⟩) (by show w.heap.size + 1 < _; omega)).trans d0
  have f3 := (hb2.cell (p := ⟨w.heap.size + 1, 1, none⟩) (by show w.heap.size + 1 < _; omega)).trans d1
  have hnew : W2.heap[w.heap.size + 2]? = some (.cells #[.int .i64 p, .int .i64 q] 3 (0, 0)) := by
    rw [← hW2, ← hs]
    exact heap_alloc_new W _
  have g0 : W2.cell? ⟨w.heap.size + 2, 0, none⟩ = some (.int .i64 p) := cell_of_row W2 _ 0 _ _ _ hnew
  have g1 : W2.cell? ⟨w.heap.size + 2, 1, none⟩ = some (.int .i64 q) := cell_of_row W2 _ 1 _ _ _ hnew
  have hgw : Hid (∃ k os', W2 = grow (w.drewN k) os') := ⟨1, _, by
    rw [← hW2, ← hW, alloc_eq_grow, alloc_eq_grow, alloc_eq_grow, grow_grow, grow_grow, drew_grow]; rfl⟩
  have hr' : Hid _ := hr
  have hn' : Hid _ := hn
  clear hor hr hn ha hb hb2 hnew
  go_enter Tryz.func192, Tryz.ntmps192
  go_wp2
  clear hW
  go_region_held3 (fun w' => w'.cell? ⟨w.heap.size, 0, none⟩ = some (.int .i64 i.r) ∧ w'.cell? ⟨w.heap.size, 1, none⟩ = some (.int .i64 i.n) ∧ w'.cell? ⟨w.heap.size + 1, 0, none⟩ = some (.int .i64 j.r) ∧ w'.cell? ⟨w.heap.size + 1, 1, none⟩ = some (.int .i64 j.n))
    (first | assumption | exact ⟨f0, f1, f2, f3⟩ | exact ⟨c0, c1, d0, d1⟩)
    (first
    | (go_at_call_of 174 (Value.int IntKind.i64 i.r); refine Calls.mono (hr'.out _) ?_; rintro e wx ⟨rfl, rfl⟩)
    | (go_at_call_of 174 (Value.int IntKind.i64 i.n); refine Calls.mono (hn'.out _) ?_; rintro e wx ⟨rfl, rfl⟩)
    | (go_at_call 173; refine Calls.mono (HO.out _ _ g0 g1) ?_; rintro e wx ⟨rfl, rfl⟩))
  all_goals
    go_wp2
    go_ret
    exact ⟨rfl, hgw.out⟩
end Go.Proofs.YtmlfekbmbnfkjabGreatDoor.D

/-
  What slices.SortFunc by dots comes to: the same slice, in order.
-/
namespace Go.Proofs.YtmlfekbmbnfkjabGreatDoor.D
set_option maxRecDepth 100000
set_option maxRecDepth 100000
open Go.RowKit Go.Sort

instance : Inhabited (It (Cx 28)) := ⟨⟨0, 0, zx⟩⟩
theorem cfI_lt (i j : It (Cx 28)) : ltOf cfI i j = bef i j := by
  unfold ltOf cfI orI cmpI bef
  by_cases h1 : i.r < j.r
  · simp [h1]
  · by_cases h2 : j.r < i.r
    · have : ¬ i.r = j.r := by omega
      simp [h1, h2, this]
    · have e : i.r = j.r := by omega
      by_cases h3 : i.n < j.n
      · simp [e, h3]
      · by_cases h4 : j.n < i.n <;> simp [e, h3, h4]
theorem cfI_swo : SWO (ltOf (α := It (Cx 28)) cfI) where
  irrefl x := by rw [cfI_lt]; exact bef_irrefl x
  trans x y z h1 h2 := by rw [cfI_lt] at *; exact bef_trans h1 h2
  ntrans x y z h1 h2 := by
    rw [cfI_lt] at *
    cases h : bef x z
    · rfl
    · rw [bef_iff] at h
      have k1 : ¬ (x.r < y.r ∨ (x.r = y.r ∧ x.n < y.n)) := fun e => by rw [bef_iff.2 e] at h1; cases h1
      have k2 : ¬ (y.r < z.r ∨ (y.r = z.r ∧ y.n < z.n)) := fun e => by rw [bef_iff.2 e] at h2; cases h2
      omega
theorem flat_xs (d : Array (It (Cx 28))) : (flatK xl 30 d).toList = xs d.toList := by
  apply List.ext_getElem?
  intro t
  by_cases ht : t < d.size * 30
  · have hk : t / 30 < d.size := by omega
    have hi : d.toList[t / 30]? = some d[t / 30] := by simp [hk]
    have hm : t % 30 < (xl d[t / 30]).length := by rw [xl_length]; omega
    obtain ⟨v, hv⟩ : ∃ v, (xl d[t / 30])[t % 30]? = some v := ⟨_, List.getElem?_eq_getElem hm⟩
    have h1 := xs_at (t / 30) _ hi (t % 30) v hv
    rw [show t / 30 * 30 + t % 30 = t by omega] at h1
    have hsz : t < (flatK xl 30 d).size := by rw [size_flatK]; exact ht
    have h2 := get_flatK xl 30 d t ht
    rw [getElem!_pos _ t hsz, getElem!_pos d _ hk] at h2
    rw [h1, Array.getElem?_toList, Array.getElem?_eq_getElem hsz, h2]
    obtain ⟨h3, h4⟩ := List.getElem?_eq_some_iff.1 hv
    rw [getElem!_pos (xl d[t / 30]) (t % 30) h3, h4]
  · rw [List.getElem?_eq_none (by rw [Array.length_toList, size_flatK]; omega), List.getElem?_eq_none (by rw [xs_length, Array.length_toList]; omega)]
theorem holds_xs {w : World} {g : Nat} {cur : Array Value} {e : TypeId} {L : List (It (Cx 28))} (hb : w.heap[g]? = some (.cells cur e (0, 0))) (ht : cur.toList.take (L.length * 30) = xs L) : HoldsK xl 30 w g 0 L.toArray := by
  intro j hj
  have hj' : j < L.length * 30 := by rw [size_flatK] at hj; simpa using hj
  refine ⟨?_, by simp [World.frozen?, hb]⟩
  have h1 : (cur.toList.take (L.length * 30))[j]? = (flatK xl 30 L.toArray).toList[j]? := by rw [ht, flat_xs]
  rw [List.getElem?_take_of_lt hj', Array.getElem?_toList, Array.getElem?_toList, Array.getElem?_eq_getElem hj] at h1
  simp only [World.cell?, hb, Nat.zero_add]
  simp only [Option.isSome_none, Bool.false_eq_true, if_false]
  rw [h1, getElem!_pos _ j hj]
  rfl
theorem heap_sortedK {w : World} {g n : Nat} {os : Array Obj} {cur : Array Value} {e : TypeId} {fr : Nat × Nat} (d : Array (It (Cx 28))) (hb : w.heap[g]? = some (.cells cur e fr)) :
    (sortWorldK xl 30 w g 0 n d os).heap[g]? = some (.cells (putCells id 0 (flatK xl 30 d) cur) e fr) := by
  have hg : g < w.heap.size := (Array.getElem?_eq_some_iff.1 hb).1
  unfold sortWorldK putRowK
  rw [heap_grow_old _ _ (by simpa using hg)]
  simp [putRow, mapBlock, Sort.ahead, Array.getElem?_modify, hb, onCells]
theorem grownBy_sortedK {w : World} {g n : Nat} {os : Array Obj} (d : Array (It (Cx 28))) : w.grownBy (sortWorldK xl 30 w g 0 n d os) (some g) := by
  unfold sortWorldK putRowK
  refine ⟨rfl, rfl, rfl, by simp, fun k hk hne => ?_⟩
  rw [heap_grow_old _ _ (by simpa using hk)]
  have : g ≠ k := fun e => hne (by rw [e])
  simp [putRow, mapBlock, Sort.ahead, Array.getElem?_modify, this]
theorem take_putCellsK (cur : Array Value) (d : Array (It (Cx 28))) (h : d.size * 30 ≤ cur.size) : (putCells id 0 (flatK xl 30 d) cur).toList.take (d.size * 30) = xs d.toList := by
  rw [← flat_xs]
  apply List.ext_getElem?
  intro j
  by_cases hj : j < d.size * 30
  · have hj2 : j < (flatK xl 30 d).size := by rw [size_flatK]; exact hj
    rw [List.getElem?_take_of_lt hj, Array.getElem?_toList, Array.getElem?_toList, Array.getElem?_eq_getElem hj2]
    simp [putCells, hj, show j < cur.size by omega]
  · rw [List.getElem?_take_eq_none (by omega), List.getElem?_eq_none (by rw [Array.length_toList, size_flatK]; omega)]

theorem sorted_is {L S : List (It (Cx 28))} (hp : L.Perm S) (hS : Srt S) (d : Array (It (Cx 28))) (h1 : PermIn 0 L.toArray.size L.toArray d) (h2 : SortedIn (ltOf cfI) 0 L.toArray.size d) : d.toList = S := by
  obtain ⟨hs, -, hpm⟩ := h1
  have e1 : (d.extract 0 L.toArray.size) = d := by rw [← hs]; exact Array.extract_size
  have e2 : (L.toArray.extract 0 L.toArray.size) = L.toArray := Array.extract_size
  rw [e1, e2] at hpm
  have p1 : d.toList.Perm S := hpm.trans hp
  have ap : d.toList.Pairwise fun a b => ¬ (a.r = b.r ∧ a.n = b.n) := (p1.symm.pairwise_iff (fun {a b} (hh : ¬ (a.r = b.r ∧ a.n = b.n)) e => hh ⟨e.1.symm, e.2.symm⟩)).1 hS.apart
  have sr : Srt d.toList := by
    unfold Srt
    rw [List.pairwise_iff_getElem] at ap ⊢
    intro i j hi hj hij
    have hi' : i < d.size := by simpa using hi
    have hj' : j < d.size := by simpa using hj
    have := h2 i j (Nat.zero_le _) hij (by rw [← hs]; exact hj')
    rw [getElem!_pos d j hj', getElem!_pos d i hi', cfI_lt] at this
    have hne := ap i j hi hj hij
    rcases bef_tri d[i] d[j] with h | h | h
    · rw [isAt_iff] at h
      exact absurd h (by simpa using hne)
    · simpa using h
    · rw [this] at h; cases h
  exact Srt.eq_of_perm sr hS p1

theorem sort_any (v : Value) (L S : List (It (Cx 28))) (base : Nat) (w : World) (hrow : Rw 135 w base v L) (hl : L.length ≤ 1048576) (hp : L.Perm S) (hS : Srt S) :
    Calls Tryz.prog 221 #[v, .func (.func 192) #[] #[]] w fun e w' => e = .returned (.tuple #[]) ∧ Rw 135 w' base v S ∧ w.grownBy w' v.ownBlock := by
  have hlen := hp.length_eq
  rcases hrow.2 with ⟨rfl, h0⟩ | ⟨g, cap, cur, rfl, hbg, hg, hn, hc, hcs, htk⟩
  · have hL : L = [] := List.eq_nil_of_length_eq_zero h0
    subst hL
    have hS0 : S = [] := List.eq_nil_of_length_eq_zero hlen.symm
    subst hS0
    have hcon := AnyF.slices_SortFunc_none sortLaid none 0 (.func (.func 192) #[] #[]) w
    change Calls Tryz.prog 221 _ _ _ at hcon
    refine hcon.mono ?_
    rintro e w' ⟨he, rfl⟩
    exact ⟨he, hrow, World.grownBy.refl _ _⟩
  · have hgl : g < w.heap.size := (Array.getElem?_eq_some_iff.1 hg).1
    have eg : ∀ args w, (callFunc 192 args).run Tryz.prog w = .ok (.enter 192 args) w := enters_of Tryz.func192 (by kernel_rfl) rfl
    have hcmp : CmpLays Tryz.prog 192 #[] xl 30 cfI g 0 L.toArray.size w := fun m os dk _ x y => bydots_any x y _
    have hcon := AnyQ.slices_SortFunc sortLaid 30 Tryz.isAgg135 Tryz.sizeOf135 xl xl_length xl_one cfI cfI_swo 192 #[] g 0 cap L.toArray w eg hcmp (holds_xs hg htk) hgl (by simp; omega)
    change Calls Tryz.prog 221 _ _ _ at hcon
    rw [List.size_toArray] at hcon
    refine hcon.mono ?_
    rintro e w' ⟨he, d, n, os, h1, h2, rfl⟩
    have hd := sorted_is hp hS d (by rw [List.size_toArray]; exact h1) (by rw [List.size_toArray]; exact h2)
    have hds : d.size = L.length := by have := congrArg List.length hd; rw [Array.length_toList] at this; omega
    refine ⟨he, ⟨xs_length S, .inr ⟨g, cap, _, by rw [hlen], hbg, heap_sortedK d hg, by omega, hc, by simp [putCells, hcs], ?_⟩⟩, grownBy_sortedK d⟩
    have := take_putCellsK cur d (by rw [hcs, hds]; omega)
    rw [hd, hds, hlen] at this
    exact this
end Go.Proofs.YtmlfekbmbnfkjabGreatDoor.D

/-
  What slices.AppendSeq(nil, seq) and slices.Collect(seq) come to, over whatever iterator.
-/
namespace Go.Proofs.YtmlfekbmbnfkjabGreatDoor.D
set_option maxRecDepth 100000
set_option maxRecDepth 100000
open Go.RowKit Go.Shelf Go.Sort
attribute [local go_sem] Oper.semAt_some

theorem elB : El 187 135 #[Value.int IntKind.i64 0, Value.int IntKind.i64 0, Value.int IntKind.i64 0, Value.int IntKind.i64 0, Value.int IntKind.i64 0, Value.int IntKind.i64 0, Value.int IntKind.i64 0, Value.int IntKind.i64 0, Value.int IntKind.i64 0, Value.int IntKind.i64 0, Value.int IntKind.i64 0, Value.int IntKind.i64 0, Value.int IntKind.i64 0, Value.int IntKind.i64 0, Value.int IntKind.i64 0, Value.int IntKind.i64 0, Value.int IntKind.i64 0, Value.int IntKind.i64 0, Value.int IntKind.i64 0, Value.int IntKind.i64 0, Value.int IntKind.i64 0, Value.int IntKind.i64 0, Value.string { data := #[] }, Value.string { data := #[] }, Value.string { data := #[] }, Value.int IntKind.i64 0, Value.int IntKind.i64 0, Value.int IntKind.i64 0, Value.int IntKind.i64 0, Value.int IntKind.i64 0] 264 := ⟨Tryz.underlying187, by kernel_rfl, rfl, by decide⟩

/-- Between two rounds: the box holds a row of what has come. -/
def ApI (w : World) (Bs : Nat) (pre : List (It (Cx 28))) (W : World) : Prop := (∃ v, W.heap[Bs]? = some (.cells #[v] 187 (0, 0)) ∧ Rw 135 W w.heap.size v pre) ∧ Below w.heap.size w W
/-- Behind the assignment: the round's item lies in a block. -/
def ApA (tm : Nat → Array Value) (x : It (Cx 28)) (a' : Act) (W : World) : Prop := ∃ Bx, W.heap[Bx]? = some (.cells (xc x) 135 (0, 0)) ∧ a' = { tmps := tm Bx, defers := [] }

theorem Rw.grown {e : TypeId} {w w' : World} {base : Nat} {v : Value} {S : List (It (Cx 28))} {row : Option Nat} (h : Rw e w base v S) (hg : w.grownBy w' row) (hne : ∀ k, v.ownBlock = some k → row ≠ some k) : Rw e w' base v S :=
  h.keep fun k hk => hg.block k (h.lt k hk).2 (fun e => hne k hk e.symm)
theorem Rw.cellsAt {e : TypeId} {w : World} {base : Nat} {v : Value} {S : List (It (Cx 28))} (h : Rw e w base v S) : ∀ k, v.ownBlock = some k → ∃ cur, w.heap[k]? = some (.cells cur e (0, 0)) := by
  intro k hk
  rcases h.2 with ⟨rfl, -⟩ | ⟨g, cap, cur, rfl, hbg, hg, -⟩
  · cases hk
  · obtain rfl : g = k := by simpa [Value.ownBlock] using hk
    exact ⟨cur, hg⟩
theorem Rw.ne {e : TypeId} {w : World} {base : Nat} {v : Value} {S : List (It (Cx 28))} (h : Rw e w base v S) {j : Nat} {o : Obj} (hj : w.heap[j]? = some o) (hno : ∀ cur, o ≠ .cells cur e (0, 0)) : v.ownBlock ≠ some j := by
  intro hk
  obtain ⟨cur, hc⟩ := h.cellsAt j hk
  rw [hj] at hc
  exact hno cur (Option.some.inj hc)

theorem apI_own (w : World) (Bs B : Nat) (hB : w.heap.size ≤ B) : OwnFrom B (ApI w Bs) := fun pre W W' row ⟨⟨v, hv, hr⟩, hb⟩ hg hrow => by
  refine ⟨⟨v, ?_, ?_⟩, hb.grown hg hb.size (fun k e => by have := (hrow k e).1; omega)⟩
  · refine (hg.block Bs (Array.getElem?_eq_some_iff.1 hv).1 (fun e => ?_)).trans hv
    obtain ⟨-, o, ho, hc⟩ := hrow Bs e.symm
    rw [hv] at ho; cases ho; cases hc
  · refine hr.grown hg fun k hk e => ?_
    obtain ⟨-, o, ho, hc⟩ := hrow k e
    obtain ⟨cur, hcur⟩ := hr.cellsAt k hk
    rw [hcur] at ho; cases ho; cases hc
theorem apA_own (tm : Nat → Array Value) (x : It (Cx 28)) (a' : Act) (B : Nat) : OwnFrom B (fun (_ : Unit) W => ApA tm x a' W) := fun _ W W' row ⟨Bx, h, e⟩ hg hrow => by
  refine ⟨Bx, (hg.block Bx (Array.getElem?_eq_some_iff.1 h).1 (fun e => ?_)).trans h, e⟩
  obtain ⟨-, o, ho, hc⟩ := hrow Bx e.symm
  rw [h] at ho; cases ho; cases hc

/-- 'append' whose run is known. -/
theorem wpListIn_appR {F : Fence} {n : Nat} {P : Program} {w : World} {ops : Array Oper} {rest : List Oper} {o : Oper} {a : Act} {Q : Exit → Act → World → Prop} (hg : o.guard = none) (s x : Operand) (T : TypeId) (hop : o.op = Op.call { callee := Callee.builtin Builtin.append, args := #[s, x], argTypes := #[T, T] })
    (v y v' : Value) (w' : World) (hs : a.eval s = v) (hx : a.eval x = y) (hr : (Builtin.append_ #[T, T] o.type #[v, y]).run P w = .ok v' w') (hK : wpListIn F n P ops Q rest (a.put o.dst v') w') : wpListIn F n P ops Q (o :: rest) a w := by
  refine wpListIn_plain hg fun K hK' => ?_
  unfold Oper.wpIn
  refine ⟨by simp [Oper.about, hop, resolve, Target.leads, Sem.run_pure], ?_⟩
  rw [Oper.semAt_plain F _ _ (by rw [hop]; intro c hc'; cases hc')]
  simp only [execOp, hop, resolve, invoke, builtin, Sem.run_bind, Sem.run_pure, Result.andThen_ok, List.map_toArray, List.map_cons, List.map_nil, hs, hx, hr]
  exact hK' _ _ hK

set_option maxHeartbeats 2000000 in
theorem appendseq_in (n : Nat) (hn : 2 ≤ n) (g : Nat) (lb : Array Value) (eg : ∀ args w, (callFunc g args).run Tryz.prog w = .ok (.enter g args) w)
    (S Sp : List (It (Cx 28)) → Prop) (N : Nat) (hN : N ≤ 1048576) (w : World) (hseq : SeqStopsK Fence.wide (n - 1) Tryz.prog g lb (fun i : It (Cx 28) => #[.agg (xc i)]) KeepsWalks S Sp N w) :
    CallsIn Fence.wide n Tryz.prog 263 #[.slice none 0 0, .func (.func g) #[] lb] w fun e w' => ∃ v xs, e = .returned v ∧ S xs ∧ Rw 135 w' w.heap.size v xs ∧ Below w.heap.size w w' := by
  have h1 : 1 ≤ n := by omega
  refine callsIn_of_wp_marks Tryz.func263 rfl trivial ?_ rfl
  simp only [Tryz.ntmps263, List.size_toArray, List.length_cons, List.length_nil, Nat.reduceAdd, Nat.reduceSub, Array.replicate_succ, Array.replicate_zero, List.push_toArray, List.append_toArray, List.nil_append, List.cons_append]
  gi_wp2
  have hbw : Below w.heap.size w (w.alloc (.cells #[.slice none 0 0] 187)) := (Below.refl _ w).alloc (Nat.le_refl _) _
  have hI0 : ApI w w.heap.size [] (w.alloc (.cells #[.slice none 0 0] 187)) := ⟨⟨_, heap_alloc_new w _, rw_nil _ _ _⟩, hbw⟩
  have hsz : (w.alloc (.cells #[.slice none 0 0] 187)).heap.size = w.heap.size + 1 := by simp
  refine wpIn_rangeFunc_ownH rfl h1 (gf := g) (lb := lb) rfl trivial eg hseq walksK_t walksK_b hbw (fun _ => rfl)
    (ApI w w.heap.size) (fun _ _ _ => False) (apI_own w w.heap.size _ (by rw [hsz]; omega)) (fun _ _ _ _ _ h _ _ => h) hI0
    (fun x => ApA (fun Bx => #[.slice none 0 0, .func (.func g) #[] lb, .pointer (some ⟨w.heap.size, 0, none⟩), undef, .slice none 0 0, .pointer (some ⟨Bx, 0, none⟩), .func (.func g) #[] lb, .agg (xc x), undef, undef, undef, undef, undef]) x)
    (fun x a' => apA_own _ x a' _) ?assign ?body ?done ?stop
  case assign =>
    intro l pre x W K hi hK
    have hst := st_new W x
    gi_wp2_with (first
      | (refine wpListIn_storeR (ty := 135) (x := .tmp 5) (y := .tmp 7) (ad := ⟨W.heap.size, 0, none⟩) (v := .agg (xc x)) (w' := W.alloc (.cells (xc x) 135)) rfl rfl rfl rfl hst ?_)
      | gi_in)
    exact hK _ _ ((KeepsOthers.alloc _ _).from _) (KeepsWalks.alloc _ _) ((apI_own w w.heap.size w.heap.size (Nat.le_refl _)).alloc _ hi) ⟨W.heap.size, heap_alloc_new W _, rfl⟩
  case body =>
    rintro l pre x a' W hl hr ⟨⟨v, hv, hrow⟩, hb⟩ ⟨Bx, hx, rfl⟩ hlt
    have c0 : W.cell? ⟨w.heap.size, 0, none⟩ = some v := cell_of_row W _ 0 _ _ _ hv
    have hld := ld_at hx
    have hbd := run_build1 elB W x
    obtain ⟨v', w', happ, hrow', hg', hown'⟩ := run_app1 elB (w := W.alloc (.cells (xc x) 135)) 187 w.heap.size v pre (hrow.alloc _) ⟨W.heap.size, 0, none⟩ 1 x (ats_new W _ x) (by omega) (by have := hb.size; simp; omega)
    have hvl := hrow.val
    obtain ⟨ao', cap', hv', -, -⟩ := hrow'.val
    have hne := hrow.ne hv (fun cur e => by cases e)
    have hv2 : w'.heap[w.heap.size]? = some (.cells #[v] 187 (0, 0)) := (hg'.block _ (by have := (Array.getElem?_eq_some_iff.1 hv).1; simp; omega) (fun e => hne e.symm)).trans ((Below.heap_alloc W _ _ (Array.getElem?_eq_some_iff.1 hv).1).trans hv)
    have c1 : w'.cell? ⟨w.heap.size, 0, none⟩ = some v := cell_of_row w' _ 0 _ _ _ hv2
    have f1 : w'.frozen? ⟨w.heap.size, 0, none⟩ = false := frozen_of_row w' _ 0 _ _ hv2
    have ko : KeepsOthers W (w'.setCell ⟨w.heap.size, 0, none⟩ v') := ((KeepsOthers.alloc W _).trans (KeepsOthers.of_grownBy hg' (fun j o hj ho => by
      obtain ⟨cur, hc⟩ := (hrow.alloc (.cells (xc x) 135)).cellsAt j hj
      rw [hc] at ho; cases ho; rfl))).trans (KeepsOthers.setCell _ _ _)
    have hne' := hrow'.ne hv2 (fun cur e => by cases e)
    have hgs : w'.grownBy (w'.setCell ⟨w.heap.size, 0, none⟩ v') (some w.heap.size) := ⟨rfl, rfl, rfl, by simp [World.setCell], fun k _ hk => Below.heap_setCell _ _ _ k (fun e => hk (by rw [e]))⟩
    have hb2 : Below w.heap.size w (w'.setCell ⟨w.heap.size, 0, none⟩ v') := ((hb.alloc hb.size _).grown hg' (by have := hb.size; simp; omega) (fun k e => (hrow.lt k e).1)).grown hgs (by have := hb.size; have := hg'.size; simp at this; omega) (fun k e => by cases e; exact Nat.le_refl _)
    have hfin : ApI w w.heap.size (pre ++ [x]) (w'.setCell ⟨w.heap.size, 0, none⟩ v') := ⟨⟨v', by rw [heap_setCell_same _ _ 0 _ _ _ hv2]; rfl, hrow'.grown hgs (fun k hk e => hne' (by rw [hk, ← e]))⟩, hb2⟩
    have FIN : Hid (KeepsFrom (w.alloc (.cells #[.slice none 0 0] 187)).heap.size W (w'.setCell ⟨w.heap.size, 0, none⟩ v') ∧ KeepsWalks W (w'.setCell ⟨w.heap.size, 0, none⟩ v') ∧ ApI w w.heap.size (pre ++ [x]) (w'.setCell ⟨w.heap.size, 0, none⟩ v')) := ⟨ko.from _, ko.walks, hfin⟩
    obtain ⟨ao, cap, rfl, -, -⟩ := hvl
    subst hv'
    generalize (pre ++ [x]).length = m at *
    clear ko hne' hgs hb2 hfin hg' hown' hrow' hrow hv hv2 hx hne hl hr hseq hI0 hbw
    gi_wp2_with (first | (refine wpListIn_loadR (ty := 135) (x := .tmp 5) (ad := ⟨Bx, 0, none⟩) (v := .agg (xc x)) rfl rfl rfl hld ?_) | (refine wpListIn_buildR (ty := 187) (k := 1) (x := .tmp 9) (u := .agg (xc x)) (v := .slice (some ⟨W.heap.size, 0, none⟩) 1 1) (w' := W.alloc (.cells (xc x) 135)) rfl rfl rfl hbd ?_) | (gi_at_builtin; refine wpListIn_appR rfl _ _ 187 rfl _ _ _ _ rfl rfl happ ?_) | gi_in)
    exact FIN.out
  case done =>
    rintro D xs W hD hS ⟨⟨v, hv, hrow⟩, hb⟩ hK
    have c0 : W.cell? ⟨w.heap.size, 0, none⟩ = some v := cell_of_row W _ 0 _ _ _ hv
    have hR2 : Rw 135 (W.putObj D (.deferred none)) w.heap.size v xs := hrow.grown (grownBy_putObj' W D _) (fun k hk e => by
      obtain ⟨cur, hc⟩ := hrow.cellsAt k hk
      cases e
      rw [hK] at hc; cases hc)
    have hb2 : Below w.heap.size w (W.putObj D (.deferred none)) := hb.grown (grownBy_putObj' W D _) hb.size (fun k e => by cases e; rw [hsz] at hD; omega)
    clear hseq hI0 hbw
    gi_wp2
    refine ⟨by simp, .inl ⟨_, _, rfl, run_takeDeferred hK, ?_⟩⟩
    exact ⟨_, results_tmp rfl _ _ _, v, xs, rfl, hS, hR2, hb2⟩
  case stop =>
    rintro D c pre W _ _ h _
    exact h.elim
end Go.Proofs.YtmlfekbmbnfkjabGreatDoor.D

/-
  What Items comes to: all things, in their dots' order.
-/
namespace Go.Proofs.YtmlfekbmbnfkjabGreatDoor.D
set_option maxRecDepth 100000
set_option maxRecDepth 100000
open Go.RowKit Go.Shelf Go.Sort
open Go.ChangeMaps (setBlock)

set_option maxHeartbeats 1000000 in
/-- Over a nil map nothing comes. -/
theorem valuesf_nil (n l Bm : Nat) (J : List (It (Cx 28)) → World → Prop) (W : World) (hJ : AbidesFrom W.heap.size J) (hm : W.cell? ⟨Bm, 0, none⟩ = some (.map none)) (h0 : J [] W) :
    CallsIn Fence.wide n Tryz.prog 222 #[.func (.yield l) #[] #[], .pointer (some ⟨Bm, 0, none⟩)] W fun e W' => (∃ v, e = .returned v) ∧ J [] W' := by
  have hJ0 := hJ [] W (W.alloc (.mapIter none 0 #[] 0)) none h0 (World.grownBy_alloc W _ none) (fun r e => by cases e)
  have hrun := run_range_nilMap (P := Tryz.prog) W 82 _ _ Tryz.underlying82
  have hnx := run_next_nilMap (P := Tryz.prog) W 0 0 0 #[]
  generalize W.alloc (.mapIter none 0 #[] 0) = W2 at *
  refine callsIn_of_wp Tryz.func222 rfl trivial ?_ rfl
  simp only [Tryz.ntmps222, List.size_toArray, List.length_cons, List.length_nil, Nat.reduceAdd, Nat.reduceSub, Array.replicate_succ, Array.replicate_zero, List.push_toArray, List.append_toArray, List.nil_append, List.cons_append]
  gi_wp2
  gi_loopw [4] (fun _ wr => wr = W2) (fun _ _ => 0)
  case atStart => rfl
  case round =>
    subst hrel
    gi_wp2
    go_end0
    exact ⟨⟨_, rfl⟩, hJ0⟩
theorem values_nil (n Bm : Nat) (w : World) (hBm : Bm < w.heap.size) (hm : w.cell? ⟨Bm, 0, none⟩ = some (.map none)) :
    SeqStopsK Fence.wide n Tryz.prog 222 #[.pointer (some ⟨Bm, 0, none⟩)] (fun i : It (Cx 28) => #[.agg (xc i)]) KeepsWalks (fun xs => xs.Perm []) (fun _ => True) 0 w := fun l J _ W hW hJ _ _ h0 =>
  (valuesf_nil n l Bm J W hJ ((hW.cell (p := ⟨Bm, 0, none⟩) hBm).trans hm) h0).mono fun _ _ ⟨h1, h2⟩ => ⟨h1, .inl ⟨[], List.Perm.refl _, h2⟩⟩

theorem values_any (m : Option Nat) (w : World) : Calls Tryz.prog 191 #[.map m] w fun e w' => e = .returned (.func (.func 222) #[] #[.pointer (some ⟨w.heap.size, 0, none⟩)]) ∧ w' = w.alloc (.cells #[.map m] 82) := by
  have hmf : ∀ (fn : Fn) (first cap : Array Value) (w : World), (Instr.makeFunc fn first cap).run Tryz.prog w = .ok (.func fn first cap) w := fun _ _ _ _ => rfl
  go_enter Tryz.func191, Tryz.ntmps191
  go_wp2
  go_ret
  exact ⟨rfl, rfl⟩
set_option maxHeartbeats 400000 in
/-- slices.Collect over a bag's map. -/
theorem collect_any (Bm : Nat) (m : Option Nat) (S : List (It (Cx 28))) (w : World) (hBm : Bm < w.heap.size) (hm : w.cell? ⟨Bm, 0, none⟩ = some (.map m)) (hS : (m = none ∧ S = []) ∨ ∃ b, m = some b ∧ Mp w b S) (hl : S.length ≤ 1048576) :
    Calls Tryz.prog 220 #[.func (.func 222) #[] #[.pointer (some ⟨Bm, 0, none⟩)]] w fun e w' => ∃ v L, e = .returned v ∧ L.Perm S ∧ Rw 135 w' w.heap.size v L ∧ Below w.heap.size w w' := by
  have eg : ∀ args w, (callFunc 222 args).run Tryz.prog w = .ok (.enter 222 args) w := enters_of Tryz.func222 (by kernel_rfl) rfl
  have hA : Calls Tryz.prog 263 #[.slice none 0 0, .func (.func 222) #[] #[.pointer (some ⟨Bm, 0, none⟩)]] w fun e w' => ∃ v L, e = .returned v ∧ L.Perm S ∧ Rw 135 w' w.heap.size v L ∧ Below w.heap.size w w' := by
    refine (callsIn_wide (n := 3)).1 ?_
    rcases hS with ⟨rfl, rfl⟩ | ⟨b, rfl, hM⟩
    · exact appendseq_in 3 (by omega) 222 _ eg _ _ 0 (by omega) w (values_nil 2 Bm w hBm hm)
    · exact appendseq_in 3 (by omega) 222 _ eg _ _ S.length hl w (values_stops 2 Bm b S (by omega) w hBm hm hM)
  go_enter Tryz.func220, Tryz.ntmps220
  go_wp2_with fail
  refine Calls.mono hA ?_
  rintro e w1 ⟨v, L, rfl, h1, h2, h3⟩
  go_wp2
  go_ret
  exact ⟨v, L, rfl, h1, h2, h3⟩
set_option maxHeartbeats 400000 in
theorem sortedfunc_any (Bm : Nat) (m : Option Nat) (S : List (It (Cx 28))) (w : World) (hBm : Bm < w.heap.size) (hm : w.cell? ⟨Bm, 0, none⟩ = some (.map m)) (hS : (m = none ∧ S = []) ∨ ∃ b, m = some b ∧ Mp w b S) (hs : Srt S) (hl : S.length ≤ 1048576) :
    Calls Tryz.prog 190 #[.func (.func 222) #[] #[.pointer (some ⟨Bm, 0, none⟩)], .func (.func 192) #[] #[]] w fun e w' => ∃ v, e = .returned v ∧ Rw 135 w' w.heap.size v S ∧ Below w.heap.size w w' := by
  have hC := collect_any Bm m S w hBm hm hS hl
  go_enter Tryz.func190, Tryz.ntmps190
  go_wp2_with fail
  refine Calls.mono hC ?_
  rintro e w1 ⟨v, L, rfl, h1, h2, h3⟩
  have hSo := sort_any v L S w.heap.size w1 h2 (by have := h1.length_eq; omega) h1 hs
  go_wp2_with fail
  refine Calls.mono hSo ?_
  rintro e w2 ⟨rfl, h4, h5⟩
  have hb := h3.grown h5 h3.size (fun k e => (h2.lt k e).1)
  go_wp2
  go_ret
  exact ⟨v, rfl, h4, hb⟩
set_option maxHeartbeats 400000 in
theorem items_any (g o : Nat) (cs : Array Value) (ty : TypeId) (m : Option Nat) (S : List (It (Cx 28))) (w : World) (h : Bg w g o cs ty m S) (hl : S.length ≤ 1048576) :
    Calls Tryz.prog 152 #[.pointer (some ⟨g, o, none⟩)] w fun e w' => ∃ v, e = .returned v ∧ Rw 135 w' w.heap.size v S ∧ Below w.heap.size w w' := by
  have hz := orz_some g o w
  have hc := h.c0
  have hb : Below w.heap.size w (w.alloc (.cells #[.map m] 82)) := (Below.refl _ w).alloc (Nat.le_refl _) _
  have hV := values_any m w
  have hF := sortedfunc_any w.heap.size m S (w.alloc (.cells #[.map m] 82)) (by simp) (cell_of_row _ _ 0 _ _ _ (heap_alloc_new w _)) (by
    rcases h.map with hn | ⟨b, hb, hM⟩
    · exact .inl hn
    · exact .inr ⟨b, hb, hM.alloc _⟩) h.srt hl
  generalize w.alloc (.cells #[.map m] 82) = W1 at *
  clear h
  go_enter Tryz.func152, Tryz.ntmps152
  go_wp2_with fail
  refine Calls.mono hz ?_
  rintro e w1 ⟨rfl, hw1⟩
  obtain rfl := hw1.symm
  go_wp2_with fail
  refine Calls.mono hV ?_
  rintro e w1 ⟨rfl, hw2⟩
  obtain rfl := hw2.symm
  go_wp2_with fail
  refine Calls.mono hF ?_
  rintro e w2 ⟨v, rfl, h1, h2⟩
  go_wp2
  go_ret
  exact ⟨v, rfl, h1.lower hb.size, hb.trans (h2.mono hb.size)⟩
end Go.Proofs.YtmlfekbmbnfkjabGreatDoor.D

/-
  What together comes to: all keys' things, in their dots' order (30 cells an item).
-/
namespace Go.Proofs.YtmlfekbmbnfkjabGreatDoor.D
set_option maxRecDepth 100000
open Go.RowKit Go.Shelf

theorem ldx_at {w : World} {g : Nat} {i : It (Cx 28)} (h : w.heap[g]? = some (.cells (xc i) 135 (0, 0))) : (loadVar 108 ⟨g, 2, none⟩).run Tryz.prog w = .ok (.agg i.x.l.toArray) w := by
  have hr : w.rangeAt g 2 i.x.l := fun j u hu => by
    rw [cell_of_row w _ (2 + j) _ _ _ h]
    simp only [xc, xl, List.getElem?_toArray]
    rw [show 2 + j = j + 1 + 1 by omega, List.getElem?_cons_succ, List.getElem?_cons_succ]
    exact hu
  have hs := size_x i.x
  rw [List.size_toArray] at hs
  exact run_loadVar_mid (P := Tryz.prog) w g 2 108 _ _ hr Tryz.underlying108 rfl hs
/-- What lies in the bag so far. -/
structure Tg (w : World) (Ba : Nat) (AS : List Ed) (A0 : List Ed) (m : Option Nat) (wr : World) : Prop where
  bg : Bg wr Ba 0 #[.map m] 84 m (AS.map dit)
  sr : SrD AS
  pm : AS.Perm A0
  ow : ∀ k, m = some k → w.heap.size ≤ k
  be : Below w.heap.size w wr
  ba : w.heap.size ≤ Ba
theorem Tg.below {w : World} {Ba : Nat} {AS A0 : List Ed} {m : Option Nat} {wr wx : World} (h : Tg w Ba AS A0 m wr) (hb : Below wr.heap.size wr wx) : Tg w Ba AS A0 m wx :=
  ⟨h.bg.below hb (Nat.le_refl _), h.sr, h.pm, h.ow, h.be.trans (hb.mono h.be.size), h.ba⟩
theorem Tg.grown {w : World} {Ba : Nat} {AS A0 : List Ed} {m : Option Nat} {wr wx : World} {r : Nat} (h : Tg w Ba AS A0 m wr) (hg : wr.grownBy wx (some r)) (hr : w.heap.size ≤ r) (h1 : r ≠ Ba) (h2 : m ≠ some r) : Tg w Ba AS A0 m wx :=
  ⟨h.bg.kept fun k hk ho => hg.block k hk (fun e => by
      have := Option.some.inj e
      rcases ho with rfl | ho
      · exact h1 this.symm
      · exact h2 (by rw [← this]; exact ho)), h.sr, h.pm, h.ow, h.be.grown hg h.be.size (fun k e => by have := Option.some.inj e; omega), h.ba⟩
theorem Rgk.blk {w : World} {b r : Nat} {L pre rest : List (Key × Nat)} (h : Rgk w b r L pre rest) : ∃ x y z u, w.heap[r]? = some (.mapIter x y z u) := by
  obtain ⟨es, clock, seen, c0, h1, h2, h3, -⟩ := h
  exact ⟨_, _, _, _, h3⟩
theorem Tg.put {w : World} {Ba : Nat} {AS A0 : List Ed} {m m' : Option Nat} {wr wx : World} {a : Ed} (h : Tg w Ba AS A0 m wr) (hB : Bg wx Ba 0 ((#[.map m] : Array Value).setIfInBounds 0 (.map m')) 84 m' (Go.Proofs.YtmlfekbmbnfkjabGreatDoor.put (AS.map dit) (dit a))) (ht : Tn Ba m m' wr wx) (hp : (putD AS a).Perm (a :: AS)) (hs : SrD (putD AS a)) (he : Go.Proofs.YtmlfekbmbnfkjabGreatDoor.put (AS.map dit) (dit a) = (putD AS a).map dit) : Tg w Ba (putD AS a) (A0 ++ [a]) m' wx := by
  refine ⟨by rw [← he]; exact hB, hs, hp.trans ((h.pm.cons a).trans (List.perm_append_singleton a A0).symm), fun k hk => ?_, h.be.trans (ht.below h.be.size h.ba h.ow), h.ba⟩
  rcases ht.own k hk with q | q
  · exact h.ow k q
  · exact Nat.le_trans h.be.size q
end Go.Proofs.YtmlfekbmbnfkjabGreatDoor.D

/-
  What together comes to: its walk (30 cells an item).
-/
namespace Go.Proofs.YtmlfekbmbnfkjabGreatDoor.D
set_option maxRecDepth 100000
open Go.RowKit Go.Shelf

/-- What is put together. -/
structure Src (w : World) (km : Option Nat) (S : List (Key × Nat)) (X : List Ed) : Prop where
  map : (km = none ∧ S = []) ∨ ∃ b, km = some b ∧ Mk w b S
  ho : ∀ p ∈ S, ∃ cs m, Bg w p.2 1 cs 86 m ((ofKeyD p.1 X).map dit)
  all : ∀ a ∈ X, (fun d : Ed => d.push.key) a ∈ S.map Prod.fst
  nd : (S.map Prod.fst).Nodup
  sr : SrD X
  len : X.length ≤ 1000000
theorem Rgk.below {w w' : World} {b r : Nat} {L pre rest : List (Key × Nat)} (h : Rgk w b r L pre rest) (hb : Below w.heap.size w w') : Rgk w' b r L pre rest := h.kept (hb.block b h.lt.1) (hb.block r h.lt.2.1)

end Go.Proofs.YtmlfekbmbnfkjabGreatDoor.D

/-
  What Encode comes to.
-/
namespace Go.Proofs.YtmlfekbmbnfkjabGreatDoor
set_option maxRecDepth 100000
open Go.RowKit

/-- What the text needs. -/
structure Inv2 (s : St) : Prop where
  seen : ∀ x ∈ s.seen, Nn x
  time : Nn s.time
  okL : ∀ a ∈ s.L, okev a = true
  okD : ∀ d ∈ s.DL, okev d.push = true ∧ Nn d.br ∧ Nn d.bn
/-- The text so far. -/
structure Tx (w : World) (v : Value) (l : List UInt8) (wr : World) : Prop where
  br : BR wr w.heap.size v l
  be : Below w.heap.size w wr
theorem Tx.step {w : World} {v v' : Value} {l l' : List UInt8} {wr wx : World} (h : Tx w v l wr) (hb : BR wx w.heap.size v' l') (hg : wr.grownBy wx v.ownBlock) : Tx w v' l' wx :=
  ⟨hb, h.be.grown hg h.be.size (fun k e => (h.br.cellsAt k e).1)⟩
theorem Tx.below {w : World} {v : Value} {l : List UInt8} {wr wx : World} (h : Tx w v l wr) (hb : Below wr.heap.size wr wx) : Tx w v l wx := ⟨BR.below h.br hb, h.be.trans (hb.mono h.be.size)⟩
end Go.Proofs.YtmlfekbmbnfkjabGreatDoor

/-
  What Encode comes to: its walk.
-/
namespace Go.Proofs.YtmlfekbmbnfkjabGreatDoor
set_option maxRecDepth 100000
open Go.RowKit

end Go.Proofs.YtmlfekbmbnfkjabGreatDoor

/-
  Pieces of lists, and lists that are laid anew.
-/
namespace Go.Proofs.YtmlfekbmbnfkjabGreatDoor
set_option maxRecDepth 100000
set_option maxRecDepth 100000
open Go.RowKit

/-- From a place on. -/
def dropA (ao : Option Addr) (c k : Nat) : Option Addr := if c = k then ao else ao.map (·.add (k * 26))
theorem slice_from (w : World) {ao : Option Addr} {m c k : Nat} (hk : k ≤ m) : (Instr.sliceAt 22 (.slice ao m c) (some (.int .i64 (k : Int))) none none).run Tryz.prog w = .ok (.slice (dropA ao c k) (m - k) (c - k)) w := by
  have h2 : (k : Int) ≤ (m : Int) := by omega
  have hs : (sizeOf 47).run Tryz.prog w = .ok 26 w := Tryz.sizeOf47 w
  have ht : Tryz.prog.underlying 22 = some (.slice 47) := Tryz.underlying22
  have he : Tryz.prog.elem 22 = 47 := by kernel_rfl
  rw [run_sliceAt_slice w 22 _ _ _ _ (by rw [he]; exact ht), run_slice_l w 22 ao m c (by rw [he]; exact ht) .i64 (k : Int) (by omega) h2, he, hs, Result.andThen_ok]
  unfold sliced dropA
  simp
theorem Evs.drop {w : World} {ao : Option Addr} {m c : Nat} {E : List Ev} (h : Evs w ao m c E) {k : Nat} (hk : k ≤ m) : Evs w (dropA ao c k) (m - k) (c - k) (E.drop k) := by
  have hl := h.len
  have hr := h.room
  have ht := h.top
  refine ⟨by rw [List.length_drop]; omega, by omega, by omega, fun e => ?_, fun ad ha j u hu => ?_, fun e he => h.wide e (List.mem_of_mem_drop he)⟩
  · have : ao = none := by
      unfold dropA at e
      split at e
      · exact e
      · cases ao with
        | none => rfl
        | some _ => cases e
    have := h.zero this
    omega
  · have hlen : (evs (E.take k)).length = k * 26 := by
      rw [evs_length (fun e he => h.wide e (List.mem_of_mem_take he)), List.length_take]
      congr 1
      omega
    have e1 : evs E = evs (E.take k) ++ evs (E.drop k) := by rw [← evs_append, List.take_append_drop]
    have hjl := (List.getElem?_eq_some_iff.1 hu).1
    have hu2 : (evs E)[k * 26 + j]? = some u := by
      rw [e1, List.getElem?_append_right (by omega), hlen, show k * 26 + j - k * 26 = j by omega]
      exact hu
    by_cases hck : c = k
    · have : E.drop k = [] := List.drop_eq_nil_of_le (by omega)
      rw [this] at hu
      cases hu
    · unfold dropA at ha
      rw [if_neg hck] at ha
      cases ao with
      | none => cases ha
      | some a0 =>
        have ha' : a0.add (k * 26) = ad := by simpa using ha
        rw [← ha', Go.Deep.add_add]
        exact h.cells a0 rfl _ _ hu2
end Go.Proofs.YtmlfekbmbnfkjabGreatDoor

