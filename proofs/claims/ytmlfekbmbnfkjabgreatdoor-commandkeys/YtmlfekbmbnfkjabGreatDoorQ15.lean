/-
  Where the sort's functions and types stand in this program.
-/
import Derived.Test.YtmlfekbmbnfkjabGreatDoorProg
import Derived.Shelf.SlSortCmp.WholeK
import Derived.Test.YtmlfekbmbnfkjabGreatDoorQ14
import Derived.Test.YtmlfekbmbnfkjabGreatDoorQ09
import Derived.Shelf.SlSortCmp.NoneTotal
import Derived.Deep.RegionHeld3
import Derived.Sort.OwnSorted
import Derived.RangeFuncBound
import Derived.RangeFuncCalls
import Derived.RangeFuncLeaves
import Derived.Shelf.RegionOpen
import Derived.Laws.CopyRow
namespace Go.Proofs.YtmlfekbmbnfkjabGreatDoor.E
set_option maxRecDepth 100000

def sortRen : Go.Shelf.Ren := ⟨fun
   
    | 6 => 171
    | 15 => 211
    | 14 => 210
    | 28 => 244
    | 29 => 231
    | 20 => 236
    | 21 => 237
    | 22 => 238
    | 23 => 239
    | 24 => 240
    | 25 => 241
    | 26 => 242
    | 27 => 243
    | 46 => 273
    | 47 => 274
    | 48 => 275
    | 49 => 276
    | 50 => 277
    | 57 => 293
    | n => n, fun
   
    | 22 => 121
    | 24 => 112
    | 25 => 174
    | 3 => 3
    | 39 => 239
    | 0 => 0
    | 53 => 270
    | 55 => 236
    | 4 => 4
    | 46 => 274
    | 45 => 273
    | 50 => 278
    | 5 => 5
    | 9 => 9
    | 66 => 297
    | 70 => 96
    | 76 => 314
    | 77 => 157
    | n => n, fun
   
    | n => n⟩
theorem sortLaid : Go.Proofs.SlLaysF0.n6 Tryz.prog sortRen :=
  {
    mixed := by kernel_rfl,
    f6 := ⟨Tryz.f171.name, by decide, Tryz.func171.trans (congrArg some (by kernel_rfl))⟩,
    f14 := ⟨Tryz.f210.name, by decide, Tryz.func210.trans (congrArg some (by kernel_rfl))⟩,
    f15 := Tryz.func211.trans (congrArg some (by kernel_rfl)),
    f20 := ⟨Tryz.f236.name, by decide, Tryz.func236.trans (congrArg some (by kernel_rfl))⟩,
    f21 := ⟨Tryz.f237.name, by decide, Tryz.func237.trans (congrArg some (by kernel_rfl))⟩,
    f22 := ⟨Tryz.f238.name, by decide, Tryz.func238.trans (congrArg some (by kernel_rfl))⟩,
    f23 := ⟨Tryz.f239.name, by decide, Tryz.func239.trans (congrArg some (by kernel_rfl))⟩,
    f24 := ⟨Tryz.f240.name, by decide, Tryz.func240.trans (congrArg some (by kernel_rfl))⟩,
    f25 := ⟨Tryz.f241.name, by decide, Tryz.func241.trans (congrArg some (by kernel_rfl))⟩,
    f26 := ⟨Tryz.f242.name, by decide, Tryz.func242.trans (congrArg some (by kernel_rfl))⟩,
    f27 := ⟨Tryz.f243.name, by decide, Tryz.func243.trans (congrArg some (by kernel_rfl))⟩,
    f28 := Tryz.func244.trans (congrArg some (by kernel_rfl)),
    f29 := Tryz.func231.trans (congrArg some (by kernel_rfl)),
    f46 := ⟨Tryz.f273.name, by decide, Tryz.func273.trans (congrArg some (by kernel_rfl))⟩,
    f47 := Tryz.func274.trans (congrArg some (by kernel_rfl)),
    f48 := Tryz.func275.trans (congrArg some (by kernel_rfl)),
    f49 := ⟨Tryz.f276.name, by decide, Tryz.func276.trans (congrArg some (by kernel_rfl))⟩,
    f50 := ⟨Tryz.f277.name, by decide, Tryz.func277.trans (congrArg some (by kernel_rfl))⟩,
    f57 := ⟨Tryz.f293.name, by decide, Tryz.func293.trans (congrArg some (by kernel_rfl))⟩,
    t0 := Tryz.underlying0,
    a0 := Tryz.isAgg0,
    z0 := Tryz.sizeOf0,
    v0 := Tryz.zeroValue0,
    t3 := Tryz.underlying3,
    a3 := Tryz.isAgg3,
    z3 := Tryz.sizeOf3,
    v3 := Tryz.zeroValue3,
    t4 := Tryz.underlying4,
    a4 := Tryz.isAgg4,
    z4 := Tryz.sizeOf4,
    v4 := Tryz.zeroValue4,
    t5 := Tryz.underlying5,
    a5 := Tryz.isAgg5,
    z5 := Tryz.sizeOf5,
    v5 := Tryz.zeroValue5,
    t9 := Tryz.underlying9,
    a9 := Tryz.isAgg9,
    z9 := Tryz.sizeOf9,
    v9 := Tryz.zeroValue9,
    t22 := Tryz.underlying121,
    a22 := Tryz.isAgg121,
    z22 := Tryz.sizeOf121,
    v22 := Tryz.zeroValue121,
    t25 := Tryz.underlying174,
    a25 := Tryz.isAgg174,
    z25 := Tryz.sizeOf174,
    v25 := Tryz.zeroValue174,
    t39 := Tryz.underlying239,
    a39 := Tryz.isAgg239,
    z39 := Tryz.sizeOf239,
    v39 := Tryz.zeroValue239,
    t45 := Tryz.underlying273,
    a45 := Tryz.isAgg273,
    z45 := Tryz.sizeOf273,
    v45 := Tryz.zeroValue273,
    t46 := Tryz.underlying274,
    a46 := Tryz.isAgg274,
    z46 := Tryz.sizeOf274,
    v46 := Tryz.zeroValue274,
    t50 := Tryz.underlying278,
    a50 := Tryz.isAgg278,
    z50 := Tryz.sizeOf278,
    v50 := Tryz.zeroValue278,
    t53 := Tryz.underlying270,
    a53 := Tryz.isAgg270,
    z53 := Tryz.sizeOf270,
    v53 := Tryz.zeroValue270,
    t55 := Tryz.underlying236,
    a55 := Tryz.isAgg236,
    z55 := Tryz.sizeOf236,
    v55 := Tryz.zeroValue236,
    t66 := Tryz.underlying297,
    a66 := Tryz.isAgg297,
    z66 := Tryz.sizeOf297,
    v66 := Tryz.zeroValue297,
    t70 := Tryz.underlying96,
    a70 := Tryz.isAgg96,
    z70 := Tryz.sizeOf96,
    v70 := Tryz.zeroValue96,
    t76 := Tryz.underlying314,
    a76 := Tryz.isAgg314,
    z76 := Tryz.sizeOf314,
    v76 := Tryz.zeroValue314,
    t77 := Tryz.underlying157,
    a77 := Tryz.isAgg157,
    z77 := Tryz.sizeOf157,
    v77 := Tryz.zeroValue157 }
end Go.Proofs.YtmlfekbmbnfkjabGreatDoor.E

/-
  What byDots and slices.SortFunc come to: the things in their dots' order.
-/
namespace Go.Proofs.YtmlfekbmbnfkjabGreatDoor.E
set_option maxRecDepth 100000
open Go.RowKit Go.Sort

def cfI (i j : It (Cx 26)) : Int := orI (cmpI i.r j.r) (cmpI i.n j.n)

set_option maxHeartbeats 1000000 in
set_option maxRecDepth 100000 in
theorem bydots_any (i j : It (Cx 26)) (w : World) : Calls Tryz.prog 136 #[.agg (xc i), .agg (xc j)] w fun e w' => e = .returned (.int .i64 (cfI i j)) ∧ ∃ q os', w' = grow (w.drewN q) os' := by
  have hr := fun W => compare_any i.r j.r W
  have hn := fun W => compare_any i.n j.n W
  obtain ⟨W, hW⟩ : ∃ W, (w.alloc (.cells (xc i) 112)).alloc (.cells (xc j) 112) = W := ⟨_, rfl⟩
  have hs : W.heap.size = w.heap.size + 2 := by rw [← hW]; simp
  have ha : W.heap[w.heap.size]? = some (.cells (xc i) 112 (0, 0)) := by
    rw [← hW, Below.heap_alloc _ _ _ (by simp)]
    exact heap_alloc_new w _
  have hb : W.heap[w.heap.size + 1]? = some (.cells (xc j) 112 (0, 0)) := by
    rw [← hW]
    have := heap_alloc_new (w.alloc (.cells (xc i) 112)) (.cells (xc j) 112)
    rwa [World.size_alloc] at this
  have c0 : W.cell? ⟨w.heap.size, 0, none⟩ = some (.int .i64 i.r) := cell_of_row W _ 0 _ _ _ ha
  have c1 : W.cell? ⟨w.heap.size, 1, none⟩ = some (.int .i64 i.n) := cell_of_row W _ 1 _ _ _ ha
  have d0 : W.cell? ⟨w.heap.size + 1, 0, none⟩ = some (.int .i64 j.r) := cell_of_row W _ 0 _ _ _ hb
  have d1 : W.cell? ⟨w.heap.size + 1, 1, none⟩ = some (.int .i64 j.n) := cell_of_row W _ 1 _ _ _ hb
  have hor := fun (b : Nat) (W' : World) => or_any (cmpI i.r j.r) (cmpI i.n j.n) b W'
  rw [show cfI i j = orI (cmpI i.r j.r) (cmpI i.n j.n) from rfl]
  have HO : Hid _ := hor
  generalize orI (cmpI i.r j.r) (cmpI i.n j.n) = c at *
  generalize cmpI i.r j.r = p at *
  generalize cmpI i.n j.n = q at *
  obtain ⟨W2, hW2⟩ : ∃ W2, (W.alloc (.cells #[.int .i64 p, .int .i64 q] 3)).drew = W2 := ⟨_, rfl⟩
  have hb2 : Below W.heap.size W W2 := hW2 ▸ ((Below.refl _ W).alloc (Nat.le_refl _) _).drew
  have f0 := (hb2.cell (p := ⟨w.heap.size, 0, none⟩) (by show w.heap.size < _; omega)).trans c0
  have f1 := (hb2.cell (p := ⟨w.heap.size, 1, none⟩) (by show w.heap.size < _; omega)).trans c1
  have f2 := (hb2.cell (p := ⟨w.heap.size + 1, 0, none⟩) (by show w.heap.size + 1 < _; omega)).trans d0
  have f3 := (hb2.cell (p := ⟨w.heap.size + 1, 1, none⟩) (by show w.heap.size + 1 < _; omega)).trans d1
  have hnew : W2.heap[w.heap.size + 2]? = some (.cells #[.int .i64 p, .int .i64 q] 3 (0, 0)) := by
    rw [← hW2, ← hs]
    exact heap_alloc_new W _
  have g0 : W2.cell? ⟨w.heap.size + 2, 0, none⟩ = some (.int .i64 p) := cell_of_row W2 _ 0 _ _ _ hnew
  have g1 : W2.cell? ⟨w.heap.size + 2, 1, none⟩ = some (.int .i64 q) := cell_of_row W2 _ 1 _ _ _ hnew
  have hgw : Hid (∃ k os', W2 = grow (w.drewN k) os') := ⟨1, _, by
    rw [← hW2, ← hW, alloc_eq_grow, alloc_eq_grow, alloc_eq_grow, grow_grow, grow_grow, drew_grow]; rfl⟩
  have hr' : Hid _ := hr
  have hn' : Hid _ := hn
  clear hor hr hn ha hb hb2 hnew
  go_enter Tryz.func136, Tryz.ntmps136
  go_wp2
  clear hW
  go_region_held3 (fun w' => w'.cell? ⟨w.heap.size, 0, none⟩ = some (.int .i64 i.r) ∧ w'.cell? ⟨w.heap.size, 1, none⟩ = some (.int .i64 i.n) ∧ w'.cell? ⟨w.heap.size + 1, 0, none⟩ = some (.int .i64 j.r) ∧ w'.cell? ⟨w.heap.size + 1, 1, none⟩ = some (.int .i64 j.n))
    (first | assumption | exact ⟨f0, f1, f2, f3⟩ | exact ⟨c0, c1, d0, d1⟩)
    (first
    | (go_at_call_of 174 (Value.int IntKind.i64 i.r); refine Calls.mono (hr'.out _) ?_; rintro e wx ⟨rfl, rfl⟩)
    | (go_at_call_of 174 (Value.int IntKind.i64 i.n); refine Calls.mono (hn'.out _) ?_; rintro e wx ⟨rfl, rfl⟩)
    | (go_at_call 173; refine Calls.mono (HO.out _ _ g0 g1) ?_; rintro e wx ⟨rfl, rfl⟩))
  all_goals
    go_wp2
    go_ret
    exact ⟨rfl, hgw.out⟩
end Go.Proofs.YtmlfekbmbnfkjabGreatDoor.E

/-
  What slices.SortFunc by dots comes to: the same slice, in order.
-/
namespace Go.Proofs.YtmlfekbmbnfkjabGreatDoor.E
set_option maxRecDepth 100000
set_option maxRecDepth 100000
open Go.RowKit Go.Sort

instance : Inhabited (It (Cx 26)) := ⟨⟨0, 0, zx⟩⟩
theorem cfI_lt (i j : It (Cx 26)) : ltOf cfI i j = bef i j := by
  unfold ltOf cfI orI cmpI bef
  by_cases h1 : i.r < j.r
  · simp [h1]
  · by_cases h2 : j.r < i.r
    · have : ¬ i.r = j.r := by omega
      simp [h1, h2, this]
    · have e : i.r = j.r := by omega
      by_cases h3 : i.n < j.n
      · simp [e, h3]
      · by_cases h4 : j.n < i.n <;> simp [e, h3, h4]
theorem cfI_swo : SWO (ltOf (α := It (Cx 26)) cfI) where
  irrefl x := by rw [cfI_lt]; exact bef_irrefl x
  trans x y z h1 h2 := by rw [cfI_lt] at *; exact bef_trans h1 h2
  ntrans x y z h1 h2 := by
    rw [cfI_lt] at *
    cases h : bef x z
    · rfl
    · rw [bef_iff] at h
      have k1 : ¬ (x.r < y.r ∨ (x.r = y.r ∧ x.n < y.n)) := fun e => by rw [bef_iff.2 e] at h1; cases h1
      have k2 : ¬ (y.r < z.r ∨ (y.r = z.r ∧ y.n < z.n)) := fun e => by rw [bef_iff.2 e] at h2; cases h2
      omega
theorem flat_xs (d : Array (It (Cx 26))) : (flatK xl 28 d).toList = xs d.toList := by
  apply List.ext_getElem?
  intro t
  by_cases ht : t < d.size * 28
  · have hk : t / 28 < d.size := by omega
    have hi : d.toList[t / 28]? = some d[t / 28] := by simp [hk]
    have hm : t % 28 < (xl d[t / 28]).length := by rw [xl_length]; omega
    obtain ⟨v, hv⟩ : ∃ v, (xl d[t / 28])[t % 28]? = some v := ⟨_, List.getElem?_eq_getElem hm⟩
    have h1 := xs_at (t / 28) _ hi (t % 28) v hv
    rw [show t / 28 * 28 + t % 28 = t by omega] at h1
    have hsz : t < (flatK xl 28 d).size := by rw [size_flatK]; exact ht
    have h2 := get_flatK xl 28 d t ht
    rw [getElem!_pos _ t hsz, getElem!_pos d _ hk] at h2
    rw [h1, Array.getElem?_toList, Array.getElem?_eq_getElem hsz, h2]
    obtain ⟨h3, h4⟩ := List.getElem?_eq_some_iff.1 hv
    rw [getElem!_pos (xl d[t / 28]) (t % 28) h3, h4]
  · rw [List.getElem?_eq_none (by rw [Array.length_toList, size_flatK]; omega), List.getElem?_eq_none (by rw [xs_length, Array.length_toList]; omega)]
theorem holds_xs {w : World} {g : Nat} {cur : Array Value} {e : TypeId} {L : List (It (Cx 26))} (hb : w.heap[g]? = some (.cells cur e (0, 0))) (ht : cur.toList.take (L.length * 28) = xs L) : HoldsK xl 28 w g 0 L.toArray := by
  intro j hj
  have hj' : j < L.length * 28 := by rw [size_flatK] at hj; simpa using hj
  refine ⟨?_, by simp [World.frozen?, hb]⟩
  have h1 : (cur.toList.take (L.length * 28))[j]? = (flatK xl 28 L.toArray).toList[j]? := by rw [ht, flat_xs]
  rw [List.getElem?_take_of_lt hj', Array.getElem?_toList, Array.getElem?_toList, Array.getElem?_eq_getElem hj] at h1
  simp only [World.cell?, hb, Nat.zero_add]
  simp only [Option.isSome_none, Bool.false_eq_true, if_false]
  rw [h1, getElem!_pos _ j hj]
  rfl
theorem heap_sortedK {w : World} {g n : Nat} {os : Array Obj} {cur : Array Value} {e : TypeId} {fr : Nat × Nat} (d : Array (It (Cx 26))) (hb : w.heap[g]? = some (.cells cur e fr)) :
    (sortWorldK xl 28 w g 0 n d os).heap[g]? = some (.cells (putCells id 0 (flatK xl 28 d) cur) e fr) := by
  have hg : g < w.heap.size := (Array.getElem?_eq_some_iff.1 hb).1
  unfold sortWorldK putRowK
  rw [heap_grow_old _ _ (by simpa using hg)]
  simp [putRow, mapBlock, Sort.ahead, Array.getElem?_modify, hb, onCells]
theorem grownBy_sortedK {w : World} {g n : Nat} {os : Array Obj} (d : Array (It (Cx 26))) : w.grownBy (sortWorldK xl 28 w g 0 n d os) (some g) := by
  unfold sortWorldK putRowK
  refine ⟨rfl, rfl, rfl, by simp, fun k hk hne => ?_⟩
  rw [heap_grow_old _ _ (by simpa using hk)]
  have : g ≠ k := fun e => hne (by rw [e])
  simp [putRow, mapBlock, Sort.ahead, Array.getElem?_modify, this]
theorem take_putCellsK (cur : Array Value) (d : Array (It (Cx 26))) (h : d.size * 28 ≤ cur.size) : (putCells id 0 (flatK xl 28 d) cur).toList.take (d.size * 28) = xs d.toList := by
  rw [← flat_xs]
  apply List.ext_getElem?
  intro j
  by_cases hj : j < d.size * 28
  · have hj2 : j < (flatK xl 28 d).size := by rw [size_flatK]; exact hj
    rw [List.getElem?_take_of_lt hj, Array.getElem?_toList, Array.getElem?_toList, Array.getElem?_eq_getElem hj2]
    simp [putCells, hj, show j < cur.size by omega]
  · rw [List.getElem?_take_eq_none (by omega), List.getElem?_eq_none (by rw [Array.length_toList, size_flatK]; omega)]

theorem sorted_is {L S : List (It (Cx 26))} (hp : L.Perm S) (hS : Srt S) (d : Array (It (Cx 26))) (h1 : PermIn 0 L.toArray.size L.toArray d) (h2 : SortedIn (ltOf cfI) 0 L.toArray.size d) : d.toList = S := by
  obtain ⟨hs, -, hpm⟩ := h1
  have e1 : (d.extract 0 L.toArray.size) = d := by rw [← hs]; exact Array.extract_size
  have e2 : (L.toArray.extract 0 L.toArray.size) = L.toArray := Array.extract_size
  rw [e1, e2] at hpm
  have p1 : d.toList.Perm S := hpm.trans hp
  have ap : d.toList.Pairwise fun a b => ¬ (a.r = b.r ∧ a.n = b.n) := (p1.symm.pairwise_iff (fun {a b} (hh : ¬ (a.r = b.r ∧ a.n = b.n)) e => hh ⟨e.1.symm, e.2.symm⟩)).1 hS.apart
  have sr : Srt d.toList := by
    unfold Srt
    rw [List.pairwise_iff_getElem] at ap ⊢
    intro i j hi hj hij
    have hi' : i < d.size := by simpa using hi
    have hj' : j < d.size := by simpa using hj
    have := h2 i j (Nat.zero_le _) hij (by rw [← hs]; exact hj')
    rw [getElem!_pos d j hj', getElem!_pos d i hi', cfI_lt] at this
    have hne := ap i j hi hj hij
    rcases bef_tri d[i] d[j] with h | h | h
    · rw [isAt_iff] at h
      exact absurd h (by simpa using hne)
    · simpa using h
    · rw [this] at h; cases h
  exact Srt.eq_of_perm sr hS p1

theorem sort_any (v : Value) (L S : List (It (Cx 26))) (base : Nat) (w : World) (hrow : Rw 112 w base v L) (hl : L.length ≤ 1048576) (hp : L.Perm S) (hS : Srt S) :
    Calls Tryz.prog 171 #[v, .func (.func 136) #[] #[]] w fun e w' => e = .returned (.tuple #[]) ∧ Rw 112 w' base v S ∧ w.grownBy w' v.ownBlock := by
  have hlen := hp.length_eq
  rcases hrow.2 with ⟨rfl, h0⟩ | ⟨g, cap, cur, rfl, hbg, hg, hn, hc, hcs, htk⟩
  · have hL : L = [] := List.eq_nil_of_length_eq_zero h0
    subst hL
    have hS0 : S = [] := List.eq_nil_of_length_eq_zero hlen.symm
    subst hS0
    have hcon := AnyF.slices_SortFunc_none sortLaid none 0 (.func (.func 136) #[] #[]) w
    change Calls Tryz.prog 171 _ _ _ at hcon
    refine hcon.mono ?_
    rintro e w' ⟨he, rfl⟩
    exact ⟨he, hrow, World.grownBy.refl _ _⟩
  · have hgl : g < w.heap.size := (Array.getElem?_eq_some_iff.1 hg).1
    have eg : ∀ args w, (callFunc 136 args).run Tryz.prog w = .ok (.enter 136 args) w := enters_of Tryz.func136 (by kernel_rfl) rfl
    have hcmp : CmpLays Tryz.prog 136 #[] xl 28 cfI g 0 L.toArray.size w := fun m os dk _ x y => bydots_any x y _
    have hcon := AnyQ.slices_SortFunc sortLaid 28 Tryz.isAgg112 Tryz.sizeOf112 xl xl_length xl_one cfI cfI_swo 136 #[] g 0 cap L.toArray w eg hcmp (holds_xs hg htk) hgl (by simp; omega)
    change Calls Tryz.prog 171 _ _ _ at hcon
    rw [List.size_toArray] at hcon
    refine hcon.mono ?_
    rintro e w' ⟨he, d, n, os, h1, h2, rfl⟩
    have hd := sorted_is hp hS d (by rw [List.size_toArray]; exact h1) (by rw [List.size_toArray]; exact h2)
    have hds : d.size = L.length := by have := congrArg List.length hd; rw [Array.length_toList] at this; omega
    refine ⟨he, ⟨xs_length S, .inr ⟨g, cap, _, by rw [hlen], hbg, heap_sortedK d hg, by omega, hc, by simp [putCells, hcs], ?_⟩⟩, grownBy_sortedK d⟩
    have := take_putCellsK cur d (by rw [hcs, hds]; omega)
    rw [hd, hds, hlen] at this
    exact this
end Go.Proofs.YtmlfekbmbnfkjabGreatDoor.E

/-
  What slices.AppendSeq(nil, seq) and slices.Collect(seq) come to, over whatever iterator.
-/
namespace Go.Proofs.YtmlfekbmbnfkjabGreatDoor.E
set_option maxRecDepth 100000
set_option maxRecDepth 100000
open Go.RowKit Go.Shelf Go.Sort
attribute [local go_sem] Oper.semAt_some

theorem elB : El 121 112 #[Value.int IntKind.i64 0, Value.int IntKind.i64 0, Value.int IntKind.i64 0, Value.int IntKind.i64 0, Value.int IntKind.i64 0, Value.int IntKind.i64 0, Value.int IntKind.i64 0, Value.int IntKind.i64 0, Value.int IntKind.i64 0, Value.int IntKind.i64 0, Value.int IntKind.i64 0, Value.int IntKind.i64 0, Value.int IntKind.i64 0, Value.int IntKind.i64 0, Value.int IntKind.i64 0, Value.int IntKind.i64 0, Value.int IntKind.i64 0, Value.int IntKind.i64 0, Value.int IntKind.i64 0, Value.int IntKind.i64 0, Value.int IntKind.i64 0, Value.int IntKind.i64 0, Value.string { data := #[] }, Value.string { data := #[] }, Value.string { data := #[] }, Value.int IntKind.i64 0, Value.int IntKind.i64 0, Value.int IntKind.i64 0] 248 := ⟨Tryz.underlying121, by kernel_rfl, rfl, by decide⟩

/-- Between two rounds: the box holds a row of what has come. -/
def ApI (w : World) (Bs : Nat) (pre : List (It (Cx 26))) (W : World) : Prop := (∃ v, W.heap[Bs]? = some (.cells #[v] 121 (0, 0)) ∧ Rw 112 W w.heap.size v pre) ∧ Below w.heap.size w W
/-- Behind the assignment: the round's item lies in a block. -/
def ApA (tm : Nat → Array Value) (x : It (Cx 26)) (a' : Act) (W : World) : Prop := ∃ Bx, W.heap[Bx]? = some (.cells (xc x) 112 (0, 0)) ∧ a' = { tmps := tm Bx, defers := [] }

theorem Rw.grown {e : TypeId} {w w' : World} {base : Nat} {v : Value} {S : List (It (Cx 26))} {row : Option Nat} (h : Rw e w base v S) (hg : w.grownBy w' row) (hne : ∀ k, v.ownBlock = some k → row ≠ some k) : Rw e w' base v S :=
  h.keep fun k hk => hg.block k (h.lt k hk).2 (fun e => hne k hk e.symm)
theorem Rw.cellsAt {e : TypeId} {w : World} {base : Nat} {v : Value} {S : List (It (Cx 26))} (h : Rw e w base v S) : ∀ k, v.ownBlock = some k → ∃ cur, w.heap[k]? = some (.cells cur e (0, 0)) := by
  intro k hk
  rcases h.2 with ⟨rfl, -⟩ | ⟨g, cap, cur, rfl, hbg, hg, -⟩
  · cases hk
  · obtain rfl : g = k := by simpa [Value.ownBlock] using hk
    exact ⟨cur, hg⟩
theorem Rw.ne {e : TypeId} {w : World} {base : Nat} {v : Value} {S : List (It (Cx 26))} (h : Rw e w base v S) {j : Nat} {o : Obj} (hj : w.heap[j]? = some o) (hno : ∀ cur, o ≠ .cells cur e (0, 0)) : v.ownBlock ≠ some j := by
  intro hk
  obtain ⟨cur, hc⟩ := h.cellsAt j hk
  rw [hj] at hc
  exact hno cur (Option.some.inj hc)

theorem apI_own (w : World) (Bs B : Nat) (hB : w.heap.size ≤ B) : OwnFrom B (ApI w Bs) := fun pre W W' row ⟨⟨v, hv, hr⟩, hb⟩ hg hrow => by
  refine ⟨⟨v, ?_, ?_⟩, hb.grown hg hb.size (fun k e => by have := (hrow k e).1; omega)⟩
  · refine (hg.block Bs (Array.getElem?_eq_some_iff.1 hv).1 (fun e => ?_)).trans hv
    obtain ⟨-, o, ho, hc⟩ := hrow Bs e.symm
    rw [hv] at ho; cases ho; cases hc
  · refine hr.grown hg fun k hk e => ?_
    obtain ⟨-, o, ho, hc⟩ := hrow k e
    obtain ⟨cur, hcur⟩ := hr.cellsAt k hk
    rw [hcur] at ho; cases ho; cases hc
theorem apA_own (tm : Nat → Array Value) (x : It (Cx 26)) (a' : Act) (B : Nat) : OwnFrom B (fun (_ : Unit) W => ApA tm x a' W) := fun _ W W' row ⟨Bx, h, e⟩ hg hrow => by
  refine ⟨Bx, (hg.block Bx (Array.getElem?_eq_some_iff.1 h).1 (fun e => ?_)).trans h, e⟩
  obtain ⟨-, o, ho, hc⟩ := hrow Bx e.symm
  rw [h] at ho; cases ho; cases hc

/-- 'append' whose run is known. -/
theorem wpListIn_appR {F : Fence} {n : Nat} {P : Program} {w : World} {ops : Array Oper} {rest : List Oper} {o : Oper} {a : Act} {Q : Exit → Act → World → Prop} (hg : o.guard = none) (s x : Operand) (T : TypeId) (hop : o.op = Op.call { callee := Callee.builtin Builtin.append, args := #[s, x], argTypes := #[T, T] })
    (v y v' : Value) (w' : World) (hs : a.eval s = v) (hx : a.eval x = y) (hr : (Builtin.append_ #[T, T] o.type #[v, y]).run P w = .ok v' w') (hK : wpListIn F n P ops Q rest (a.put o.dst v') w') : wpListIn F n P ops Q (o :: rest) a w := by
  refine wpListIn_plain hg fun K hK' => ?_
  unfold Oper.wpIn
  refine ⟨by simp [Oper.about, hop, resolve, Target.leads, Sem.run_pure], ?_⟩
  rw [Oper.semAt_plain F _ _ (by rw [hop]; intro c hc'; cases hc')]
  simp only [execOp, hop, resolve, invoke, builtin, Sem.run_bind, Sem.run_pure, Result.andThen_ok, List.map_toArray, List.map_cons, List.map_nil, hs, hx, hr]
  exact hK' _ _ hK

set_option maxHeartbeats 2000000 in
theorem appendseq_in (n : Nat) (hn : 2 ≤ n) (g : Nat) (lb : Array Value) (eg : ∀ args w, (callFunc g args).run Tryz.prog w = .ok (.enter g args) w)
    (S Sp : List (It (Cx 26)) → Prop) (N : Nat) (hN : N ≤ 1048576) (w : World) (hseq : SeqStopsK Fence.wide (n - 1) Tryz.prog g lb (fun i : It (Cx 26) => #[.agg (xc i)]) KeepsWalks S Sp N w) :
    CallsIn Fence.wide n Tryz.prog 209 #[.slice none 0 0, .func (.func g) #[] lb] w fun e w' => ∃ v xs, e = .returned v ∧ S xs ∧ Rw 112 w' w.heap.size v xs ∧ Below w.heap.size w w' := by
  have h1 : 1 ≤ n := by omega
  refine callsIn_of_wp_marks Tryz.func209 rfl trivial ?_ rfl
  simp only [Tryz.ntmps209, List.size_toArray, List.length_cons, List.length_nil, Nat.reduceAdd, Nat.reduceSub, Array.replicate_succ, Array.replicate_zero, List.push_toArray, List.append_toArray, List.nil_append, List.cons_append]
  gi_wp2
  have hbw : Below w.heap.size w (w.alloc (.cells #[.slice none 0 0] 121)) := (Below.refl _ w).alloc (Nat.le_refl _) _
  have hI0 : ApI w w.heap.size [] (w.alloc (.cells #[.slice none 0 0] 121)) := ⟨⟨_, heap_alloc_new w _, rw_nil _ _ _⟩, hbw⟩
  have hsz : (w.alloc (.cells #[.slice none 0 0] 121)).heap.size = w.heap.size + 1 := by simp
  refine wpIn_rangeFunc_ownH rfl h1 (gf := g) (lb := lb) rfl trivial eg hseq walksK_t walksK_b hbw (fun _ => rfl)
    (ApI w w.heap.size) (fun _ _ _ => False) (apI_own w w.heap.size _ (by rw [hsz]; omega)) (fun _ _ _ _ _ h _ _ => h) hI0
    (fun x => ApA (fun Bx => #[.slice none 0 0, .func (.func g) #[] lb, .pointer (some ⟨w.heap.size, 0, none⟩), undef, .slice none 0 0, .pointer (some ⟨Bx, 0, none⟩), .func (.func g) #[] lb, .agg (xc x), undef, undef, undef, undef, undef]) x)
    (fun x a' => apA_own _ x a' _) ?assign ?body ?done ?stop
  case assign =>
    intro l pre x W K hi hK
    have hst := st_new W x
    gi_wp2_with (first
      | (refine wpListIn_storeR (ty := 112) (x := .tmp 5) (y := .tmp 7) (ad := ⟨W.heap.size, 0, none⟩) (v := .agg (xc x)) (w' := W.alloc (.cells (xc x) 112)) rfl rfl rfl rfl hst ?_)
      | gi_in)
    exact hK _ _ ((KeepsOthers.alloc _ _).from _) (KeepsWalks.alloc _ _) ((apI_own w w.heap.size w.heap.size (Nat.le_refl _)).alloc _ hi) ⟨W.heap.size, heap_alloc_new W _, rfl⟩
  case body =>
    rintro l pre x a' W hl hr ⟨⟨v, hv, hrow⟩, hb⟩ ⟨Bx, hx, rfl⟩ hlt
    have c0 : W.cell? ⟨w.heap.size, 0, none⟩ = some v := cell_of_row W _ 0 _ _ _ hv
    have hld := ld_at hx
    have hbd := run_build1 elB W x
    obtain ⟨v', w', happ, hrow', hg', hown'⟩ := run_app1 elB (w := W.alloc (.cells (xc x) 112)) 121 w.heap.size v pre (hrow.alloc _) ⟨W.heap.size, 0, none⟩ 1 x (ats_new W _ x) (by omega) (by have := hb.size; simp; omega)
    have hvl := hrow.val
    obtain ⟨ao', cap', hv', -, -⟩ := hrow'.val
    have hne := hrow.ne hv (fun cur e => by cases e)
    have hv2 : w'.heap[w.heap.size]? = some (.cells #[v] 121 (0, 0)) := (hg'.block _ (by have := (Array.getElem?_eq_some_iff.1 hv).1; simp; omega) (fun e => hne e.symm)).trans ((Below.heap_alloc W _ _ (Array.getElem?_eq_some_iff.1 hv).1).trans hv)
    have c1 : w'.cell? ⟨w.heap.size, 0, none⟩ = some v := cell_of_row w' _ 0 _ _ _ hv2
    have f1 : w'.frozen? ⟨w.heap.size, 0, none⟩ = false := frozen_of_row w' _ 0 _ _ hv2
    have ko : KeepsOthers W (w'.setCell ⟨w.heap.size, 0, none⟩ v') := ((KeepsOthers.alloc W _).trans (KeepsOthers.of_grownBy hg' (fun j o hj ho => by
      obtain ⟨cur, hc⟩ := (hrow.alloc (.cells (xc x) 112)).cellsAt j hj
      rw [hc] at ho; cases ho; rfl))).trans (KeepsOthers.setCell _ _ _)
    have hne' := hrow'.ne hv2 (fun cur e => by cases e)
    have hgs : w'.grownBy (w'.setCell ⟨w.heap.size, 0, none⟩ v') (some w.heap.size) := ⟨rfl, rfl, rfl, by simp [World.setCell], fun k _ hk => Below.heap_setCell _ _ _ k (fun e => hk (by rw [e]))⟩
    have hb2 : Below w.heap.size w (w'.setCell ⟨w.heap.size, 0, none⟩ v') := ((hb.alloc hb.size _).grown hg' (by have := hb.size; simp; omega) (fun k e => (hrow.lt k e).1)).grown hgs (by have := hb.size; have := hg'.size; simp at this; omega) (fun k e => by cases e; exact Nat.le_refl _)
    have hfin : ApI w w.heap.size (pre ++ [x]) (w'.setCell ⟨w.heap.size, 0, none⟩ v') := ⟨⟨v', by rw [heap_setCell_same _ _ 0 _ _ _ hv2]; rfl, hrow'.grown hgs (fun k hk e => hne' (by rw [hk, ← e]))⟩, hb2⟩
    have FIN : Hid (KeepsFrom (w.alloc (.cells #[.slice none 0 0] 121)).heap.size W (w'.setCell ⟨w.heap.size, 0, none⟩ v') ∧ KeepsWalks W (w'.setCell ⟨w.heap.size, 0, none⟩ v') ∧ ApI w w.heap.size (pre ++ [x]) (w'.setCell ⟨w.heap.size, 0, none⟩ v')) := ⟨ko.from _, ko.walks, hfin⟩
    obtain ⟨ao, cap, rfl, -, -⟩ := hvl
    subst hv'
    generalize (pre ++ [x]).length = m at *
    clear ko hne' hgs hb2 hfin hg' hown' hrow' hrow hv hv2 hx hne hl hr hseq hI0 hbw
    gi_wp2_with (first | (refine wpListIn_loadR (ty := 112) (x := .tmp 5) (ad := ⟨Bx, 0, none⟩) (v := .agg (xc x)) rfl rfl rfl hld ?_) | (refine wpListIn_buildR (ty := 121) (k := 1) (x := .tmp 9) (u := .agg (xc x)) (v := .slice (some ⟨W.heap.size, 0, none⟩) 1 1) (w' := W.alloc (.cells (xc x) 112)) rfl rfl rfl hbd ?_) | (gi_at_builtin; refine wpListIn_appR rfl _ _ 121 rfl _ _ _ _ rfl rfl happ ?_) | gi_in)
    exact FIN.out
  case done =>
    rintro D xs W hD hS ⟨⟨v, hv, hrow⟩, hb⟩ hK
    have c0 : W.cell? ⟨w.heap.size, 0, none⟩ = some v := cell_of_row W _ 0 _ _ _ hv
    have hR2 : Rw 112 (W.putObj D (.deferred none)) w.heap.size v xs := hrow.grown (grownBy_putObj' W D _) (fun k hk e => by
      obtain ⟨cur, hc⟩ := hrow.cellsAt k hk
      cases e
      rw [hK] at hc; cases hc)
    have hb2 : Below w.heap.size w (W.putObj D (.deferred none)) := hb.grown (grownBy_putObj' W D _) hb.size (fun k e => by cases e; rw [hsz] at hD; omega)
    clear hseq hI0 hbw
    gi_wp2
    refine ⟨by simp, .inl ⟨_, _, rfl, run_takeDeferred hK, ?_⟩⟩
    exact ⟨_, results_tmp rfl _ _ _, v, xs, rfl, hS, hR2, hb2⟩
  case stop =>
    rintro D c pre W _ _ h _
    exact h.elim
end Go.Proofs.YtmlfekbmbnfkjabGreatDoor.E

/-
  What slices.IndexFunc and slices.DeleteFunc come to over a function that may change what lies elsewhere (28 cells an item).
-/
namespace Go.Proofs.YtmlfekbmbnfkjabGreatDoor.E
set_option maxRecDepth 100000
open Go.RowKit Go.Sort

/-- Blocks of items are as they were. -/
def Kpt (W w' : World) : Prop := W.heap.size ≤ w'.heap.size ∧ ∀ (k : Nat) (cur : Array Value), W.heap[k]? = some (.cells cur 112 (0, 0)) → w'.heap[k]? = W.heap[k]?
/-- What a function tells of each item, one behind the other, and what it leaves. -/
structure PredJ (p : It (Cx 26) → Bool) (Bv Bw : Nat) (S : List (It (Cx 26))) (base : Nat) (J : Nat → World → Prop) : Prop where
  asks : ∀ (j : Nat) (i : It (Cx 26)) (W : World), S[j]? = some i → J j W → Calls Tryz.prog 98 #[.agg (xc i), .pointer (some ⟨Bv, 0, none⟩), .pointer (some ⟨Bw, 0, none⟩)] W fun e w' => e = .returned (.bool (p i)) ∧ J (j + 1) w' ∧ Kpt W w'
  stays : ∀ (j : Nat) (W W' : World) (row : Option Nat), J j W → W.grownBy W' row → (∀ g, row = some g → base ≤ g ∧ ∃ cur, W.heap[g]? = some (.cells cur 112 (0, 0))) → J j W'
/-- The first place at which p is true, or -1. -/
def idxI (p : It (Cx 26) → Bool) (S : List (It (Cx 26))) : Int := match S.findIdx? p with
  | none => -1
  | some k => (k : Int)
/-- How many were asked. -/
def asked (p : It (Cx 26) → Bool) (S : List (It (Cx 26))) : Nat := match S.findIdx? p with
  | none => S.length
  | some k => k + 1
theorem Rw.kpt {w w' : World} {base : Nat} {v : Value} {S : List (It (Cx 26))} (h : Rw 112 w base v S) (hk : Kpt w w') : Rw 112 w' base v S := h.keep fun k hv => by
  obtain ⟨cur, hc⟩ := h.cellsAt k hv
  exact hk.2 k cur hc
set_option maxHeartbeats 1000000 in
theorem indexfunc_any (p : It (Cx 26) → Bool) (Bv Bw : Nat) (S : List (It (Cx 26))) (base : Nat) (J : Nat → World → Prop) (hp : PredJ p Bv Bw S base J) (v : Value) (w : World) (hrow : Rw 112 w base v S) (h0 : J 0 w) :
    Calls Tryz.prog 137 #[v, .func (.func 98) #[] #[.pointer (some ⟨Bv, 0, none⟩), .pointer (some ⟨Bw, 0, none⟩)]] w fun e w' => e = .returned (.int .i64 (idxI p S)) ∧ J (asked p S) w' ∧ Rw 112 w' base v S := by
  obtain ⟨ao, cap, hv, hnc, hcm⟩ := hrow.val
  have hcm' : S.length ≤ 9223372036854775807 := by unfold maxLen at hcm; omega
  have hvv : v = .slice ao S.length cap := hv
  obtain ⟨n, hn⟩ : ∃ n, S.length = n := ⟨_, rfl⟩
  rw [hn] at hv hcm'
  rw [hv]
  go_enter Tryz.func137, Tryz.ntmps137
  go_wp2
  go_loopw [8] (fun c wr => ∃ k : Nat, k ≤ n ∧ c = .int .i64 (k : Int) ∧ (∀ j, j < k → ∀ i, S[j]? = some i → p i = false) ∧ J k wr ∧ Rw 112 wr base v S) (fun c _ => n - (intOf c).toNat)
  case atStart => exact ⟨0, Nat.zero_le _, rfl, fun j hj => absurd hj (Nat.not_lt_zero _), h0, hrow⟩
  case round =>
    obtain ⟨k, hk, rfl, hno, hJ, hR⟩ := hrel
    by_cases hlt : k < n
    · have hlt' : (k : Int) < (n : Int) := by omega
      obtain ⟨g, cap', i, hv', -, hi, hbg, hgl, hrg, -⟩ := hR.atx (k := k) (by omega)
      rw [hvv] at hv'
      simp only [Value.slice.injEq] at hv'
      obtain ⟨rfl, -, rfl⟩ := hv'
      have hld := ld_mid hrg
      have hc := hp.asks k i wr hi hJ
      rcases Bool.eq_false_or_eq_true (p i) with hpi | hpi
      · have hf : S.findIdx? p = some k := by
          rw [List.findIdx?_eq_some_iff_getElem]
          obtain ⟨h1, h2⟩ := List.getElem?_eq_some_iff.1 hi
          refine ⟨h1, by rw [h2]; exact hpi, fun j hj => ?_⟩
          have := hno j hj _ (List.getElem?_eq_getElem (by omega))
          simpa using this
        have HR : Hid (idxI p S = (k : Int) ∧ asked p S = k + 1) := ⟨by unfold idxI; rw [hf], by unfold asked; rw [hf]⟩
        rw [hpi] at hc
        have HRW : Hid (Rw 112 wr base v S) := hR
        clear hno hrow hvv hf hR hrg hJ h0
        go_wp2_with (first | (refine wpList_loadR (ty := 112) (x := .tmp 14) (ad := ⟨g, k * 28, none⟩) (v := .agg (xc i)) rfl rfl rfl hld ?_))
        refine Calls.mono hc ?_
        rintro e w2 ⟨rfl, hJ2, hk2⟩
        have hR2 : Hid (Rw 112 w2 base v S) := Rw.kpt HRW.out hk2
        go_wp2
        go_ret
        exact ⟨by rw [HR.out.1]; rfl, by rw [HR.out.2]; exact hJ2, by rw [← hv]; exact hR2.out⟩
      · rw [hpi] at hc
        have hno' : Hid (∀ j, j < k + 1 → ∀ i, S[j]? = some i → p i = false) := fun j hj x hx => by
          by_cases e : j = k
          · subst e; rw [hi] at hx; cases hx; exact hpi
          · exact hno j (by omega) x hx
        have HRW : Hid (Rw 112 wr base v S) := hR
        clear hno hR hrg hJ h0 hrow
        go_wp2_with (first | (refine wpList_loadR (ty := 112) (x := .tmp 14) (ad := ⟨g, k * 28, none⟩) (v := .agg (xc i)) rfl rfl rfl hld ?_))
        refine Calls.mono hc ?_
        rintro e w2 ⟨rfl, hJ2, hk2⟩
        have hR2 : Hid (Rw 112 w2 base v S) := Rw.kpt HRW.out hk2
        go_wp2
        go_roundw
        case rel => exact ⟨k + 1, by omega, by go_num, hno'.out, hJ2, hR2.out⟩
        case measure => simp [intOf]; omega
    · have hlt' : ¬ (k : Int) < (n : Int) := by omega
      have hf : S.findIdx? p = none := by
        rw [List.findIdx?_eq_none_iff]
        intro x hx
        obtain ⟨j, hj⟩ := List.getElem?_of_mem hx
        exact hno j (by have := (List.getElem?_eq_some_iff.1 hj).1; omega) x hj
      have HR : Hid (idxI p S = -1 ∧ asked p S = k) := ⟨by unfold idxI; rw [hf], by unfold asked; rw [hf]; simp only; omega⟩
      have HRW : Hid (Rw 112 wr base v S) := hR
      clear hno hf hR h0 hrow
      go_wp2
      go_ret
      exact ⟨by rw [HR.out.1]; rfl, by rw [HR.out.2]; exact hJ, by rw [← hv]; exact HRW.out⟩
end Go.Proofs.YtmlfekbmbnfkjabGreatDoor.E

/-
  What slices.DeleteFunc comes to over Drop's function: the things of which it isn't true, in their order (28 cells an item).
-/
namespace Go.Proofs.YtmlfekbmbnfkjabGreatDoor.E
set_option maxRecDepth 100000
open Go.RowKit Go.Sort

theorem idx_none {p : It (Cx 26) → Bool} {S : List (It (Cx 26))} (h : S.findIdx? p = none) : S.filter (fun i => !p i) = S := by
  rw [List.findIdx?_eq_none_iff] at h
  exact List.filter_eq_self.2 fun x hx => by rw [h x hx]; rfl
theorem idx_some {p : It (Cx 26) → Bool} {S : List (It (Cx 26))} {k : Nat} (h : S.findIdx? p = some k) : k < S.length ∧ (S.take (k + 1)).filter (fun i => !p i) = S.take k := by
  rw [List.findIdx?_eq_some_iff_getElem] at h
  obtain ⟨h1, h2, h3⟩ := h
  refine ⟨h1, ?_⟩
  rw [List.take_succ_eq_append_getElem h1, List.filter_append]
  have e1 : (S.take k).filter (fun i => !p i) = S.take k := List.filter_eq_self.2 fun x hx => by
    obtain ⟨j, hj⟩ := List.getElem?_of_mem hx
    obtain ⟨hj1, hj2⟩ := List.getElem?_eq_some_iff.1 hj
    have hjk : j < k := by rw [List.length_take] at hj1; omega
    have := h3 j hjk
    rw [List.getElem_take] at hj2
    rw [← hj2]
    simpa using this
  rw [e1]
  simp [h2]
/-- An item is laid into its row. -/
theorem st_mid {w : World} {g a : Nat} {cur : Array Value} (i : It (Cx 26)) (hg : w.heap[g]? = some (.cells cur 112 (0, 0))) (hc : a * 28 + 28 ≤ cur.size) :
    (storeVar 112 ⟨g, a * 28, none⟩ (.agg (xc i))).run Tryz.prog w = .ok () (w.setRow g (cur.toList.take (a * 28) ++ xl i ++ cur.toList.drop (a * 28 + (xl i).length)).toArray) := by
  have hst := run_storeCells_at Tryz.prog g (a * 28) 112 (xl i) 0 cur w hg (by rw [xl_length]; omega) (xl_one i)
  rw [Nat.add_zero] at hst
  have hi := size_it i
  cases hq : Tryz.prog.info? 112 with
  | none => simp [hq] at hi
  | some ti =>
    have hs : (xc i).size = ti.size := by simp [hq] at hi; omega
    have h2 : (xl i).length = ti.size := by rw [← hs, xc, List.size_toArray]
    simp [storeVar, sizeOf, typeInfo, hq, Value.cells, xc, h2, hst]
theorem Rw.setx {w : World} {base g n cap : Nat} {S : List (It (Cx 26))} {cur : Array Value} (h : Rw 112 w base (.slice (some ⟨g, 0, none⟩) n cap) S) (hg0 : w.heap[g]? = some (.cells cur 112 (0, 0))) {a : Nat} (ha : a < S.length) (i : It (Cx 26)) :
    a * 28 + 28 ≤ cur.size ∧ Rw 112 (w.setRow g (cur.toList.take (a * 28) ++ xl i ++ cur.toList.drop (a * 28 + (xl i).length)).toArray) base (.slice (some ⟨g, 0, none⟩) n cap) (S.set a i) := by
  rcases h.2 with ⟨hv, -⟩ | ⟨g', cap', cur', hv, hbg, hg, hn, hc, hcs, htk⟩
  · cases hv
  · simp only [Value.slice.injEq, Option.some.injEq, Addr.mk.injEq, and_true] at hv
    obtain ⟨rfl, rfl, rfl⟩ := hv
    rw [hg0] at hg
    simp only [Option.some.injEq, Obj.cells.injEq, and_true] at hg
    subst hg
    have hK := xl_length i
    have hcl : a * 28 + 28 ≤ cur.size := by rw [hcs]; omega
    refine ⟨hcl, by rw [xs_length], .inr ⟨g, cap, _, by rw [List.length_set], hbg, setRow_heap w g _ _ _ _ hg0, by rw [List.length_set]; exact hn, hc, ?_, ?_⟩⟩
    · simp [hK, hcs]; omega
    · rw [List.length_set, xs_set S a i ha, ← htk]
      have hl : cur.toList.length = cap * 28 := by rw [Array.length_toList, hcs]
      have := take_mid (C := cur.toList) (X := xl i) (p := a * 28) (q := 28) (N := S.length * 28) (by omega) (by omega) hK
      rw [show a * (26 + 2) = a * 28 from rfl, show (a + 1) * (26 + 2) = a * 28 + 28 by omega, ← this, hK]
theorem grown_row (w : World) (g : Nat) (cs : Array Value) : w.grownBy (w.setRow g cs) (some g) :=
  ⟨rfl, rfl, rfl, by simp [World.setRow], fun k _ hk => by
    have hne : k ≠ g := fun e => hk (by rw [e])
    exact setRow_other w g k cs hne⟩
/-- The row is cut behind a, and the rest is cleared. -/
theorem Rw.clear {w : World} {base g n cap a : Nat} {R : List (It (Cx 26))} (h : Rw 112 w base (.slice (some ⟨g, 0, none⟩) n cap) R) (ha : a < n) :
    ∃ w', (∀ ty, (Builtin.clear_ #[121] ty #[.slice (some ⟨g, a * 28, none⟩) (n - a) (cap - a)]).run Tryz.prog w = .ok (.tuple #[]) w') ∧ Rw 112 w' base (.slice (some ⟨g, 0, none⟩) a cap) (R.take a) ∧ w.grownBy w' (some g) := by
  rcases h.2 with ⟨hv, -⟩ | ⟨g', cap', cur, hv, hbg, hg, hn, hc, hcs, htk⟩
  · cases hv
  · simp only [Value.slice.injEq, Option.some.injEq, Addr.mk.injEq, and_true] at hv
    obtain ⟨rfl, rfl, rfl⟩ := hv
    have hzs : (#[Value.int IntKind.i64 0, Value.int IntKind.i64 0, Value.int IntKind.i64 0, Value.int IntKind.i64 0, Value.int IntKind.i64 0, Value.int IntKind.i64 0, Value.int IntKind.i64 0, Value.int IntKind.i64 0, Value.int IntKind.i64 0, Value.int IntKind.i64 0, Value.int IntKind.i64 0, Value.int IntKind.i64 0, Value.int IntKind.i64 0, Value.int IntKind.i64 0, Value.int IntKind.i64 0, Value.int IntKind.i64 0, Value.int IntKind.i64 0, Value.int IntKind.i64 0, Value.int IntKind.i64 0, Value.int IntKind.i64 0, Value.int IntKind.i64 0, Value.int IntKind.i64 0, Value.string { data := #[] }, Value.string { data := #[] }, Value.string { data := #[] }, Value.int IntKind.i64 0, Value.int IntKind.i64 0, Value.int IntKind.i64 0] : Array Value).size = 28 := rfl
    have hzo : ∀ u ∈ (#[Value.int IntKind.i64 0, Value.int IntKind.i64 0, Value.int IntKind.i64 0, Value.int IntKind.i64 0, Value.int IntKind.i64 0, Value.int IntKind.i64 0, Value.int IntKind.i64 0, Value.int IntKind.i64 0, Value.int IntKind.i64 0, Value.int IntKind.i64 0, Value.int IntKind.i64 0, Value.int IntKind.i64 0, Value.int IntKind.i64 0, Value.int IntKind.i64 0, Value.int IntKind.i64 0, Value.int IntKind.i64 0, Value.int IntKind.i64 0, Value.int IntKind.i64 0, Value.int IntKind.i64 0, Value.int IntKind.i64 0, Value.int IntKind.i64 0, Value.int IntKind.i64 0, Value.string { data := #[] }, Value.string { data := #[] }, Value.string { data := #[] }, Value.int IntKind.i64 0, Value.int IntKind.i64 0, Value.int IntKind.i64 0] : Array Value), u.oneCell' = true := by
      have h1 := xc_one (⟨0, 0, zx⟩ : It (Cx 26))
      rw [zx_cells, Array.all_eq_true_iff_forall_mem] at h1
      exact h1
    have hzl : (Builtin.zeroCells #[Value.int IntKind.i64 0, Value.int IntKind.i64 0, Value.int IntKind.i64 0, Value.int IntKind.i64 0, Value.int IntKind.i64 0, Value.int IntKind.i64 0, Value.int IntKind.i64 0, Value.int IntKind.i64 0, Value.int IntKind.i64 0, Value.int IntKind.i64 0, Value.int IntKind.i64 0, Value.int IntKind.i64 0, Value.int IntKind.i64 0, Value.int IntKind.i64 0, Value.int IntKind.i64 0, Value.int IntKind.i64 0, Value.int IntKind.i64 0, Value.int IntKind.i64 0, Value.int IntKind.i64 0, Value.int IntKind.i64 0, Value.int IntKind.i64 0, Value.int IntKind.i64 0, Value.string { data := #[] }, Value.string { data := #[] }, Value.string { data := #[] }, Value.int IntKind.i64 0, Value.int IntKind.i64 0, Value.int IntKind.i64 0] (R.length - a)).toList.length = (R.length - a) * 28 := by simp [Builtin.zeroCells]
    have hone : ∀ u ∈ (Builtin.zeroCells #[Value.int IntKind.i64 0, Value.int IntKind.i64 0, Value.int IntKind.i64 0, Value.int IntKind.i64 0, Value.int IntKind.i64 0, Value.int IntKind.i64 0, Value.int IntKind.i64 0, Value.int IntKind.i64 0, Value.int IntKind.i64 0, Value.int IntKind.i64 0, Value.int IntKind.i64 0, Value.int IntKind.i64 0, Value.int IntKind.i64 0, Value.int IntKind.i64 0, Value.int IntKind.i64 0, Value.int IntKind.i64 0, Value.int IntKind.i64 0, Value.int IntKind.i64 0, Value.int IntKind.i64 0, Value.int IntKind.i64 0, Value.int IntKind.i64 0, Value.int IntKind.i64 0, Value.string { data := #[] }, Value.string { data := #[] }, Value.string { data := #[] }, Value.int IntKind.i64 0, Value.int IntKind.i64 0, Value.int IntKind.i64 0] (R.length - a)).toList, u.oneCell' = true := by
      generalize hZ : (#[Value.int IntKind.i64 0, Value.int IntKind.i64 0, Value.int IntKind.i64 0, Value.int IntKind.i64 0, Value.int IntKind.i64 0, Value.int IntKind.i64 0, Value.int IntKind.i64 0, Value.int IntKind.i64 0, Value.int IntKind.i64 0, Value.int IntKind.i64 0, Value.int IntKind.i64 0, Value.int IntKind.i64 0, Value.int IntKind.i64 0, Value.int IntKind.i64 0, Value.int IntKind.i64 0, Value.int IntKind.i64 0, Value.int IntKind.i64 0, Value.int IntKind.i64 0, Value.int IntKind.i64 0, Value.int IntKind.i64 0, Value.int IntKind.i64 0, Value.int IntKind.i64 0, Value.string { data := #[] }, Value.string { data := #[] }, Value.string { data := #[] }, Value.int IntKind.i64 0, Value.int IntKind.i64 0, Value.int IntKind.i64 0] : Array Value) = Z0 at hzs hzo
      intro u hu
      simp only [Builtin.zeroCells, Array.toList_map, List.mem_map] at hu
      obtain ⟨j, -, rfl⟩ := hu
      have hlt : j % Z0.size < Z0.size := Nat.mod_lt _ (by omega)
      rw [getElem!_pos Z0 _ hlt]
      exact hzo _ (Array.getElem_mem hlt)
    obtain ⟨Z, hZ⟩ : ∃ Z, (Builtin.zeroCells #[Value.int IntKind.i64 0, Value.int IntKind.i64 0, Value.int IntKind.i64 0, Value.int IntKind.i64 0, Value.int IntKind.i64 0, Value.int IntKind.i64 0, Value.int IntKind.i64 0, Value.int IntKind.i64 0, Value.int IntKind.i64 0, Value.int IntKind.i64 0, Value.int IntKind.i64 0, Value.int IntKind.i64 0, Value.int IntKind.i64 0, Value.int IntKind.i64 0, Value.int IntKind.i64 0, Value.int IntKind.i64 0, Value.int IntKind.i64 0, Value.int IntKind.i64 0, Value.int IntKind.i64 0, Value.int IntKind.i64 0, Value.int IntKind.i64 0, Value.int IntKind.i64 0, Value.string { data := #[] }, Value.string { data := #[] }, Value.string { data := #[] }, Value.int IntKind.i64 0, Value.int IntKind.i64 0, Value.int IntKind.i64 0] (R.length - a)).toList = Z := ⟨_, rfl⟩
    rw [hZ] at hzl hone
    have hst := run_storeCells_at Tryz.prog g (a * 28) 112 Z 0 cur w hg (by rw [hzl, hcs]; omega) hone
    rw [Nat.add_zero] at hst
    refine ⟨w.setRow g (cur.toList.take (a * 28) ++ Z ++ cur.toList.drop (a * 28 + Z.length)).toArray, fun ty => ?_, ⟨by rw [xs_length], .inr ⟨g, cap, _, by rw [List.length_take, Nat.min_eq_left (by omega)], hbg, setRow_heap w g _ _ _ _ hg, by rw [List.length_take]; omega, hc, ?_, ?_⟩⟩, grown_row _ _ _⟩
    · obtain ⟨m, hm⟩ : ∃ m, R.length - a = m + 1 := ⟨R.length - a - 1, by omega⟩
      rw [hm] at hZ ⊢
      simp only [Builtin.clear_, Value.cells]
      simp [hZ]
      rw [hst]
      simp
    · simp [hzl, hcs]; omega
    · rw [List.length_take, Nat.min_eq_left (by omega)]
      have hl : a * 28 ≤ cur.toList.length := by rw [Array.length_toList, hcs]; omega
      rw [List.append_assoc, List.take_append_of_le_length (by rw [List.length_take]; omega), List.take_take]
      have e1 : xs (R.take a) = (xs R).take (a * 28) := by
        have := xs_append (R.take a) (R.drop a)
        rw [List.take_append_drop] at this
        have hL : (xs (R.take a)).length = a * 28 := by rw [xs_length, List.length_take, Nat.min_eq_left (by omega)]
        rw [this, ← hL, List.take_left]
      rw [e1, ← htk, List.take_take]
      congr 1
      omega
end Go.Proofs.YtmlfekbmbnfkjabGreatDoor.E

