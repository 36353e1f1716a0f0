/-
  What slices.SortFunc by dots comes to: the same slice, in order.
-/
import Derived.Test.YtmlfekbmbnfkjabGreatDoorQ40
import Derived.Sort.OwnSorted
namespace Go.Proofs.YtmlfekbmbnfkjabGreatDoor.E
set_option maxRecDepth 100000
set_option maxRecDepth 100000
open Go.RowKit Go.Sort

instance : Inhabited (It (Cx 26)) := ⟨⟨0, 0, zx⟩⟩
theorem cfI_lt (i j : It (Cx 26)) : ltOf cfI i j = bef i j := by
  unfold ltOf cfI orI cmpI bef
  by_cases h1 : i.r < j.r
  · simp [h1]
  · by_cases h2 : j.r < i.r
    · have : ¬ i.r = j.r := by omega
      simp [h1, h2, this]
    · have e : i.r = j.r := by omega
      by_cases h3 : i.n < j.n
      · simp [e, h3]
      · by_cases h4 : j.n < i.n <;> simp [e, h3, h4]
theorem cfI_swo : SWO (ltOf (α := It (Cx 26)) cfI) where
  irrefl x := by rw [cfI_lt]; exact bef_irrefl x
  trans x y z h1 h2 := by rw [cfI_lt] at *; exact bef_trans h1 h2
  ntrans x y z h1 h2 := by
    rw [cfI_lt] at *
    cases h : bef x z
    · rfl
    · rw [bef_iff] at h
      have k1 : ¬ (x.r < y.r ∨ (x.r = y.r ∧ x.n < y.n)) := fun e => by rw [bef_iff.2 e] at h1; cases h1
      have k2 : ¬ (y.r < z.r ∨ (y.r = z.r ∧ y.n < z.n)) := fun e => by rw [bef_iff.2 e] at h2; cases h2
      omega
theorem flat_xs (d : Array (It (Cx 26))) : (flatK xl 28 d).toList = xs d.toList := by
  apply List.ext_getElem?
  intro t
  by_cases ht : t < d.size * 28
  · have hk : t / 28 < d.size := by omega
    have hi : d.toList[t / 28]? = some d[t / 28] := by simp [hk]
    have hm : t % 28 < (xl d[t / 28]).length := by rw [xl_length]; omega
    obtain ⟨v, hv⟩ : ∃ v, (xl d[t / 28])[t % 28]? = some v := ⟨_, List.getElem?_eq_getElem hm⟩
    have h1 := xs_at (t / 28) _ hi (t % 28) v hv
    rw [show t / 28 * 28 + t % 28 = t by omega] at h1
    have hsz : t < (flatK xl 28 d).size := by rw [size_flatK]; exact ht
    have h2 := get_flatK xl 28 d t ht
    rw [getElem!_pos _ t hsz, getElem!_pos d _ hk] at h2
    rw [h1, Array.getElem?_toList, Array.getElem?_eq_getElem hsz, h2]
    obtain ⟨h3, h4⟩ := List.getElem?_eq_some_iff.1 hv
    rw [getElem!_pos (xl d[t / 28]) (t % 28) h3, h4]
  · rw [List.getElem?_eq_none (by rw [Array.length_toList, size_flatK]; omega), List.getElem?_eq_none (by rw [xs_length, Array.length_toList]; omega)]
theorem holds_xs {w : World} {g : Nat} {cur : Array Value} {e : TypeId} {L : List (It (Cx 26))} (hb : w.heap[g]? = some (.cells cur e (0, 0))) (ht : cur.toList.take (L.length * 28) = xs L) : HoldsK xl 28 w g 0 L.toArray := by
  intro j hj
  have hj' : j < L.length * 28 := by rw [size_flatK] at hj; simpa using hj
  refine ⟨?_, by simp [World.frozen?, hb]⟩
  have h1 : (cur.toList.take (L.length * 28))[j]? = (flatK xl 28 L.toArray).toList[j]? := by rw [ht, flat_xs]
  rw [List.getElem?_take_of_lt hj', Array.getElem?_toList, Array.getElem?_toList, Array.getElem?_eq_getElem hj] at h1
  simp only [World.cell?, hb, Nat.zero_add]
  simp only [Option.isSome_none, Bool.false_eq_true, if_false]
  rw [h1, getElem!_pos _ j hj]
  rfl
theorem heap_sortedK {w : World} {g n : Nat} {os : Array Obj} {cur : Array Value} {e : TypeId} {fr : Nat × Nat} (d : Array (It (Cx 26))) (hb : w.heap[g]? = some (.cells cur e fr)) :
    (sortWorldK xl 28 w g 0 n d os).heap[g]? = some (.cells (putCells id 0 (flatK xl 28 d) cur) e fr) := by
  have hg : g < w.heap.size := (Array.getElem?_eq_some_iff.1 hb).1
  unfold sortWorldK putRowK
  rw [heap_grow_old _ _ (by simpa using hg)]
  simp [putRow, mapBlock, Sort.ahead, Array.getElem?_modify, hb, onCells]
theorem grownBy_sortedK {w : World} {g n : Nat} {os : Array Obj} (d : Array (It (Cx 26))) : w.grownBy (sortWorldK xl 28 w g 0 n d os) (some g) := by
  unfold sortWorldK putRowK
  refine ⟨rfl, rfl, rfl, by simp, fun k hk hne => ?_⟩
  rw [heap_grow_old _ _ (by simpa using hk)]
  have : g ≠ k := fun e => hne (by rw [e])
  simp [putRow, mapBlock, Sort.ahead, Array.getElem?_modify, this]
theorem take_putCellsK (cur : Array Value) (d : Array (It (Cx 26))) (h : d.size * 28 ≤ cur.size) : (putCells id 0 (flatK xl 28 d) cur).toList.take (d.size * 28) = xs d.toList := by
  rw [← flat_xs]
  apply List.ext_getElem?
  intro j
  by_cases hj : j < d.size * 28
  · have hj2 : j < (flatK xl 28 d).size := by rw [size_flatK]; exact hj
    rw [List.getElem?_take_of_lt hj, Array.getElem?_toList, Array.getElem?_toList, Array.getElem?_eq_getElem hj2]
    simp [putCells, hj, show j < cur.size by omega]
  · rw [List.getElem?_take_eq_none (by omega), List.getElem?_eq_none (by rw [Array.length_toList, size_flatK]; omega)]

theorem sorted_is {L S : List (It (Cx 26))} (hp : L.Perm S) (hS : Srt S) (d : Array (It (Cx 26))) (h1 : PermIn 0 L.toArray.size L.toArray d) (h2 : SortedIn (ltOf cfI) 0 L.toArray.size d) : d.toList = S := by
  obtain ⟨hs, -, hpm⟩ := h1
  have e1 : (d.extract 0 L.toArray.size) = d := by rw [← hs]; exact Array.extract_size
  have e2 : (L.toArray.extract 0 L.toArray.size) = L.toArray := Array.extract_size
  rw [e1, e2] at hpm
  have p1 : d.toList.Perm S := hpm.trans hp
  have ap : d.toList.Pairwise fun a b => ¬ (a.r = b.r ∧ a.n = b.n) := (p1.symm.pairwise_iff (fun {a b} (hh : ¬ (a.r = b.r ∧ a.n = b.n)) e => hh ⟨e.1.symm, e.2.symm⟩)).1 hS.apart
  have sr : Srt d.toList := by
    unfold Srt
    rw [List.pairwise_iff_getElem] at ap ⊢
    intro i j hi hj hij
    have hi' : i < d.size := by simpa using hi
    have hj' : j < d.size := by simpa using hj
    have := h2 i j (Nat.zero_le _) hij (by rw [← hs]; exact hj')
    rw [getElem!_pos d j hj', getElem!_pos d i hi', cfI_lt] at this
    have hne := ap i j hi hj hij
    rcases bef_tri d[i] d[j] with h | h | h
    · rw [isAt_iff] at h
      exact absurd h (by simpa using hne)
    · simpa using h
    · rw [this] at h; cases h
  exact Srt.eq_of_perm sr hS p1

theorem sort_any (v : Value) (L S : List (It (Cx 26))) (base : Nat) (w : World) (hrow : Rw 112 w base v L) (hl : L.length ≤ 1048576) (hp : L.Perm S) (hS : Srt S) :
    Calls Tryz.prog 171 #[v, .func (.func 136) #[] #[]] w fun e w' => e = .returned (.tuple #[]) ∧ Rw 112 w' base v S ∧ w.grownBy w' v.ownBlock := by
  have hlen := hp.length_eq
  rcases hrow.2 with ⟨rfl, h0⟩ | ⟨g, cap, cur, rfl, hbg, hg, hn, hc, hcs, htk⟩
  · have hL : L = [] := List.eq_nil_of_length_eq_zero h0
    subst hL
    have hS0 : S = [] := List.eq_nil_of_length_eq_zero hlen.symm
    subst hS0
    have hcon := AnyF.slices_SortFunc_none sortLaid none 0 (.func (.func 136) #[] #[]) w
    change Calls Tryz.prog 171 _ _ _ at hcon
    refine hcon.mono ?_
    rintro e w' ⟨he, rfl⟩
    exact ⟨he, hrow, World.grownBy.refl _ _⟩
  · have hgl : g < w.heap.size := (Array.getElem?_eq_some_iff.1 hg).1
    have eg : ∀ args w, (callFunc 136 args).run Tryz.prog w = .ok (.enter 136 args) w := enters_of Tryz.func136 (by kernel_rfl) rfl
    have hcmp : CmpLays Tryz.prog 136 #[] xl 28 cfI g 0 L.toArray.size w := fun m os dk _ x y => bydots_any x y _
    have hcon := AnyQ.slices_SortFunc sortLaid 28 Tryz.isAgg112 Tryz.sizeOf112 xl xl_length xl_one cfI cfI_swo 136 #[] g 0 cap L.toArray w eg hcmp (holds_xs hg htk) hgl (by simp; omega)
    change Calls Tryz.prog 171 _ _ _ at hcon
    rw [List.size_toArray] at hcon
    refine hcon.mono ?_
    rintro e w' ⟨he, d, n, os, h1, h2, rfl⟩
    have hd := sorted_is hp hS d (by rw [List.size_toArray]; exact h1) (by rw [List.size_toArray]; exact h2)
    have hds : d.size = L.length := by have := congrArg List.length hd; rw [Array.length_toList] at this; omega
    refine ⟨he, ⟨xs_length S, .inr ⟨g, cap, _, by rw [hlen], hbg, heap_sortedK d hg, by omega, hc, by simp [putCells, hcs], ?_⟩⟩, grownBy_sortedK d⟩
    have := take_putCellsK cur d (by rw [hcs, hds]; omega)
    rw [hd, hds, hlen] at this
    exact this
end Go.Proofs.YtmlfekbmbnfkjabGreatDoor.E

/-
  What slices.SortFunc by dots comes to: the same slice, in order.
-/
namespace Go.Proofs.YtmlfekbmbnfkjabGreatDoor.D
set_option maxRecDepth 100000
set_option maxRecDepth 100000
open Go.RowKit Go.Sort

instance : Inhabited (It (Cx 28)) := ⟨⟨0, 0, zx⟩⟩
theorem cfI_lt (i j : It (Cx 28)) : ltOf cfI i j = bef i j := by
  unfold ltOf cfI orI cmpI bef
  by_cases h1 : i.r < j.r
  · simp [h1]
  · by_cases h2 : j.r < i.r
    · have : ¬ i.r = j.r := by omega
      simp [h1, h2, this]
    · have e : i.r = j.r := by omega
      by_cases h3 : i.n < j.n
      · simp [e, h3]
      · by_cases h4 : j.n < i.n <;> simp [e, h3, h4]
theorem cfI_swo : SWO (ltOf (α := It (Cx 28)) cfI) where
  irrefl x := by rw [cfI_lt]; exact bef_irrefl x
  trans x y z h1 h2 := by rw [cfI_lt] at *; exact bef_trans h1 h2
  ntrans x y z h1 h2 := by
    rw [cfI_lt] at *
    cases h : bef x z
    · rfl
    · rw [bef_iff] at h
      have k1 : ¬ (x.r < y.r ∨ (x.r = y.r ∧ x.n < y.n)) := fun e => by rw [bef_iff.2 e] at h1; cases h1
      have k2 : ¬ (y.r < z.r ∨ (y.r = z.r ∧ y.n < z.n)) := fun e => by rw [bef_iff.2 e] at h2; cases h2
      omega
theorem flat_xs (d : Array (It (Cx 28))) : (flatK xl 30 d).toList = xs d.toList := by
  apply List.ext_getElem?
  intro t
  by_cases ht : t < d.size * 30
  · have hk : t / 30 < d.size := by omega
    have hi : d.toList[t / 30]? = some d[t / 30] := by simp [hk]
    have hm : t % 30 < (xl d[t / 30]).length := by rw [xl_length]; omega
    obtain ⟨v, hv⟩ : ∃ v, (xl d[t / 30])[t % 30]? = some v := ⟨_, List.getElem?_eq_getElem hm⟩
    have h1 := xs_at (t / 30) _ hi (t % 30) v hv
    rw [show t / 30 * 30 + t % 30 = t by omega] at h1
    have hsz : t < (flatK xl 30 d).size := by rw [size_flatK]; exact ht
    have h2 := get_flatK xl 30 d t ht
    rw [getElem!_pos _ t hsz, getElem!_pos d _ hk] at h2
    rw [h1, Array.getElem?_toList, Array.getElem?_eq_getElem hsz, h2]
    obtain ⟨h3, h4⟩ := List.getElem?_eq_some_iff.1 hv
    rw [getElem!_pos (xl d[t / 30]) (t % 30) h3, h4]
  · rw [List.getElem?_eq_none (by rw [Array.length_toList, size_flatK]; omega), List.getElem?_eq_none (by rw [xs_length, Array.length_toList]; omega)]
theorem holds_xs {w : World} {g : Nat} {cur : Array Value} {e : TypeId} {L : List (It (Cx 28))} (hb : w.heap[g]? = some (.cells cur e (0, 0))) (ht : cur.toList.take (L.length * 30) = xs L) : HoldsK xl 30 w g 0 L.toArray := by
  intro j hj
  have hj' : j < L.length * 30 := by rw [size_flatK] at hj; simpa using hj
  refine ⟨?_, by simp [World.frozen?, hb]⟩
  have h1 : (cur.toList.take (L.length * 30))[j]? = (flatK xl 30 L.toArray).toList[j]? := by rw [ht, flat_xs]
  rw [List.getElem?_take_of_lt hj', Array.getElem?_toList, Array.getElem?_toList, Array.getElem?_eq_getElem hj] at h1
  simp only [World.cell?, hb, Nat.zero_add]
  simp only [Option.isSome_none, Bool.false_eq_true, if_false]
  rw [h1, getElem!_pos _ j hj]
  rfl
theorem heap_sortedK {w : World} {g n : Nat} {os : Array Obj} {cur : Array Value} {e : TypeId} {fr : Nat × Nat} (d : Array (It (Cx 28))) (hb : w.heap[g]? = some (.cells cur e fr)) :
    (sortWorldK xl 30 w g 0 n d os).heap[g]? = some (.cells (putCells id 0 (flatK xl 30 d) cur) e fr) := by
  have hg : g < w.heap.size := (Array.getElem?_eq_some_iff.1 hb).1
  unfold sortWorldK putRowK
  rw [heap_grow_old _ _ (by simpa using hg)]
  simp [putRow, mapBlock, Sort.ahead, Array.getElem?_modify, hb, onCells]
theorem grownBy_sortedK {w : World} {g n : Nat} {os : Array Obj} (d : Array (It (Cx 28))) : w.grownBy (sortWorldK xl 30 w g 0 n d os) (some g) := by
  unfold sortWorldK putRowK
  refine ⟨rfl, rfl, rfl, by simp, fun k hk hne => ?_⟩
  rw [heap_grow_old _ _ (by simpa using hk)]
  have : g ≠ k := fun e => hne (by rw [e])
  simp [putRow, mapBlock, Sort.ahead, Array.getElem?_modify, this]
theorem take_putCellsK (cur : Array Value) (d : Array (It (Cx 28))) (h : d.size * 30 ≤ cur.size) : (putCells id 0 (flatK xl 30 d) cur).toList.take (d.size * 30) = xs d.toList := by
  rw [← flat_xs]
  apply List.ext_getElem?
  intro j
  by_cases hj : j < d.size * 30
  · have hj2 : j < (flatK xl 30 d).size := by rw [size_flatK]; exact hj
    rw [List.getElem?_take_of_lt hj, Array.getElem?_toList, Array.getElem?_toList, Array.getElem?_eq_getElem hj2]
    simp [putCells, hj, show j < cur.size by omega]
  · rw [List.getElem?_take_eq_none (by omega), List.getElem?_eq_none (by rw [Array.length_toList, size_flatK]; omega)]

theorem sorted_is {L S : List (It (Cx 28))} (hp : L.Perm S) (hS : Srt S) (d : Array (It (Cx 28))) (h1 : PermIn 0 L.toArray.size L.toArray d) (h2 : SortedIn (ltOf cfI) 0 L.toArray.size d) : d.toList = S := by
  obtain ⟨hs, -, hpm⟩ := h1
  have e1 : (d.extract 0 L.toArray.size) = d := by rw [← hs]; exact Array.extract_size
  have e2 : (L.toArray.extract 0 L.toArray.size) = L.toArray := Array.extract_size
  rw [e1, e2] at hpm
  have p1 : d.toList.Perm S := hpm.trans hp
  have ap : d.toList.Pairwise fun a b => ¬ (a.r = b.r ∧ a.n = b.n) := (p1.symm.pairwise_iff (fun {a b} (hh : ¬ (a.r = b.r ∧ a.n = b.n)) e => hh ⟨e.1.symm, e.2.symm⟩)).1 hS.apart
  have sr : Srt d.toList := by
    unfold Srt
    rw [List.pairwise_iff_getElem] at ap ⊢
    intro i j hi hj hij
    have hi' : i < d.size := by simpa using hi
    have hj' : j < d.size := by simpa using hj
    have := h2 i j (Nat.zero_le _) hij (by rw [← hs]; exact hj')
    rw [getElem!_pos d j hj', getElem!_pos d i hi', cfI_lt] at this
    have hne := ap i j hi hj hij
    rcases bef_tri d[i] d[j] with h | h | h
    · rw [isAt_iff] at h
      exact absurd h (by simpa using hne)
    · simpa using h
    · rw [this] at h; cases h
  exact Srt.eq_of_perm sr hS p1

theorem sort_any (v : Value) (L S : List (It (Cx 28))) (base : Nat) (w : World) (hrow : Rw 135 w base v L) (hl : L.length ≤ 1048576) (hp : L.Perm S) (hS : Srt S) :
    Calls Tryz.prog 221 #[v, .func (.func 192) #[] #[]] w fun e w' => e = .returned (.tuple #[]) ∧ Rw 135 w' base v S ∧ w.grownBy w' v.ownBlock := by
  have hlen := hp.length_eq
  rcases hrow.2 with ⟨rfl, h0⟩ | ⟨g, cap, cur, rfl, hbg, hg, hn, hc, hcs, htk⟩
  · have hL : L = [] := List.eq_nil_of_length_eq_zero h0
    subst hL
    have hS0 : S = [] := List.eq_nil_of_length_eq_zero hlen.symm
    subst hS0
    have hcon := AnyF.slices_SortFunc_none sortLaid none 0 (.func (.func 192) #[] #[]) w
    change Calls Tryz.prog 221 _ _ _ at hcon
    refine hcon.mono ?_
    rintro e w' ⟨he, rfl⟩
    exact ⟨he, hrow, World.grownBy.refl _ _⟩
  · have hgl : g < w.heap.size := (Array.getElem?_eq_some_iff.1 hg).1
    have eg : ∀ args w, (callFunc 192 args).run Tryz.prog w = .ok (.enter 192 args) w := enters_of Tryz.func192 (by kernel_rfl) rfl
    have hcmp : CmpLays Tryz.prog 192 #[] xl 30 cfI g 0 L.toArray.size w := fun m os dk _ x y => bydots_any x y _
    have hcon := AnyQ.slices_SortFunc sortLaid 30 Tryz.isAgg135 Tryz.sizeOf135 xl xl_length xl_one cfI cfI_swo 192 #[] g 0 cap L.toArray w eg hcmp (holds_xs hg htk) hgl (by simp; omega)
    change Calls Tryz.prog 221 _ _ _ at hcon
    rw [List.size_toArray] at hcon
    refine hcon.mono ?_
    rintro e w' ⟨he, d, n, os, h1, h2, rfl⟩
    have hd := sorted_is hp hS d (by rw [List.size_toArray]; exact h1) (by rw [List.size_toArray]; exact h2)
    have hds : d.size = L.length := by have := congrArg List.length hd; rw [Array.length_toList] at this; omega
    refine ⟨he, ⟨xs_length S, .inr ⟨g, cap, _, by rw [hlen], hbg, heap_sortedK d hg, by omega, hc, by simp [putCells, hcs], ?_⟩⟩, grownBy_sortedK d⟩
    have := take_putCellsK cur d (by rw [hcs, hds]; omega)
    rw [hd, hds, hlen] at this
    exact this
end Go.Proofs.YtmlfekbmbnfkjabGreatDoor.D

