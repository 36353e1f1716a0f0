/-
  What slices.DeleteFunc comes to over Drop's function: the things of which it isn't true, in their order (28 cells an item).
-/
import Derived.Test.YthpkpmcccpfabaaYdfe
namespace Go.Proofs.Ythpkpmcccpfabaa.E
set_option maxRecDepth 100000
open Go.RowKit Go.Sort

theorem idx_none {p : It (Cx 26) → Bool} {S : List (It (Cx 26))} (h : S.findIdx? p = none) : S.filter (fun i => !p i) = S := by
  rw [List.findIdx?_eq_none_iff] at h
  exact List.filter_eq_self.2 fun x hx => by rw [h x hx]; rfl
theorem idx_some {p : It (Cx 26) → Bool} {S : List (It (Cx 26))} {k : Nat} (h : S.findIdx? p = some k) : k < S.length ∧ (S.take (k + 1)).filter (fun i => !p i) = S.take k := by
  rw [List.findIdx?_eq_some_iff_getElem] at h
  obtain ⟨h1, h2, h3⟩ := h
  refine ⟨h1, ?_⟩
  rw [List.take_succ_eq_append_getElem h1, List.filter_append]
  have e1 : (S.take k).filter (fun i => !p i) = S.take k := List.filter_eq_self.2 fun x hx => by
    obtain ⟨j, hj⟩ := List.getElem?_of_mem hx
    obtain ⟨hj1, hj2⟩ := List.getElem?_eq_some_iff.1 hj
    have hjk : j < k := by rw [List.length_take] at hj1; omega
    have := h3 j hjk
    rw [List.getElem_take] at hj2
    rw [← hj2]
    simpa using this
  rw [e1]
  simp [h2]
/-- An item is laid into its row. -/
theorem st_mid {w : World} {g a : Nat} {cur : Array Value} (i : It (Cx 26)) (hg : w.heap[g]? = some (.cells cur 74 (0, 0))) (hc : a * 28 + 28 ≤ cur.size) :
    (storeVar 74 ⟨g, a * 28, none⟩ (.agg (xc i))).run Try.prog w = .ok () (w.setRow g (cur.toList.take (a * 28) ++ xl i ++ cur.toList.drop (a * 28 + (xl i).length)).toArray) := by
  have hst := run_storeCells_at Try.prog g (a * 28) 74 (xl i) 0 cur w hg (by rw [xl_length]; omega) (xl_one i)
  rw [Nat.add_zero] at hst
  have hi := size_it i
  cases hq : Try.prog.info? 74 with
  | none => simp [hq] at hi
  | some ti =>
    have hs : (xc i).size = ti.size := by simp [hq] at hi; omega
    have h2 : (xl i).length = ti.size := by rw [← hs, xc, List.size_toArray]
    simp [storeVar, sizeOf, typeInfo, hq, Value.cells, xc, h2, hst]
theorem Rw.setx {w : World} {base g n cap : Nat} {S : List (It (Cx 26))} {cur : Array Value} (h : Rw 74 w base (.slice (some ⟨g, 0, none⟩) n cap) S) (hg0 : w.heap[g]? = some (.cells cur 74 (0, 0))) {a : Nat} (ha : a < S.length) (i : It (Cx 26)) :
    a * 28 + 28 ≤ cur.size ∧ Rw 74 (w.setRow g (cur.toList.take (a * 28) ++ xl i ++ cur.toList.drop (a * 28 + (xl i).length)).toArray) base (.slice (some ⟨g, 0, none⟩) n cap) (S.set a i) := by
  rcases h.2 with ⟨hv, -⟩ | ⟨g', cap', cur', hv, hbg, hg, hn, hc, hcs, htk⟩
  · cases hv
  · simp only [Value.slice.injEq, Option.some.injEq, Addr.mk.injEq, and_true] at hv
    obtain ⟨rfl, rfl, rfl⟩ := hv
    rw [hg0] at hg
    simp only [Option.some.injEq, Obj.cells.injEq, and_true] at hg
    subst hg
    have hK := xl_length i
    have hcl : a * 28 + 28 ≤ cur.size := by rw [hcs]; omega
    refine ⟨hcl, by rw [xs_length], .inr ⟨g, cap, _, by rw [List.length_set], hbg, setRow_heap w g _ _ _ _ hg0, by rw [List.length_set]; exact hn, hc, ?_, ?_⟩⟩
    · simp [hK, hcs]; omega
    · rw [List.length_set, xs_set S a i ha, ← htk]
      have hl : cur.toList.length = cap * 28 := by rw [Array.length_toList, hcs]
      have := take_mid (C := cur.toList) (X := xl i) (p := a * 28) (q := 28) (N := S.length * 28) (by omega) (by omega) hK
      rw [show a * (26 + 2) = a * 28 from rfl, show (a + 1) * (26 + 2) = a * 28 + 28 by omega, ← this, hK]
theorem grown_row (w : World) (g : Nat) (cs : Array Value) : w.grownBy (w.setRow g cs) (some g) :=
  ⟨rfl, rfl, rfl, by simp [World.setRow], fun k _ hk => by
    have hne : k ≠ g := fun e => hk (by rw [e])
    exact setRow_other w g k cs hne⟩
/-- The row is cut behind a, and the rest is cleared. -/
theorem Rw.clear {w : World} {base g n cap a : Nat} {R : List (It (Cx 26))} (h : Rw 74 w base (.slice (some ⟨g, 0, none⟩) n cap) R) (ha : a < n) :
    ∃ w', (∀ ty, (Builtin.clear_ #[60] ty #[.slice (some ⟨g, a * 28, none⟩) (n - a) (cap - a)]).run Try.prog w = .ok (.tuple #[]) w') ∧ Rw 74 w' base (.slice (some ⟨g, 0, none⟩) a cap) (R.take a) ∧ w.grownBy w' (some g) := by
  rcases h.2 with ⟨hv, -⟩ | ⟨g', cap', cur, hv, hbg, hg, hn, hc, hcs, htk⟩
  · cases hv
  · simp only [Value.slice.injEq, Option.some.injEq, Addr.mk.injEq, and_true] at hv
    obtain ⟨rfl, rfl, rfl⟩ := hv
    have hzs : (#[Value.int IntKind.i64 0, Value.int IntKind.i64 0, Value.int IntKind.i64 0, Value.int IntKind.i64 0, Value.int IntKind.i64 0, Value.int IntKind.i64 0, Value.int IntKind.i64 0, Value.int IntKind.i64 0, Value.int IntKind.i64 0, Value.int IntKind.i64 0, Value.int IntKind.i64 0, Value.int IntKind.i64 0, Value.int IntKind.i64 0, Value.int IntKind.i64 0, Value.int IntKind.i64 0, Value.int IntKind.i64 0, Value.int IntKind.i64 0, Value.int IntKind.i64 0, Value.int IntKind.i64 0, Value.int IntKind.i64 0, Value.int IntKind.i64 0, Value.int IntKind.i64 0, Value.string { data := #[] }, Value.string { data := #[] }, Value.string { data := #[] }, Value.int IntKind.i64 0, Value.int IntKind.i64 0, Value.int IntKind.i64 0] : Array Value).size = 28 := rfl
    have hzo : ∀ u ∈ (#[Value.int IntKind.i64 0, Value.int IntKind.i64 0, Value.int IntKind.i64 0, Value.int IntKind.i64 0, Value.int IntKind.i64 0, Value.int IntKind.i64 0, Value.int IntKind.i64 0, Value.int IntKind.i64 0, Value.int IntKind.i64 0, Value.int IntKind.i64 0, Value.int IntKind.i64 0, Value.int IntKind.i64 0, Value.int IntKind.i64 0, Value.int IntKind.i64 0, Value.int IntKind.i64 0, Value.int IntKind.i64 0, Value.int IntKind.i64 0, Value.int IntKind.i64 0, Value.int IntKind.i64 0, Value.int IntKind.i64 0, Value.int IntKind.i64 0, Value.int IntKind.i64 0, Value.string { data := #[] }, Value.string { data := #[] }, Value.string { data := #[] }, Value.int IntKind.i64 0, Value.int IntKind.i64 0, Value.int IntKind.i64 0] : Array Value), u.oneCell' = true := by
      have h1 := xc_one (⟨0, 0, zx⟩ : It (Cx 26))
      rw [zx_cells, Array.all_eq_true_iff_forall_mem] at h1
      exact h1
    have hzl : (Builtin.zeroCells #[Value.int IntKind.i64 0, Value.int IntKind.i64 0, Value.int IntKind.i64 0, Value.int IntKind.i64 0, Value.int IntKind.i64 0, Value.int IntKind.i64 0, Value.int IntKind.i64 0, Value.int IntKind.i64 0, Value.int IntKind.i64 0, Value.int IntKind.i64 0, Value.int IntKind.i64 0, Value.int IntKind.i64 0, Value.int IntKind.i64 0, Value.int IntKind.i64 0, Value.int IntKind.i64 0, Value.int IntKind.i64 0, Value.int IntKind.i64 0, Value.int IntKind.i64 0, Value.int IntKind.i64 0, Value.int IntKind.i64 0, Value.int IntKind.i64 0, Value.int IntKind.i64 0, Value.string { data := #[] }, Value.string { data := #[] }, Value.string { data := #[] }, Value.int IntKind.i64 0, Value.int IntKind.i64 0, Value.int IntKind.i64 0] (R.length - a)).toList.length = (R.length - a) * 28 := by simp [Builtin.zeroCells]
    have hone : ∀ u ∈ (Builtin.zeroCells #[Value.int IntKind.i64 0, Value.int IntKind.i64 0, Value.int IntKind.i64 0, Value.int IntKind.i64 0, Value.int IntKind.i64 0, Value.int IntKind.i64 0, Value.int IntKind.i64 0, Value.int IntKind.i64 0, Value.int IntKind.i64 0, Value.int IntKind.i64 0, Value.int IntKind.i64 0, Value.int IntKind.i64 0, Value.int IntKind.i64 0, Value.int IntKind.i64 0, Value.int IntKind.i64 0, Value.int IntKind.i64 0, Value.int IntKind.i64 0, Value.int IntKind.i64 0, Value.int IntKind.i64 0, Value.int IntKind.i64 0, Value.int IntKind.i64 0, Value.int IntKind.i64 0, Value.string { data := #[] }, Value.string { data := #[] }, Value.string { data := #[] }, Value.int IntKind.i64 0, Value.int IntKind.i64 0, Value.int IntKind.i64 0] (R.length - a)).toList, u.oneCell' = true := by
      generalize hZ : (#[Value.int IntKind.i64 0, Value.int IntKind.i64 0, Value.int IntKind.i64 0, Value.int IntKind.i64 0, Value.int IntKind.i64 0, Value.int IntKind.i64 0, Value.int IntKind.i64 0, Value.int IntKind.i64 0, Value.int IntKind.i64 0, Value.int IntKind.i64 0, Value.int IntKind.i64 0, Value.int IntKind.i64 0, Value.int IntKind.i64 0, Value.int IntKind.i64 0, Value.int IntKind.i64 0, Value.int IntKind.i64 0, Value.int IntKind.i64 0, Value.int IntKind.i64 0, Value.int IntKind.i64 0, Value.int IntKind.i64 0, Value.int IntKind.i64 0, Value.int IntKind.i64 0, Value.string { data := #[] }, Value.string { data := #[] }, Value.string { data := #[] }, Value.int IntKind.i64 0, Value.int IntKind.i64 0, Value.int IntKind.i64 0] : Array Value) = Z0 at hzs hzo
      intro u hu
      simp only [Builtin.zeroCells, Array.toList_map, List.mem_map] at hu
      obtain ⟨j, -, rfl⟩ := hu
      have hlt : j % Z0.size < Z0.size := Nat.mod_lt _ (by omega)
      rw [getElem!_pos Z0 _ hlt]
      exact hzo _ (Array.getElem_mem hlt)
    obtain ⟨Z, hZ⟩ : ∃ Z, (Builtin.zeroCells #[Value.int IntKind.i64 0, Value.int IntKind.i64 0, Value.int IntKind.i64 0, Value.int IntKind.i64 0, Value.int IntKind.i64 0, Value.int IntKind.i64 0, Value.int IntKind.i64 0, Value.int IntKind.i64 0, Value.int IntKind.i64 0, Value.int IntKind.i64 0, Value.int IntKind.i64 0, Value.int IntKind.i64 0, Value.int IntKind.i64 0, Value.int IntKind.i64 0, Value.int IntKind.i64 0, Value.int IntKind.i64 0, Value.int IntKind.i64 0, Value.int IntKind.i64 0, Value.int IntKind.i64 0, Value.int IntKind.i64 0, Value.int IntKind.i64 0, Value.int IntKind.i64 0, Value.string { data := #[] }, Value.string { data := #[] }, Value.string { data := #[] }, Value.int IntKind.i64 0, Value.int IntKind.i64 0, Value.int IntKind.i64 0] (R.length - a)).toList = Z := ⟨_, rfl⟩
    rw [hZ] at hzl hone
    have hst := run_storeCells_at Try.prog g (a * 28) 74 Z 0 cur w hg (by rw [hzl, hcs]; omega) hone
    rw [Nat.add_zero] at hst
    refine ⟨w.setRow g (cur.toList.take (a * 28) ++ Z ++ cur.toList.drop (a * 28 + Z.length)).toArray, fun ty => ?_, ⟨by rw [xs_length], .inr ⟨g, cap, _, by rw [List.length_take, Nat.min_eq_left (by omega)], hbg, setRow_heap w g _ _ _ _ hg, by rw [List.length_take]; omega, hc, ?_, ?_⟩⟩, grown_row _ _ _⟩
    · obtain ⟨m, hm⟩ : ∃ m, R.length - a = m + 1 := ⟨R.length - a - 1, by omega⟩
      rw [hm] at hZ ⊢
      simp only [Builtin.clear_, Value.cells]
      simp [hZ]
      rw [hst]
      simp
    · simp [hzl, hcs]; omega
    · rw [List.length_take, Nat.min_eq_left (by omega)]
      have hl : a * 28 ≤ cur.toList.length := by rw [Array.length_toList, hcs]; omega
      rw [List.append_assoc, List.take_append_of_le_length (by rw [List.length_take]; omega), List.take_take]
      have e1 : xs (R.take a) = (xs R).take (a * 28) := by
        have := xs_append (R.take a) (R.drop a)
        rw [List.take_append_drop] at this
        have hL : (xs (R.take a)).length = a * 28 := by rw [xs_length, List.length_take, Nat.min_eq_left (by omega)]
        rw [this, ← hL, List.take_left]
      rw [e1, ← htk, List.take_take]
      congr 1
      omega
end Go.Proofs.Ythpkpmcccpfabaa.E
