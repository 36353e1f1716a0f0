/-
  What slices.IndexFunc and slices.DeleteFunc of events come to over Trim's function.
-/
import Derived.Test.YteanpepmncgagabPfo
import Derived.Laws.CopyRow
import Derived.Shelf.GgSortFunc.RowK
namespace Go.Proofs.Yteanpepmncgagab
set_option maxRecDepth 100000
set_option maxRecDepth 100000
open Go.RowKit Go.Sort

theorem cells_other (g : Nat) : ∀ (vs : List Value) (o : Nat) (w : World) (k : Nat), k ≠ g → (w.setCells g o vs).heap[k]? = w.heap[k]?
  | [], _, _, _, _ => rfl
  | v :: vs, o, w, k, hk => (cells_other g vs (o + 1) (w.setCell ⟨g, o, none⟩ v) k hk).trans (Below.heap_setCell w ⟨g, o, none⟩ v k hk)
theorem cells_same (g : Nat) : ∀ (vs : List Value) (o : Nat) (w : World), (w.setCells g o vs).os = w.os ∧ (w.setCells g o vs).tape = w.tape ∧ (w.setCells g o vs).output = w.output ∧ (w.setCells g o vs).heap.size = w.heap.size
  | [], _, _ => ⟨rfl, rfl, rfl, rfl⟩
  | v :: vs, o, w => by
    obtain ⟨h1, h2, h3, h4⟩ := cells_same g vs (o + 1) (w.setCell ⟨g, o, none⟩ v)
    exact ⟨h1, h2, h3, by rw [World.setCells, h4, size_setC]⟩
theorem grown_cells (g : Nat) (vs : List Value) (o : Nat) (w : World) : w.grownBy (w.setCells g o vs) (some g) := by
  obtain ⟨h1, h2, h3, h4⟩ := cells_same g vs o w
  exact ⟨h1, h2, h3, Nat.le_of_eq h4.symm, fun k _ hk => cells_other g vs o w k (fun e => hk (by rw [e]))⟩
theorem slice_to (w : World) {ao : Option Addr} {m c k : Nat} (hk : k ≤ c) : (Instr.slice 22 (.slice ao m c) none (some (.int .i64 (k : Int))) none).run Try.prog w = .ok (.slice ao k c) w := by
  have h2 : (k : Int) ≤ (c : Int) := by omega
  have hs : (Try.prog.info? 33).map (·.size) = some 26 := by kernel_rfl
  cases ao with
  | none => go_simp
  | some ad => go_simp
def dropA (ao : Option Addr) (c k : Nat) : Option Addr := if c = k then ao else ao.map (·.add (k * 26))
theorem slice_from (w : World) {ao : Option Addr} {m c k : Nat} (hk : k ≤ m) : (Instr.sliceAt 22 (.slice ao m c) (some (.int .i64 (k : Int))) none none).run Try.prog w = .ok (.slice (dropA ao c k) (m - k) (c - k)) w := by
  have h2 : (k : Int) ≤ (m : Int) := by omega
  have hs : (sizeOf 33).run Try.prog w = .ok 26 w := Try.sizeOf33 w
  have ht : Try.prog.underlying 22 = some (.slice 33) := Try.underlying22
  have he : Try.prog.elem 22 = 33 := by kernel_rfl
  rw [run_sliceAt_slice w 22 _ _ _ _ (by rw [he]; exact ht), run_slice_l w 22 ao m c (by rw [he]; exact ht) .i64 (k : Int) (by omega) h2, he, hs, Result.andThen_ok]
  unfold sliced dropA
  simp
theorem slice_at (w : World) {ao : Option Addr} {m c k : Nat} (hk : k ≤ c) : (Instr.sliceAt 22 (.slice ao m c) none (some (.int .i64 (k : Int))) none).run Try.prog w = .ok (.slice ao k c) w := by
  have hs := slice_to w (ao := ao) (m := m) hk
  have ht : Try.prog.underlying 22 = some (.slice 33) := Try.underlying22
  simp only [Instr.sliceAt, Sem.run_bind, run_underlying ht, Result.andThen_ok]
  exact hs
/-! A row that is stored into. -/
theorem heap_setCells_same {g : Nat} {t : TypeId} : ∀ (vs : List Value) (o : Nat) (w : World) (cur : Array Value), w.heap[g]? = some (.cells cur t (0, 0)) → (w.setCells g o vs).heap[g]? = some (.cells (setMany cur o vs) t (0, 0))
  | [], _, _, _, h => h
  | v :: vs, o, w, cur, h => heap_setCells_same vs (o + 1) (w.setCell ⟨g, o, none⟩ v) (cur.setIfInBounds o v) (heap_setCell_same w g o cur t v h)
theorem get_take {cur : Array Value} {N : Nat} {L : List Value} (h : cur.toList.take N = L) {t : Nat} (ht : t < N) : cur[t]? = L[t]? := by
  rw [← h, List.getElem?_take_of_lt ht, Array.getElem?_toList]
theorem take_many {cur : Array Value} {n i : Nat} {R : List Ev} {u : Ev} (hR : ∀ e ∈ R, Wide e) (hn : R.length = n) (hc : n * 26 ≤ cur.size) (h : cur.toList.take (n * 26) = evs R) (hu : Wide u) : (setMany cur (i * 26) (evl u)).toList.take (n * 26) = evs (R.set i u) := by
  have hul := evl_length u hu.1
  have hw2 : ∀ e ∈ R.set i u, Wide e := fun e he => (List.mem_or_eq_of_mem_set he).elim (hR e) (fun e1 => e1 ▸ hu)
  have hl2 : (evs (R.set i u)).length = n * 26 := by rw [evs_length hw2, List.length_set, hn]
  apply List.ext_getElem?
  intro t
  by_cases ht : t < n * 26
  · have htc : t < (setMany cur (i * 26) (evl u)).size := by rw [size_setMany]; omega
    rw [List.getElem?_take_of_lt ht, Array.getElem?_toList, Array.getElem?_eq_getElem htc]
    have hg := get_setMany (evl u) (i * 26) cur t (by omega)
    rw [getElem!_pos _ t htc, hul] at hg
    rw [hg]
    have hj : t / 26 < n := by omega
    have hr : t % 26 < 26 := Nat.mod_lt _ (by omega)
    by_cases hb : i * 26 ≤ t ∧ t < i * 26 + 26
    · rw [if_pos hb]
      have hji : t / 26 = i := by omega
      have he : (R.set i u)[t / 26]? = some u := by rw [hji, List.getElem?_set_self (by omega)]
      have hv : (evl u)[t % 26]? = some (evl u)[t - i * 26]! := by
        rw [show t - i * 26 = t % 26 by omega, List.getElem?_eq_getElem (by omega), getElem!_pos _ _ (by omega)]
      have := evs_at hw2 (t / 26) u he (t % 26) _ hv
      rw [show t / 26 * 26 + t % 26 = t by omega] at this
      exact this.symm
    · rw [if_neg hb]
      have hji : i ≠ t / 26 := by omega
      have htc' : t < cur.size := by omega
      have h1 := get_take h ht
      rw [Array.getElem?_eq_getElem htc'] at h1
      rw [getElem!_pos cur t htc', h1]
      obtain ⟨e, he⟩ : ∃ e, R[t / 26]? = some e := ⟨_, List.getElem?_eq_getElem (by omega)⟩
      have hel := evl_length e (hR e (List.mem_of_getElem? he)).1
      obtain ⟨v, hv⟩ : ∃ v, (evl e)[t % 26]? = some v := ⟨_, List.getElem?_eq_getElem (by omega)⟩
      have a1 := evs_at hR (t / 26) e he (t % 26) v hv
      have a2 := evs_at hw2 (t / 26) e (by rw [List.getElem?_set_ne hji]; exact he) (t % 26) v hv
      rw [show t / 26 * 26 + t % 26 = t by omega] at a1 a2
      rw [a1, a2]
  · rw [List.getElem?_eq_none (by rw [List.length_take, Array.length_toList]; omega), List.getElem?_eq_none (by omega)]
theorem row_put {w : World} {base g n cap i : Nat} {R : List Ev} {u : Ev} (h : Row w base (.slice (some ⟨g, 0, none⟩) n cap) R) (hn : R.length = n) (hR : ∀ e ∈ R, Wide e) (hu : Wide u) : Row (w.setCells g (i * 26) (evl u)) base (.slice (some ⟨g, 0, none⟩) n cap) (R.set i u) := by
  rcases h.2 with ⟨hh, -⟩ | ⟨g', cap', cur, hv, hbg, hg, hnc, hcm, hcs, htk⟩
  · cases hh
  · simp only [Value.slice.injEq, Option.some.injEq, Addr.mk.injEq, and_true] at hv
    obtain ⟨rfl, h1, rfl⟩ := hv
    have hl : (R.set i u).length = R.length := List.length_set
    refine ⟨?_, .inr ⟨g, cap, setMany cur (i * 26) (evl u), by rw [hl, hn], hbg, heap_setCells_same _ _ _ _ hg, by omega, hcm, by rw [size_setMany, hcs], ?_⟩⟩
    · rw [evs_length (fun e he => (List.mem_or_eq_of_mem_set he).elim (hR e) (fun e1 => e1 ▸ hu)), hl]
    · rw [hl, hn]
      rw [hn] at htk
      exact take_many hR hn (by omega) htk hu
/-- What stands behind may turn. -/
theorem row_cut {w : World} {base g n cap i : Nat} {R : List Ev} {vs : List Value} (h : Row w base (.slice (some ⟨g, 0, none⟩) n cap) R) (hn : R.length = n) (hR : ∀ e ∈ R, Wide e) (hi : i ≤ n) : Row (w.setCells g (i * 26) vs) base (.slice (some ⟨g, 0, none⟩) i cap) (R.take i) := by
  rcases h.2 with ⟨hh, -⟩ | ⟨g', cap', cur, hv, hbg, hg, hnc, hcm, hcs, htk⟩
  · cases hh
  · simp only [Value.slice.injEq, Option.some.injEq, Addr.mk.injEq, and_true] at hv
    obtain ⟨rfl, h1, rfl⟩ := hv
    have hl : (R.take i).length = i := by rw [List.length_take]; omega
    have hwt : ∀ e ∈ R.take i, Wide e := fun e he => hR e (List.mem_of_mem_take he)
    have hlt : (evs (R.take i)).length = i * 26 := by rw [evs_length hwt, hl]
    refine ⟨by rw [hlt, hl], .inr ⟨g, cap, setMany cur (i * 26) vs, by rw [hl], hbg, heap_setCells_same _ _ _ _ hg, by omega, hcm, by rw [size_setMany, hcs], ?_⟩⟩
    rw [hl]
    apply List.ext_getElem?
    intro t
    by_cases ht : t < i * 26
    · have htc : t < cur.size := by omega
      have htm : t < (setMany cur (i * 26) vs).size := by rw [size_setMany]; exact htc
      rw [List.getElem?_take_of_lt ht, Array.getElem?_toList, Array.getElem?_eq_getElem htm]
      have hgm := get_setMany vs (i * 26) cur t htc
      rw [getElem!_pos _ t htm, if_neg (by omega), getElem!_pos cur t htc] at hgm
      rw [hgm]
      rw [hn] at htk
      have h1 := get_take htk (show t < n * 26 by omega)
      rw [Array.getElem?_eq_getElem htc] at h1
      rw [h1]
      have e1 : evs R = evs (R.take i) ++ evs (R.drop i) := by rw [← evs_append, List.take_append_drop]
      rw [e1, List.getElem?_append_left (by omega)]
    · rw [List.getElem?_eq_none (by rw [List.length_take, Array.length_toList]; omega), List.getElem?_eq_none (by omega)]

def bad (x : List Int) (u : Ev) : Bool := hasv x u.r u.n
/-- On the way: what is kept lies ahead, the rest as it was. -/
structure Cmpd (x : List Int) (L R : List Ev) (i j : Nat) : Prop where
  len : R.length = L.length
  front : R.take i = (L.take j).filter (fun u => !bad x u)
  back : ∀ q, j ≤ q → R[q]? = L[q]?
  le : i < j
theorem Cmpd.start {x : List Int} {L : List Ev} {i : Nat} {u : Ev} (h1 : ∀ u ∈ L.take i, bad x u = false) (h2 : L[i]? = some u) (h3 : bad x u = true) : Cmpd x L L i (i + 1) := by
  refine ⟨rfl, ?_, fun _ _ => rfl, by omega⟩
  rw [take_snoc h2, List.filter_append, List.filter_cons, h3, List.filter_nil]
  simp only [Bool.not_true, Bool.false_eq_true, if_false, List.append_nil]
  exact (List.filter_eq_self.2 (fun v hv => by rw [h1 v hv]; rfl)).symm
theorem Cmpd.drop {x : List Int} {L R : List Ev} {i j : Nat} {u : Ev} (h : Cmpd x L R i j) (hu : L[j]? = some u) (hb : bad x u = true) : Cmpd x L R i (j + 1) := by
  have hle := h.le
  refine ⟨h.len, ?_, fun q hq => h.back q (by omega), by omega⟩
  rw [take_snoc hu, List.filter_append, List.filter_cons, hb, List.filter_nil]
  simp only [Bool.not_true, Bool.false_eq_true, if_false, List.append_nil]
  exact h.front
theorem Cmpd.keep {x : List Int} {L R : List Ev} {i j : Nat} {u : Ev} (h : Cmpd x L R i j) (hj : j < L.length) (hu : L[j]? = some u) (hb : bad x u = false) : Cmpd x L (R.set i u) (i + 1) (j + 1) := by
  have hl := h.len
  have hle := h.le
  refine ⟨by rw [List.length_set]; exact h.len, ?_, fun q hq => ?_, by omega⟩
  · have hi : (R.set i u)[i]? = some u := List.getElem?_set_self (by omega)
    rw [take_snoc hi, take_snoc hu, List.filter_append, List.filter_cons, hb, List.filter_nil, ← h.front]
    simp only [Bool.not_false, if_true]
    congr 1
    rw [List.take_set_of_le (Nat.le_refl _)]
  · rw [List.getElem?_set_ne (by omega)]
    exact h.back q (by omega)
theorem Cmpd.all {x : List Int} {L R : List Ev} {i j : Nat} (h : Cmpd x L R i j) (hj : L.length ≤ j) : R.take i = L.filter (fun u => !bad x u) := by
  rw [h.front, List.take_of_length_le hj]
theorem Cmpd.wide {x : List Int} {L R : List Ev} {i j : Nat} {u : Ev} (_h : Cmpd x L R i j) (hR : ∀ e ∈ R, Wide e) (hu : Wide u) : ∀ e ∈ R.set i u, Wide e := fun e he => (List.mem_or_eq_of_mem_set he).elim (hR e) (fun e1 => e1 ▸ hu)
theorem store_ev_at {ops : Array Oper} {rest : List Oper} {o : Oper} {a : Act} {w : World} {Q : Exit → Act → World → Prop} {x y : Operand} {g k : Nat} {e : Ev} (hl : e.deps.length = 16) (hgd : o.guard = none) (ho : o.op = .store 33 x y)
    (hx : a.eval x = .pointer (some ⟨g, k, none⟩)) (hy : a.eval y = .agg (evc e)) (hg : w.there g k 26)
    (h : wpList Try.prog ops Q rest (a.put o.dst undef) (w.setCells g k (evl e))) : wpList Try.prog ops Q (o :: rest) a w :=
  wpList_store_mid hgd 33 x y ho g k (evc e) hx hy (by rw [evc_size e hl]; exact hg) (size26 e hl) (evc_one e) h
theorem row_there {w : World} {base g n cap i : Nat} {R : List Ev} (h : Row w base (.slice (some ⟨g, 0, none⟩) n cap) R) (hn : R.length = n) (hi : i < n) : w.there g (i * 26) 26 := by
  rcases h.2 with ⟨hh, -⟩ | ⟨g', cap', cur, hv, hbg, hg, hnc, hcm, hcs, htk⟩
  · cases hh
  · simp only [Value.slice.injEq, Option.some.injEq, Addr.mk.injEq, and_true] at hv
    obtain ⟨rfl, h1, rfl⟩ := hv
    intro j hj
    have hlt : i * 26 + j < cur.size := by omega
    refine ⟨?_, frozen_of_row w g _ _ _ hg⟩
    rw [cell_of_row w g _ _ _ _ hg, Array.getElem?_eq_getElem hlt]
    rfl
theorem zero_one (k : Nat) : ∀ v ∈ (Builtin.zeroCells (evc zv) k).toList, v.oneCell' = true := by
  intro v hv
  have h1 := evc_one zv
  rw [Array.all_eq_true_iff_forall_mem] at h1
  simp only [Builtin.zeroCells, Array.toList_map, List.mem_map] at hv
  obtain ⟨t, -, rfl⟩ := hv
  have ht : t % (evc zv).size < (evc zv).size := Nat.mod_lt _ (by decide)
  rw [getElem!_pos (evc zv) _ ht]
  exact h1 _ (Array.getElem_mem ht)
theorem clear_any {w : World} {base g n cap i : Nat} {R : List Ev} (h : Row w base (.slice (some ⟨g, 0, none⟩) n cap) R) (hn : R.length = n) (hi : i < n) (ty : TypeId) :
    (Builtin.clear_ #[22] ty #[.slice (some ⟨g, i * 26, none⟩) (n - i) (cap - i)]).run Try.prog w = .ok (.tuple #[]) (w.setCells g (i * 26) (Builtin.zeroCells (evc zv) (n - i)).toList) := by
  have ht : Try.prog.underlying 22 = some (.slice 33) := Try.underlying22
  have hz : ∀ w, (zeroValue 33).run Try.prog w = .ok (.agg (evc zv)) w := Try.zeroValue33
  have hlen : (Builtin.zeroCells (evc zv) (n - i)).toList.length = (n - i) * 26 := by simp [Builtin.zeroCells, evc_size zv rfl]
  rcases h.2 with ⟨hh, -⟩ | ⟨g', cap', cur, hv, hbg, hg, hnc, hcm, hcs, htk⟩
  · cases hh
  · simp only [Value.slice.injEq, Option.some.injEq, Addr.mk.injEq, and_true] at hv
    obtain ⟨rfl, h1, rfl⟩ := hv
    have hst := run_storeCells_cells (P := Try.prog) g (i * 26) (Builtin.zeroCells (evc zv) (n - i)).toList 0 w (fun j hj => by
      rw [hlen] at hj
      have hlt : i * 26 + j < cur.size := by
        have : n * 26 ≤ cur.size := by omega
        omega
      rw [Nat.add_zero, cell_of_row w g _ _ _ _ hg, Array.getElem?_eq_getElem hlt]
      rfl) (fun j _ => frozen_of_row w g _ _ _ hg) (zero_one _)
    simp only [Nat.add_zero] at hst
    obtain ⟨q, hq⟩ : ∃ q, n - i = q + 1 := ⟨n - i - 1, by omega⟩
    rw [hq] at hst ⊢
    simp [Builtin.clear_, run_underlying ht, hz, Value.cells, hst]
theorem below_put {B b : Nat} {a : World} (hb : B ≤ b) : ∀ (vs : List Value) (o : Nat) (w : World), Below B a w → Below B a (w.setCells b o vs)
  | [], _, _, h => h
  | v :: r, o, _, h => below_put hb r (o + 1) _ (h.setCell (p := ⟨b, o, none⟩) hb v)
theorem slice_own (w : World) {g n cap i : Nat} (hi : i < n) (hn : n ≤ cap) : (Instr.sliceAt 22 (.slice (some ⟨g, 0, none⟩) n cap) (some (.int .i64 (i : Int))) none none).run Try.prog w = .ok (.slice (some ⟨g, i * 26, none⟩) (n - i) (cap - i)) w := by
  rw [slice_from w (by omega), dropA, if_neg (by omega)]
  show Result.ok (Value.slice (some (Addr.add ⟨g, 0, none⟩ (i * 26))) (n - i) (cap - i)) w = _
  rw [Addr.add_mid, Nat.zero_add]
theorem row_head {w : World} {base : Nat} {v : Value} {L : List Ev} (h : Row w base v L) : (v = .slice none 0 0 ∧ L = []) ∨ ∃ g cap, v = .slice (some ⟨g, 0, none⟩) L.length cap ∧ base ≤ g ∧ g < w.heap.size ∧ L.length ≤ cap ∧ v.ownBlock = some g := by
  rcases h.2 with ⟨rfl, h0⟩ | ⟨g, cap, cur, rfl, hb, hg, hnc, hcm, hcs, htake⟩
  · exact .inl ⟨rfl, List.eq_nil_of_length_eq_zero h0⟩
  · exact .inr ⟨g, cap, rfl, hb, (Array.getElem?_eq_some_iff.1 hg).1, hnc, rfl⟩
end Go.Proofs.Yteanpepmncgagab
