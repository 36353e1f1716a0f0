/-
  What slices.IndexFunc and slices.DeleteFunc of events come to over Trim's function.
-/
import Derived.Test.YteanpepmncgagaaPfo
import Derived.Laws.CopyRow
import Derived.Shelf.GgSortFunc.RowK
namespace Go.Proofs.Yteanpepmncgagaa
set_option maxRecDepth 100000
set_option maxRecDepth 100000
open Go.RowKit Go.Sort

theorem cells_other (g : Nat) : ∀ (vs : List Value) (o : Nat) (w : World) (k : Nat), k ≠ g → (w.setCells g o vs).heap[k]? = w.heap[k]?
  | [], _, _, _, _ => rfl
  | v :: vs, o, w, k, hk => (cells_other g vs (o + 1) (w.setCell ⟨g, o, none⟩ v) k hk).trans (Below.heap_setCell w ⟨g, o, none⟩ v k hk)
theorem cells_same (g : Nat) : ∀ (vs : List Value) (o : Nat) (w : World), (w.setCells g o vs).os = w.os ∧ (w.setCells g o vs).tape = w.tape ∧ (w.setCells g o vs).output = w.output ∧ (w.setCells g o vs).heap.size = w.heap.size
  | [], _, _ => ⟨rfl, rfl, rfl, rfl⟩
  | v :: vs, o, w => by
    obtain ⟨h1, h2, h3, h4⟩ := cells_same g vs (o + 1) (w.setCell ⟨g, o, none⟩ v)
    exact ⟨h1, h2, h3, by rw [World.setCells, h4, size_setC]⟩
theorem grown_cells (g : Nat) (vs : List Value) (o : Nat) (w : World) : w.grownBy (w.setCells g o vs) (some g) := by
  obtain ⟨h1, h2, h3, h4⟩ := cells_same g vs o w
  exact ⟨h1, h2, h3, Nat.le_of_eq h4.symm, fun k _ hk => cells_other g vs o w k (fun e => hk (by rw [e]))⟩
theorem slice_to (w : World) {ao : Option Addr} {m c k : Nat} (hk : k ≤ c) : (Instr.slice 27 (.slice ao m c) none (some (.int .i64 (k : Int))) none).run Try.prog w = .ok (.slice ao k c) w := by
  have h2 : (k : Int) ≤ (c : Int) := by omega
  have hs : (Try.prog.info? 39).map (·.size) = some 26 := by kernel_rfl
  cases ao with
  | none => go_simp
  | some ad => go_simp
def dropA (ao : Option Addr) (c k : Nat) : Option Addr := if c = k then ao else ao.map (·.add (k * 26))
theorem slice_from (w : World) {ao : Option Addr} {m c k : Nat} (hk : k ≤ m) : (Instr.sliceAt 27 (.slice ao m c) (some (.int .i64 (k : Int))) none none).run Try.prog w = .ok (.slice (dropA ao c k) (m - k) (c - k)) w := by
  have h2 : (k : Int) ≤ (m : Int) := by omega
  have hs : (sizeOf 39).run Try.prog w = .ok 26 w := Try.sizeOf39 w
  have ht : Try.prog.underlying 27 = some (.slice 39) := Try.underlying27
  have he : Try.prog.elem 27 = 39 := by kernel_rfl
  rw [run_sliceAt_slice w 27 _ _ _ _ (by rw [he]; exact ht), run_slice_l w 27 ao m c (by rw [he]; exact ht) .i64 (k : Int) (by omega) h2, he, hs, Result.andThen_ok]
  unfold sliced dropA
  simp
theorem slice_at (w : World) {ao : Option Addr} {m c k : Nat} (hk : k ≤ c) : (Instr.sliceAt 27 (.slice ao m c) none (some (.int .i64 (k : Int))) none).run Try.prog w = .ok (.slice ao k c) w := by
  have hs := slice_to w (ao := ao) (m := m) hk
  have ht : Try.prog.underlying 27 = some (.slice 39) := Try.underlying27
  simp only [Instr.sliceAt, Sem.run_bind, run_underlying ht, Result.andThen_ok]
  exact hs
theorem ptrimf_any (u : Ev) (_hl : u.deps.length = 16) (k : Nat) (x : List Int) (hx : x.length = 16) (w0 : World) (hc0 : Lies w0 k x) :
    Calls Try.prog 34 #[.agg (evc u), .pointer (some ⟨k, 0, none⟩)] w0 fun e w' => e = .returned (.bool (hasv x u.r u.n)) ∧ Below w0.heap.size w0 w' := by
  obtain ⟨w, hw⟩ : ∃ w : World, w = w0 := ⟨_, rfl⟩
  subst hw
  have hE := liesE_new w u
  have hV := hc0.alloc (.cells (evc u) 39)
  have HB : Hid (Below w.heap.size w (w.alloc (.cells (evc u) 39))) := (Below.refl _ w).alloc (Nat.le_refl _) _
  have hH := has_any x u.r u.n hx (w.alloc (.cells (evc u) 39))
  have hlv := load_v hV hx
  have hld := hE.dotAt
  clear hc0 hV hE
  go_enter Try.func34, Try.ntmps34
  go_wp2_with (first
    | (refine wpList_loadR (ty := 35) (x := .tmp 1) (ad := ⟨k, 0, none⟩) (v := .agg (vals x)) rfl rfl rfl hlv ?_)
    | (refine wpList_loadR (ty := 33) (x := .tmp 5) (ad := ⟨w.heap.size, 0, none⟩) (v := .agg (dotc u.r u.n)) rfl rfl rfl hld ?_))
  refine Calls.mono hH ?_
  rintro ex w2 ⟨rfl, hb2⟩
  have HB2 : Hid (Below w.heap.size w w2) := HB.out.trans (hb2.mono HB.out.size)
  clear hlv hld hb2 hH HB
  go_wp2
  go_ret
  exact ⟨rfl, HB2.out⟩

/-! A row that is stored into. -/
theorem heap_setCells_same {g : Nat} {t : TypeId} : ∀ (vs : List Value) (o : Nat) (w : World) (cur : Array Value), w.heap[g]? = some (.cells cur t (0, 0)) → (w.setCells g o vs).heap[g]? = some (.cells (setMany cur o vs) t (0, 0))
  | [], _, _, _, h => h
  | v :: vs, o, w, cur, h => heap_setCells_same vs (o + 1) (w.setCell ⟨g, o, none⟩ v) (cur.setIfInBounds o v) (heap_setCell_same w g o cur t v h)
theorem get_take {cur : Array Value} {N : Nat} {L : List Value} (h : cur.toList.take N = L) {t : Nat} (ht : t < N) : cur[t]? = L[t]? := by
  rw [← h, List.getElem?_take_of_lt ht, Array.getElem?_toList]
theorem take_many {cur : Array Value} {n i : Nat} {R : List Ev} {u : Ev} (hR : ∀ e ∈ R, Wide e) (hn : R.length = n) (hc : n * 26 ≤ cur.size) (h : cur.toList.take (n * 26) = evs R) (hu : Wide u) : (setMany cur (i * 26) (evl u)).toList.take (n * 26) = evs (R.set i u) := by
  have hul := evl_length u hu.1
  have hw2 : ∀ e ∈ R.set i u, Wide e := fun e he => (List.mem_or_eq_of_mem_set he).elim (hR e) (fun e1 => e1 ▸ hu)
  have hl2 : (evs (R.set i u)).length = n * 26 := by rw [evs_length hw2, List.length_set, hn]
  apply List.ext_getElem?
  intro t
  by_cases ht : t < n * 26
  · have htc : t < (setMany cur (i * 26) (evl u)).size := by rw [size_setMany]; omega
    rw [List.getElem?_take_of_lt ht, Array.getElem?_toList, Array.getElem?_eq_getElem htc]
    have hg := get_setMany (evl u) (i * 26) cur t (by omega)
    rw [getElem!_pos _ t htc, hul] at hg
    rw [hg]
    have hj : t / 26 < n := by omega
    have hr : t % 26 < 26 := Nat.mod_lt _ (by omega)
    by_cases hb : i * 26 ≤ t ∧ t < i * 26 + 26
    · rw [if_pos hb]
      have hji : t / 26 = i := by omega
      have he : (R.set i u)[t / 26]? = some u := by rw [hji, List.getElem?_set_self (by omega)]
      have hv : (evl u)[t % 26]? = some (evl u)[t - i * 26]! := by
        rw [show t - i * 26 = t % 26 by omega, List.getElem?_eq_getElem (by omega), getElem!_pos _ _ (by omega)]
      have := evs_at hw2 (t / 26) u he (t % 26) _ hv
      rw [show t / 26 * 26 + t % 26 = t by omega] at this
      exact this.symm
    · rw [if_neg hb]
      have hji : i ≠ t / 26 := by omega
      have htc' : t < cur.size := by omega
      have h1 := get_take h ht
      rw [Array.getElem?_eq_getElem htc'] at h1
      rw [getElem!_pos cur t htc', h1]
      obtain ⟨e, he⟩ : ∃ e, R[t / 26]? = some e := ⟨_, List.getElem?_eq_getElem (by omega)⟩
      have hel := evl_length e (hR e (List.mem_of_getElem? he)).1
      obtain ⟨v, hv⟩ : ∃ v, (evl e)[t % 26]? = some v := ⟨_, List.getElem?_eq_getElem (by omega)⟩
      have a1 := evs_at hR (t / 26) e he (t % 26) v hv
      have a2 := evs_at hw2 (t / 26) e (by rw [List.getElem?_set_ne hji]; exact he) (t % 26) v hv
      rw [show t / 26 * 26 + t % 26 = t by omega] at a1 a2
      rw [a1, a2]
  · rw [List.getElem?_eq_none (by rw [List.length_take, Array.length_toList]; omega), List.getElem?_eq_none (by omega)]
theorem row_put {w : World} {base g n cap i : Nat} {R : List Ev} {u : Ev} (h : Row w base (.slice (some ⟨g, 0, none⟩) n cap) R) (hn : R.length = n) (hR : ∀ e ∈ R, Wide e) (hu : Wide u) : Row (w.setCells g (i * 26) (evl u)) base (.slice (some ⟨g, 0, none⟩) n cap) (R.set i u) := by
  rcases h.2 with ⟨hh, -⟩ | ⟨g', cap', cur, hv, hbg, hg, hnc, hcm, hcs, htk⟩
  · cases hh
  · simp only [Value.slice.injEq, Option.some.injEq, Addr.mk.injEq, and_true] at hv
    obtain ⟨rfl, h1, rfl⟩ := hv
    have hl : (R.set i u).length = R.length := List.length_set
    refine ⟨?_, .inr ⟨g, cap, setMany cur (i * 26) (evl u), by rw [hl, hn], hbg, heap_setCells_same _ _ _ _ hg, by omega, hcm, by rw [size_setMany, hcs], ?_⟩⟩
    · rw [evs_length (fun e he => (List.mem_or_eq_of_mem_set he).elim (hR e) (fun e1 => e1 ▸ hu)), hl]
    · rw [hl, hn]
      rw [hn] at htk
      exact take_many hR hn (by omega) htk hu
/-- What stands behind may turn. -/
theorem row_cut {w : World} {base g n cap i : Nat} {R : List Ev} {vs : List Value} (h : Row w base (.slice (some ⟨g, 0, none⟩) n cap) R) (hn : R.length = n) (hR : ∀ e ∈ R, Wide e) (hi : i ≤ n) : Row (w.setCells g (i * 26) vs) base (.slice (some ⟨g, 0, none⟩) i cap) (R.take i) := by
  rcases h.2 with ⟨hh, -⟩ | ⟨g', cap', cur, hv, hbg, hg, hnc, hcm, hcs, htk⟩
  · cases hh
  · simp only [Value.slice.injEq, Option.some.injEq, Addr.mk.injEq, and_true] at hv
    obtain ⟨rfl, h1, rfl⟩ := hv
    have hl : (R.take i).length = i := by rw [List.length_take]; omega
    have hwt : ∀ e ∈ R.take i, Wide e := fun e he => hR e (List.mem_of_mem_take he)
    have hlt : (evs (R.take i)).length = i * 26 := by rw [evs_length hwt, hl]
    refine ⟨by rw [hlt, hl], .inr ⟨g, cap, setMany cur (i * 26) vs, by rw [hl], hbg, heap_setCells_same _ _ _ _ hg, by omega, hcm, by rw [size_setMany, hcs], ?_⟩⟩
    rw [hl]
    apply List.ext_getElem?
    intro t
    by_cases ht : t < i * 26
    · have htc : t < cur.size := by omega
      have htm : t < (setMany cur (i * 26) vs).size := by rw [size_setMany]; exact htc
      rw [List.getElem?_take_of_lt ht, Array.getElem?_toList, Array.getElem?_eq_getElem htm]
      have hgm := get_setMany vs (i * 26) cur t htc
      rw [getElem!_pos _ t htm, if_neg (by omega), getElem!_pos cur t htc] at hgm
      rw [hgm]
      rw [hn] at htk
      have h1 := get_take htk (show t < n * 26 by omega)
      rw [Array.getElem?_eq_getElem htc] at h1
      rw [h1]
      have e1 : evs R = evs (R.take i) ++ evs (R.drop i) := by rw [← evs_append, List.take_append_drop]
      rw [e1, List.getElem?_append_left (by omega)]
    · rw [List.getElem?_eq_none (by rw [List.length_take, Array.length_toList]; omega), List.getElem?_eq_none (by omega)]

def bad (x : List Int) (u : Ev) : Bool := hasv x u.r u.n
set_option maxHeartbeats 1000000 in
theorem pidx_any (ao : Option Addr) (m c : Nat) (R : List Ev) (k : Nat) (x : List Int) (w : World) (hE : Evs w ao m c R) (hc : Lies w k x) (hx : x.length = 16) (hm : m ≤ 1000) :
    Calls Try.prog 41 #[.slice ao m c, .func (.func 34) #[] #[.pointer (some ⟨k, 0, none⟩)]] w fun e w' => ∃ i : Int, e = .returned (.int .i64 i) ∧ Aside ((i = -1 ∧ ∀ u ∈ R, bad x u = false) ∨ ∃ j : Nat, j < m ∧ i = (j : Int) ∧ (∀ u ∈ R.take j, bad x u = false) ∧ ∃ u, R[j]? = some u ∧ bad x u = true) ∧ Below w.heap.size w w' := by
  have hlen := hE.len
  have HE : Aside (Evs w ao m c R) := hE
  have HC : Hid (Lies w k x) := hc
  have HX : Hid (x.length = 16) := hx
  clear hE hc
  go_enter Try.func41, Try.ntmps41
  go_wp2
  go_loopg [8] m (fun kx s8 wr => ∃ i : Nat, s8 = .int .i64 i ∧ i ≤ m ∧ m - i ≤ kx ∧ Aside ((∀ u ∈ R.take i, bad x u = false) ∧ Below w.heap.size w wr))
  case atStart => exact ⟨0, rfl, Nat.zero_le _, by omega, ⟨by simp, Below.refl _ _⟩⟩
  case round =>
    obtain ⟨i, rfl, him, hkx, HS⟩ := hrel
    by_cases hlt : i < m
    · have hltz : (i : Int) < (m : Int) := by omega
      obtain ⟨b, o, u, rfl, hui, hu, hr, hbl⟩ := (HE.out.below HS.out.2 (Nat.le_refl _)).at hlt
      have hix := fun W : World => index_ev W (b := b) (off := o) (k := i) (m := m) (c := c) hlt
      have hcr : Lies wr k x := HC.out.below HS.out.2 HC.out.lt
      go_wp2_with (refine load_ev_mid rfl rfl rfl hr hu.1 ?_)
      refine (ptrimf_any u hu.1 k x HX.out wr hcr).mono ?_
      rintro e w1 ⟨rfl, hb1⟩
      have hb1' : Below w.heap.size w w1 := HS.out.2.trans (hb1.mono HS.out.2.size)
      rcases Bool.eq_false_or_eq_true (bad x u) with hp | hp
      · have hp' : hasv x u.r u.n = true := hp
        have HR : Hid (Aside ((((i : Int)) = -1 ∧ ∀ u ∈ R, bad x u = false) ∨ ∃ j : Nat, j < m ∧ (i : Int) = (j : Int) ∧ (∀ u ∈ R.take j, bad x u = false) ∧ ∃ u, R[j]? = some u ∧ bad x u = true) ∧ Below w.heap.size w w1) := ⟨.inr ⟨i, hlt, rfl, HS.out.1, u, hui, hp⟩, hb1'⟩
        rw [hp']
        clear hb1 hb1' HS hcr hr hix hp hp'
        go_wp2
        go_ret
        exact ⟨_, rfl, HR.out⟩
      · have hp' : hasv x u.r u.n = false := hp
        have HS2 : Aside ((∀ u ∈ R.take (i + 1), bad x u = false) ∧ Below w.heap.size w w1) := by
          refine ⟨fun v hv => ?_, hb1'⟩
          rw [take_snoc hui] at hv
          rcases List.mem_append.1 hv with hv | hv
          · exact HS.out.1 v hv
          · rw [List.mem_singleton.1 hv]; exact hp
        rw [hp']
        clear hb1 hb1' HS hcr hr hix hp hp'
        go_wp2
        go_roundg (m - (i + 1))
        case measure => omega
        case rel => exact ⟨i + 1, by go_num, by omega, Nat.le_refl _, HS2⟩
    · obtain rfl : i = m := by omega
      have HR : Hid ((∀ u ∈ R, bad x u = false) ∧ Below w.heap.size w wr) := by
        have := HS.out
        rw [List.take_of_length_le (by omega)] at this
        exact this
      clear HS
      go_wp2
      go_ret
      exact ⟨_, rfl, .inl ⟨rfl, HR.out.1⟩, HR.out.2⟩

/-- On the way: what is kept lies ahead, the rest as it was. -/
structure Cmpd (x : List Int) (L R : List Ev) (i j : Nat) : Prop where
  len : R.length = L.length
  front : R.take i = (L.take j).filter (fun u => !bad x u)
  back : ∀ q, j ≤ q → R[q]? = L[q]?
  le : i < j
theorem Cmpd.start {x : List Int} {L : List Ev} {i : Nat} {u : Ev} (h1 : ∀ u ∈ L.take i, bad x u = false) (h2 : L[i]? = some u) (h3 : bad x u = true) : Cmpd x L L i (i + 1) := by
  refine ⟨rfl, ?_, fun _ _ => rfl, by omega⟩
  rw [take_snoc h2, List.filter_append, List.filter_cons, h3, List.filter_nil]
  simp only [Bool.not_true, Bool.false_eq_true, if_false, List.append_nil]
  exact (List.filter_eq_self.2 (fun v hv => by rw [h1 v hv]; rfl)).symm
theorem Cmpd.drop {x : List Int} {L R : List Ev} {i j : Nat} {u : Ev} (h : Cmpd x L R i j) (hu : L[j]? = some u) (hb : bad x u = true) : Cmpd x L R i (j + 1) := by
  have hle := h.le
  refine ⟨h.len, ?_, fun q hq => h.back q (by omega), by omega⟩
  rw [take_snoc hu, List.filter_append, List.filter_cons, hb, List.filter_nil]
  simp only [Bool.not_true, Bool.false_eq_true, if_false, List.append_nil]
  exact h.front
theorem Cmpd.keep {x : List Int} {L R : List Ev} {i j : Nat} {u : Ev} (h : Cmpd x L R i j) (hj : j < L.length) (hu : L[j]? = some u) (hb : bad x u = false) : Cmpd x L (R.set i u) (i + 1) (j + 1) := by
  have hl := h.len
  have hle := h.le
  refine ⟨by rw [List.length_set]; exact h.len, ?_, fun q hq => ?_, by omega⟩
  · have hi : (R.set i u)[i]? = some u := List.getElem?_set_self (by omega)
    rw [take_snoc hi, take_snoc hu, List.filter_append, List.filter_cons, hb, List.filter_nil, ← h.front]
    simp only [Bool.not_false, if_true]
    congr 1
    rw [List.take_set_of_le (Nat.le_refl _)]
  · rw [List.getElem?_set_ne (by omega)]
    exact h.back q (by omega)
theorem Cmpd.all {x : List Int} {L R : List Ev} {i j : Nat} (h : Cmpd x L R i j) (hj : L.length ≤ j) : R.take i = L.filter (fun u => !bad x u) := by
  rw [h.front, List.take_of_length_le hj]
theorem Cmpd.wide {x : List Int} {L R : List Ev} {i j : Nat} {u : Ev} (_h : Cmpd x L R i j) (hR : ∀ e ∈ R, Wide e) (hu : Wide u) : ∀ e ∈ R.set i u, Wide e := fun e he => (List.mem_or_eq_of_mem_set he).elim (hR e) (fun e1 => e1 ▸ hu)
theorem store_ev_at {ops : Array Oper} {rest : List Oper} {o : Oper} {a : Act} {w : World} {Q : Exit → Act → World → Prop} {x y : Operand} {g k : Nat} {e : Ev} (hl : e.deps.length = 16) (hgd : o.guard = none) (ho : o.op = .store 39 x y)
    (hx : a.eval x = .pointer (some ⟨g, k, none⟩)) (hy : a.eval y = .agg (evc e)) (hg : w.there g k 26)
    (h : wpList Try.prog ops Q rest (a.put o.dst undef) (w.setCells g k (evl e))) : wpList Try.prog ops Q (o :: rest) a w :=
  wpList_store_mid hgd 39 x y ho g k (evc e) hx hy (by rw [evc_size e hl]; exact hg) (size26 e hl) (evc_one e) h
theorem row_there {w : World} {base g n cap i : Nat} {R : List Ev} (h : Row w base (.slice (some ⟨g, 0, none⟩) n cap) R) (hn : R.length = n) (hi : i < n) : w.there g (i * 26) 26 := by
  rcases h.2 with ⟨hh, -⟩ | ⟨g', cap', cur, hv, hbg, hg, hnc, hcm, hcs, htk⟩
  · cases hh
  · simp only [Value.slice.injEq, Option.some.injEq, Addr.mk.injEq, and_true] at hv
    obtain ⟨rfl, h1, rfl⟩ := hv
    intro j hj
    have hlt : i * 26 + j < cur.size := by omega
    refine ⟨?_, frozen_of_row w g _ _ _ hg⟩
    rw [cell_of_row w g _ _ _ _ hg, Array.getElem?_eq_getElem hlt]
    rfl
theorem zero_one (k : Nat) : ∀ v ∈ (Builtin.zeroCells (evc zv) k).toList, v.oneCell' = true := by
  intro v hv
  have h1 := evc_one zv
  rw [Array.all_eq_true_iff_forall_mem] at h1
  simp only [Builtin.zeroCells, Array.toList_map, List.mem_map] at hv
  obtain ⟨t, -, rfl⟩ := hv
  have ht : t % (evc zv).size < (evc zv).size := Nat.mod_lt _ (by decide)
  rw [getElem!_pos (evc zv) _ ht]
  exact h1 _ (Array.getElem_mem ht)
theorem clear_any {w : World} {base g n cap i : Nat} {R : List Ev} (h : Row w base (.slice (some ⟨g, 0, none⟩) n cap) R) (hn : R.length = n) (hi : i < n) (ty : TypeId) :
    (Builtin.clear_ #[27] ty #[.slice (some ⟨g, i * 26, none⟩) (n - i) (cap - i)]).run Try.prog w = .ok (.tuple #[]) (w.setCells g (i * 26) (Builtin.zeroCells (evc zv) (n - i)).toList) := by
  have ht : Try.prog.underlying 27 = some (.slice 39) := Try.underlying27
  have hz : ∀ w, (zeroValue 39).run Try.prog w = .ok (.agg (evc zv)) w := Try.zeroValue39
  have hlen : (Builtin.zeroCells (evc zv) (n - i)).toList.length = (n - i) * 26 := by simp [Builtin.zeroCells, evc_size zv rfl]
  rcases h.2 with ⟨hh, -⟩ | ⟨g', cap', cur, hv, hbg, hg, hnc, hcm, hcs, htk⟩
  · cases hh
  · simp only [Value.slice.injEq, Option.some.injEq, Addr.mk.injEq, and_true] at hv
    obtain ⟨rfl, h1, rfl⟩ := hv
    have hst := run_storeCells_cells (P := Try.prog) g (i * 26) (Builtin.zeroCells (evc zv) (n - i)).toList 0 w (fun j hj => by
      rw [hlen] at hj
      have hlt : i * 26 + j < cur.size := by
        have : n * 26 ≤ cur.size := by omega
        omega
      rw [Nat.add_zero, cell_of_row w g _ _ _ _ hg, Array.getElem?_eq_getElem hlt]
      rfl) (fun j _ => frozen_of_row w g _ _ _ hg) (zero_one _)
    simp only [Nat.add_zero] at hst
    obtain ⟨q, hq⟩ : ∃ q, n - i = q + 1 := ⟨n - i - 1, by omega⟩
    rw [hq] at hst ⊢
    simp [Builtin.clear_, run_underlying ht, hz, Value.cells, hst]
theorem below_put {B b : Nat} {a : World} (hb : B ≤ b) : ∀ (vs : List Value) (o : Nat) (w : World), Below B a w → Below B a (w.setCells b o vs)
  | [], _, _, h => h
  | v :: r, o, _, h => below_put hb r (o + 1) _ (h.setCell (p := ⟨b, o, none⟩) hb v)
theorem slice_own (w : World) {g n cap i : Nat} (hi : i < n) (hn : n ≤ cap) : (Instr.sliceAt 27 (.slice (some ⟨g, 0, none⟩) n cap) (some (.int .i64 (i : Int))) none none).run Try.prog w = .ok (.slice (some ⟨g, i * 26, none⟩) (n - i) (cap - i)) w := by
  rw [slice_from w (by omega), dropA, if_neg (by omega)]
  show Result.ok (Value.slice (some (Addr.add ⟨g, 0, none⟩ (i * 26))) (n - i) (cap - i)) w = _
  rw [Addr.add_mid, Nat.zero_add]
theorem row_head {w : World} {base : Nat} {v : Value} {L : List Ev} (h : Row w base v L) : (v = .slice none 0 0 ∧ L = []) ∨ ∃ g cap, v = .slice (some ⟨g, 0, none⟩) L.length cap ∧ base ≤ g ∧ g < w.heap.size ∧ L.length ≤ cap ∧ v.ownBlock = some g := by
  rcases h.2 with ⟨rfl, h0⟩ | ⟨g, cap, cur, rfl, hb, hg, hnc, hcm, hcs, htake⟩
  · exact .inl ⟨rfl, List.eq_nil_of_length_eq_zero h0⟩
  · exact .inr ⟨g, cap, rfl, hb, (Array.getElem?_eq_some_iff.1 hg).1, hnc, rfl⟩
theorem pdel_none (base : Nat) (L : List Ev) (ao : Option Addr) (n c : Nat) (k : Nat) (x : List Int) (w : World) (hR : Row w base (.slice ao n c) L) (hE : Evs w ao n c L) (hL : n ≤ 1000) (hc : Lies w k x) (hx : x.length = 16) (hno : ∀ u ∈ L, bad x u = false) :
    Calls Try.prog 33 #[.slice ao n c, .func (.func 34) #[] #[.pointer (some ⟨k, 0, none⟩)]] w fun e w' => ∃ v', e = .returned v' ∧ Row w' base v' (L.filter fun u => !bad x u) ∧ Below w.heap.size w w' ∧ v' = .slice ao n c := by
  have HR : Aside (Row w base (.slice ao n c) (L.filter fun u => !bad x u)) := by
    show Row _ _ _ _
    rw [List.filter_eq_self.2 (fun v hv => by rw [hno v hv]; rfl)]
    exact hR
  have hlen := hE.len
  have HN : Hid (∀ u ∈ L, bad x u = false) := hno
  clear hR hno
  go_enter Try.func33, Try.ntmps33
  go_wp2_with fail
  refine (pidx_any ao n c L k x w hE hc hx hL).mono ?_
  rintro e w1 ⟨i, rfl, HI, hb1⟩
  have hi : i = -1 := by
    rcases HI.out with ⟨h, -⟩ | ⟨j, hj, -, -, u, hu, hb⟩
    · exact h
    · rw [HN.out u (List.mem_of_getElem? hu)] at hb
      cases hb
  subst hi
  have HF : Hid (Row w1 base (.slice ao n c) (L.filter fun u => !bad x u) ∧ Below w.heap.size w w1) := ⟨HR.out.below hb1 (Nat.le_refl _), hb1⟩
  clear HI HN HR hE hc hb1
  go_wp2
  go_ret
  exact ⟨_, rfl, HF.out.1, HF.out.2, rfl⟩
set_option maxHeartbeats 1000000 in
theorem pdel_some (base : Nat) (L : List Ev) (g n cap : Nat) (k : Nat) (x : List Int) (w : World) (hR : Row w base (.slice (some ⟨g, 0, none⟩) n cap) L) (hE : Evs w (some ⟨g, 0, none⟩) n cap L) (hL : n ≤ 1000) (hcap : n ≤ cap) (hc : Lies w k x) (hx : x.length = 16) (hb : base ≤ g) (hg : g < w.heap.size) (hkg : k ≠ g) (hyes : ¬ ∀ u ∈ L, bad x u = false) :
    Calls Try.prog 33 #[.slice (some ⟨g, 0, none⟩) n cap, .func (.func 34) #[] #[.pointer (some ⟨k, 0, none⟩)]] w fun e w' => ∃ v', e = .returned v' ∧ Row w' base v' (L.filter fun u => !bad x u) ∧ w.grownBy w' (some g) ∧ v'.ownBlock = some g := by
  have hlen := hE.len
  have HN : Hid (¬ ∀ u ∈ L, bad x u = false) := hyes
  have HR : Hid (Row w base (.slice (some ⟨g, 0, none⟩) n cap) L) := hR
  have HK : Hid (k ≠ g ∧ base ≤ g ∧ g < w.heap.size) := ⟨hkg, hb, hg⟩
  have HW : Hid (∀ e ∈ L, Wide e) := hE.wide
  have HC : Hid (Lies w k x) := hc
  have HX : Hid (x.length = 16) := hx
  clear hR hyes hkg
  go_enter Try.func33, Try.ntmps33
  go_wp2_with fail
  refine (pidx_any _ n cap L k x w hE hc hx hL).mono ?_
  rintro e w1 ⟨i, rfl, HI, hb1⟩
  obtain ⟨i0, hi0, rfl, h1, u0, hu0, hbad0⟩ : ∃ j : Nat, j < n ∧ i = (j : Int) ∧ (∀ u ∈ L.take j, bad x u = false) ∧ ∃ u, L[j]? = some u ∧ bad x u = true := by
    rcases HI.out with ⟨-, h⟩ | h
    · exact absurd h HN.out
    · exact h
  have H0 : Aside (Row w1 base (.slice (some ⟨g, 0, none⟩) n cap) L ∧ Cmpd x L L i0 (i0 + 1) ∧ (∀ e ∈ L, Wide e) ∧ w.grownBy w1 (some g) ∧ Lies w1 k x) :=
    ⟨HR.out.below hb1 (Nat.le_refl _), Cmpd.start h1 hu0 hbad0, HW.out, grown_of_below hb1 _, HC.out.below hb1 HC.out.lt⟩
  clear HI HN HR hE hc hb1 h1 hu0 hbad0 HC HW hb hg
  have hne : ((i0 : Int) == -1) = false := by simp
  go_wp2
  go_loopg [5, 6] n (fun kx s5 s6 wr => ∃ (i j : Nat) (R : List Ev), s5 = .int .i64 i ∧ s6 = .int .i64 j ∧ i < j ∧ j ≤ n ∧ n - j ≤ kx ∧ Aside (Row wr base (.slice (some ⟨g, 0, none⟩) n cap) R ∧ Cmpd x L R i j ∧ (∀ e ∈ R, Wide e) ∧ w.grownBy wr (some g) ∧ Lies wr k x))
  case atStart => exact ⟨i0, i0 + 1, L, rfl, by go_num, by omega, by omega, by omega, H0⟩
  case round =>
    clear H0 hne
    obtain ⟨i, j, R, rfl, rfl, hij, hjn, hkx, HS⟩ := hrel
    by_cases hlt : j < n
    · have hltz : (j : Int) < (n : Int) := by omega
      have hRl : R.length = n := by rw [HS.out.2.1.len]; exact hlen
      obtain ⟨ao', c', hv', hE'⟩ := HS.out.1.evs HS.out.2.2.1
      rw [hRl] at hv' hE'
      obtain ⟨rfl, -, rfl⟩ : some ⟨g, 0, none⟩ = ao' ∧ n = n ∧ cap = c' := by simpa using hv'
      obtain ⟨b, o, u, hbo, hui, hu, hr, hbl⟩ := hE'.at hlt
      obtain ⟨rfl, rfl⟩ : g = b ∧ 0 = o := by simpa using hbo
      have hu16 := hu.1
      have hLj : L[j]? = some u := by rw [← HS.out.2.1.back j (Nat.le_refl _)]; exact hui
      have hix := fun W : World => index_ev W (b := g) (off := 0) (k := j) (m := n) (c := cap) hlt
      simp only [Nat.zero_add] at hix hr
      have hz := liesE_new wr zv
      have hE1 : LiesE ((wr.alloc (.cells (evc zv) 39)).setRow wr.heap.size (evc u)) wr.heap.size u := hz.row u
      have hB1 : Below wr.heap.size wr ((wr.alloc (.cells (evc zv) 39)).setRow wr.heap.size (evc u)) := below_setRow ((Below.refl _ _).alloc (Nat.le_refl _) _) (Nat.le_refl _) _
      have hgw : g < wr.heap.size := hbl
      have HS1 : Aside (Row ((wr.alloc (.cells (evc zv) 39)).setRow wr.heap.size (evc u)) base (.slice (some ⟨g, 0, none⟩) n cap) R ∧ Cmpd x L R i j ∧ (∀ e ∈ R, Wide e) ∧ w.grownBy ((wr.alloc (.cells (evc zv) 39)).setRow wr.heap.size (evc u)) (some g) ∧ Lies ((wr.alloc (.cells (evc zv) 39)).setRow wr.heap.size (evc u)) k x ∧ LiesE ((wr.alloc (.cells (evc zv) 39)).setRow wr.heap.size (evc u)) wr.heap.size u) :=
        ⟨HS.out.1.below hB1 (Nat.le_refl _), HS.out.2.1, HS.out.2.2.1, grown_tr HS.out.2.2.2.1 (grown_of_below hB1 _), HS.out.2.2.2.2.below hB1 HS.out.2.2.2.2.lt, hE1⟩
      clear hB1 hE' hv' hbo
      go_upto_region 8 with (first | refine load_ev_mid rfl rfl rfl hr hu16 ?_ | refine store_ev rfl rfl rfl rfl hz hu16 rfl ?_)
      change Code.wp _ _ _ _ ((wr.alloc (.cells (evc zv) 39)).setRow wr.heap.size (evc u))
      clear hE1 hz hr hix HS hbl
      generalize (wr.alloc (.cells (evc zv) 39)).setRow wr.heap.size (evc u) = W at HS1 ⊢
      have hgD : Hid (g ≠ wr.heap.size ∧ g < wr.heap.size) := ⟨by omega, hgw⟩
      clear hgw
      generalize wr.heap.size = D at *
      have hE1 := HS1.out.2.2.2.2.2
      go_wp2_with (refine load_ev rfl rfl rfl hE1 hu16 ?_)
      refine (ptrimf_any u hu.1 k x HX.out W HS1.out.2.2.2.2.1).mono ?_
      rintro e w2 ⟨rfl, hb2⟩
      have hE2 : LiesE w2 D u := hE1.below hb2 hE1.lt
      have HS2 : Aside (Row w2 base (.slice (some ⟨g, 0, none⟩) n cap) R ∧ Cmpd x L R i j ∧ (∀ e ∈ R, Wide e) ∧ w.grownBy w2 (some g) ∧ Lies w2 k x) :=
        ⟨HS1.out.1.below hb2 (Nat.le_refl _), HS1.out.2.1, HS1.out.2.2.1, grown_tr HS1.out.2.2.2.1 (grown_of_below hb2 _), HS1.out.2.2.2.2.1.below hb2 HS1.out.2.2.2.2.1.lt⟩
      rcases Bool.eq_false_or_eq_true (bad x u) with hp | hp
      · have hp' : hasv x u.r u.n = true := hp
        have HS3 : Aside (Row w2 base (.slice (some ⟨g, 0, none⟩) n cap) R ∧ Cmpd x L R i (j + 1) ∧ (∀ e ∈ R, Wide e) ∧ w.grownBy w2 (some g) ∧ Lies w2 k x) := ⟨HS2.out.1, HS2.out.2.1.drop hLj hp, HS2.out.2.2⟩
        rw [hp']
        clear hp hp' HS1 HS2 hE1 hE2 hb2 hLj hui
        go_wp2
        go_roundg (n - (j + 1))
        case measure => omega
        case rel => exact ⟨i, j + 1, R, rfl, by go_num, by omega, by omega, Nat.le_refl _, HS3⟩
      · have hp' : hasv x u.r u.n = false := hp
        have hin : i < n := by omega
        have hinz : (i : Int) < (n : Int) := by omega
        have hth := row_there HS2.out.1 hRl hin
        have hix := fun W : World => index_ev W (b := g) (off := 0) (k := i) (m := n) (c := cap) hin
        simp only [Nat.zero_add] at hix
        have HS3 : Aside (Row (w2.setCells g (i * 26) (evl u)) base (.slice (some ⟨g, 0, none⟩) n cap) (R.set i u) ∧ Cmpd x L (R.set i u) (i + 1) (j + 1) ∧ (∀ e ∈ R.set i u, Wide e) ∧ w.grownBy (w2.setCells g (i * 26) (evl u)) (some g) ∧ Lies (w2.setCells g (i * 26) (evl u)) k x) :=
          ⟨row_put HS2.out.1 hRl HS2.out.2.2.1 hu, HS2.out.2.1.keep (by omega) hLj hp, HS2.out.2.1.wide HS2.out.2.2.1 hu, grown_tr HS2.out.2.2.2.1 (grown_cells g _ _ _), (cells_other g _ _ _ k HK.out.1).trans HS2.out.2.2.2.2⟩
        rw [hp']
        clear hp hp' HS1 HS2 hE1 hb2 hLj hui
        go_wp2_with (first | refine load_ev rfl rfl rfl hE2 hu16 ?_ | refine store_ev_at hu16 rfl rfl rfl rfl hth ?_)
        go_roundg (n - (j + 1))
        case measure => omega
        case rel => exact ⟨i + 1, j + 1, R.set i u, by go_num, by go_num, by omega, by omega, Nat.le_refl _, HS3⟩
    · obtain rfl : j = n := by omega
      have hRl : R.length = j := by rw [HS.out.2.1.len]; exact hlen
      have hin : i ≤ cap := by omega
      have hinz : (i : Int) < (j : Int) := by omega
      have hcl := clear_any HS.out.1 hRl hij
      have hs1 := fun W : World => slice_own W (g := g) hij hcap
      have hs2 := fun W : World => slice_at W (ao := some ⟨g, 0, none⟩) (m := j) hin
      have HF : Hid (Row (wr.setCells g (i * 26) (Builtin.zeroCells (evc zv) (j - i)).toList) base (.slice (some ⟨g, 0, none⟩) i cap) (L.filter fun u => !bad x u) ∧ w.grownBy (wr.setCells g (i * 26) (Builtin.zeroCells (evc zv) (j - i)).toList) (some g)) :=
        ⟨by rw [← HS.out.2.1.all (by omega)]; exact row_cut HS.out.1 hRl HS.out.2.2.1 (by omega), grown_tr HS.out.2.2.2.1 (grown_cells g _ _ _)⟩
      clear HS
      go_wp2
      go_ret
      exact ⟨_, rfl, HF.out.1, HF.out.2, rfl⟩
theorem pdel_any (base : Nat) (v : Value) (L : List Ev) (k : Nat) (x : List Int) (w : World) (hR : Row w base v L) (hW : ∀ e ∈ L, Wide e) (hL : L.length ≤ 1000) (hc : Lies w k x) (hx : x.length = 16) (hk : ∀ g, v.ownBlock = some g → k ≠ g) :
    Calls Try.prog 33 #[v, .func (.func 34) #[] #[.pointer (some ⟨k, 0, none⟩)]] w fun e w' => ∃ v', e = .returned v' ∧ Row w' base v' (trimE L x) ∧ w.grownBy w' v.ownBlock ∧ ∀ j, v'.ownBlock = some j → v.ownBlock = some j := by
  obtain ⟨ao, c, rfl, hE⟩ := hR.evs hW
  by_cases hno : ∀ u ∈ L, bad x u = false
  · refine (pdel_none base L ao _ c k x w hR hE hL hc hx hno).mono ?_
    rintro e w' ⟨v', rfl, h1, h2, rfl⟩
    exact ⟨_, rfl, h1, grown_of_below h2 _, fun _ h => h⟩
  · rcases row_head hR with ⟨-, rfl⟩ | ⟨g, cap, hv, hbg, hgw, hlc, ho⟩
    · exact absurd (fun u hu => by cases hu) hno
    · obtain ⟨rfl, rfl⟩ : ao = some ⟨g, 0, none⟩ ∧ c = cap := by simpa using hv
      refine (pdel_some base L g _ c k x w hR hE hL hlc hc hx hbg hgw (hk g ho) hno).mono ?_
      rintro e w' ⟨v', rfl, h1, h2, h3⟩
      exact ⟨_, rfl, h1, by rw [ho]; exact h2, fun j hj => by rw [ho, ← h3]; exact hj⟩
end Go.Proofs.Yteanpepmncgagaa
