/-
  What slices.DeleteFunc of events comes to: what stands in no map of dots is deleted.
-/
import Derived.Test.YtagjgamigldjnaaKdn
import Derived.Test.YtagjgamigldjnaaLsl
namespace Go.Proofs.Ytagjgamigldjnaa
set_option maxRecDepth 100000
open Go.RowKit Go.Shelf Go.Sort

/-! A row that is stored into. -/
theorem heap_setCells_same {g : Nat} {t : TypeId} : ∀ (vs : List Value) (o : Nat) (w : World) (cur : Array Value), w.heap[g]? = some (.cells cur t (0, 0)) → (w.setCells g o vs).heap[g]? = some (.cells (setMany cur o vs) t (0, 0))
  | [], _, _, _, h => h
  | v :: vs, o, w, cur, h => heap_setCells_same vs (o + 1) (w.setCell ⟨g, o, none⟩ v) (cur.setIfInBounds o v) (heap_setCell_same w g o cur t v h)
theorem get_take {cur : Array Value} {N : Nat} {L : List Value} (h : cur.toList.take N = L) {t : Nat} (ht : t < N) : cur[t]? = L[t]? := by
  rw [← h, List.getElem?_take_of_lt ht, Array.getElem?_toList]
theorem take_many {cur : Array Value} {n i : Nat} {R : List Ev} {u : Ev} (hR : ∀ e ∈ R, Wide e) (hn : R.length = n) (hc : n * 26 ≤ cur.size) (h : cur.toList.take (n * 26) = evs R) (hu : Wide u) : (setMany cur (i * 26) (evl u)).toList.take (n * 26) = evs (R.set i u) := by
  have hul := evl_length u hu.1
  have hw2 : ∀ e ∈ R.set i u, Wide e := fun e he => (List.mem_or_eq_of_mem_set he).elim (hR e) (fun e1 => e1 ▸ hu)
  have hl2 : (evs (R.set i u)).length = n * 26 := by rw [evs_length hw2, List.length_set, hn]
  apply List.ext_getElem?
  intro t
  by_cases ht : t < n * 26
  · have htc : t < (setMany cur (i * 26) (evl u)).size := by rw [size_setMany]; omega
    rw [List.getElem?_take_of_lt ht, Array.getElem?_toList, Array.getElem?_eq_getElem htc]
    have hg := get_setMany (evl u) (i * 26) cur t (by omega)
    rw [getElem!_pos _ t htc, hul] at hg
    rw [hg]
    have hj : t / 26 < n := by omega
    have hr : t % 26 < 26 := Nat.mod_lt _ (by omega)
    by_cases hb : i * 26 ≤ t ∧ t < i * 26 + 26
    · rw [if_pos hb]
      have hji : t / 26 = i := by omega
      have he : (R.set i u)[t / 26]? = some u := by rw [hji, List.getElem?_set_self (by omega)]
      have hv : (evl u)[t % 26]? = some (evl u)[t - i * 26]! := by
        rw [show t - i * 26 = t % 26 by omega, List.getElem?_eq_getElem (by omega), getElem!_pos _ _ (by omega)]
      have := evs_at hw2 (t / 26) u he (t % 26) _ hv
      rw [show t / 26 * 26 + t % 26 = t by omega] at this
      exact this.symm
    · rw [if_neg hb]
      have hji : i ≠ t / 26 := by omega
      have htc' : t < cur.size := by omega
      have h1 := get_take h ht
      rw [Array.getElem?_eq_getElem htc'] at h1
      rw [getElem!_pos cur t htc', h1]
      obtain ⟨e, he⟩ : ∃ e, R[t / 26]? = some e := ⟨_, List.getElem?_eq_getElem (by omega)⟩
      have hel := evl_length e (hR e (List.mem_of_getElem? he)).1
      obtain ⟨v, hv⟩ : ∃ v, (evl e)[t % 26]? = some v := ⟨_, List.getElem?_eq_getElem (by omega)⟩
      have a1 := evs_at hR (t / 26) e he (t % 26) v hv
      have a2 := evs_at hw2 (t / 26) e (by rw [List.getElem?_set_ne hji]; exact he) (t % 26) v hv
      rw [show t / 26 * 26 + t % 26 = t by omega] at a1 a2
      rw [a1, a2]
  · rw [List.getElem?_eq_none (by rw [List.length_take, Array.length_toList]; omega), List.getElem?_eq_none (by omega)]
theorem row_put {w : World} {base g n cap i : Nat} {R : List Ev} {u : Ev} (h : Row w base (.slice (some ⟨g, 0, none⟩) n cap) R) (hn : R.length = n) (hR : ∀ e ∈ R, Wide e) (hu : Wide u) : Row (w.setCells g (i * 26) (evl u)) base (.slice (some ⟨g, 0, none⟩) n cap) (R.set i u) := by
  rcases h.2 with ⟨hh, -⟩ | ⟨g', cap', cur, hv, hbg, hg, hnc, hcm, hcs, htk⟩
  · cases hh
  · simp only [Value.slice.injEq, Option.some.injEq, Addr.mk.injEq, and_true] at hv
    obtain ⟨rfl, h1, rfl⟩ := hv
    have hl : (R.set i u).length = R.length := List.length_set
    refine ⟨?_, .inr ⟨g, cap, setMany cur (i * 26) (evl u), by rw [hl, hn], hbg, heap_setCells_same _ _ _ _ hg, by omega, hcm, by rw [size_setMany, hcs], ?_⟩⟩
    · rw [evs_length (fun e he => (List.mem_or_eq_of_mem_set he).elim (hR e) (fun e1 => e1 ▸ hu)), hl]
    · rw [hl, hn]
      rw [hn] at htk
      exact take_many hR hn (by omega) htk hu
/-- What stands behind may turn. -/
theorem row_cut {w : World} {base g n cap i : Nat} {R : List Ev} {vs : List Value} (h : Row w base (.slice (some ⟨g, 0, none⟩) n cap) R) (hn : R.length = n) (hR : ∀ e ∈ R, Wide e) (hi : i ≤ n) : Row (w.setCells g (i * 26) vs) base (.slice (some ⟨g, 0, none⟩) i cap) (R.take i) := by
  rcases h.2 with ⟨hh, -⟩ | ⟨g', cap', cur, hv, hbg, hg, hnc, hcm, hcs, htk⟩
  · cases hh
  · simp only [Value.slice.injEq, Option.some.injEq, Addr.mk.injEq, and_true] at hv
    obtain ⟨rfl, h1, rfl⟩ := hv
    have hl : (R.take i).length = i := by rw [List.length_take]; omega
    have hwt : ∀ e ∈ R.take i, Wide e := fun e he => hR e (List.mem_of_mem_take he)
    have hlt : (evs (R.take i)).length = i * 26 := by rw [evs_length hwt, hl]
    refine ⟨by rw [hlt, hl], .inr ⟨g, cap, setMany cur (i * 26) vs, by rw [hl], hbg, heap_setCells_same _ _ _ _ hg, by omega, hcm, by rw [size_setMany, hcs], ?_⟩⟩
    rw [hl]
    apply List.ext_getElem?
    intro t
    by_cases ht : t < i * 26
    · have htc : t < cur.size := by omega
      have htm : t < (setMany cur (i * 26) vs).size := by rw [size_setMany]; exact htc
      rw [List.getElem?_take_of_lt ht, Array.getElem?_toList, Array.getElem?_eq_getElem htm]
      have hgm := get_setMany vs (i * 26) cur t htc
      rw [getElem!_pos _ t htm, if_neg (by omega), getElem!_pos cur t htc] at hgm
      rw [hgm]
      rw [hn] at htk
      have h1 := get_take htk (show t < n * 26 by omega)
      rw [Array.getElem?_eq_getElem htc] at h1
      rw [h1]
      have e1 : evs R = evs (R.take i) ++ evs (R.drop i) := by rw [← evs_append, List.take_append_drop]
      rw [e1, List.getElem?_append_left (by omega)]
    · rw [List.getElem?_eq_none (by rw [List.length_take, Array.length_toList]; omega), List.getElem?_eq_none (by omega)]

set_option maxHeartbeats 1000000 in
theorem idxf_any (ao : Option Addr) (m c : Nat) (R : List Ev) (k B : Nat) (F : Dt → Option Value) (w : World) (hE : Evs w ao m c R) (hc : Thr w k B F) (hm : m ≤ 1000) :
    Calls Try.prog 34 #[.slice ao m c, .func (.func 27) #[] #[.pointer (some ⟨k, 0, none⟩)]] w fun e w' => ∃ i : Int, e = .returned (.int .i64 i) ∧ Aside ((i = -1 ∧ ∀ u ∈ R, bad F u = false) ∨ ∃ j : Nat, j < m ∧ i = (j : Int) ∧ (∀ u ∈ R.take j, bad F u = false) ∧ ∃ u, R[j]? = some u ∧ bad F u = true) ∧ Below w.heap.size w w' := by
  have hlen := hE.len
  have HE : Aside (Evs w ao m c R) := hE
  have HC : Hid (Thr w k B F) := hc
  clear hE hc
  go_enter Try.func34, Try.ntmps34
  go_wp2
  go_loopg [8] m (fun kx s8 wr => ∃ i : Nat, s8 = .int .i64 i ∧ i ≤ m ∧ m - i ≤ kx ∧ Aside ((∀ u ∈ R.take i, bad F u = false) ∧ Below w.heap.size w wr))
  case atStart => exact ⟨0, rfl, Nat.zero_le _, by omega, ⟨by simp, Below.refl _ _⟩⟩
  case round =>
    obtain ⟨i, rfl, him, hkx, HS⟩ := hrel
    by_cases hlt : i < m
    · have hltz : (i : Int) < (m : Int) := by omega
      obtain ⟨b, o, u, rfl, hui, hu, hr, hbl⟩ := (HE.out.below HS.out.2 (Nat.le_refl _)).at hlt
      have hix := fun W : World => index_ev W (b := b) (off := o) (k := i) (m := m) (c := c) hlt
      have hcr : Thr wr k B F := HC.out.below HS.out.2
      go_wp2_with (refine load_ev_mid rfl rfl rfl hr hu.1 ?_)
      refine (notin_any u hu.1 k B F wr hcr).mono ?_
      rintro e w1 ⟨rfl, hb1⟩
      have hb1' : Below w.heap.size w w1 := HS.out.2.trans (hb1.mono HS.out.2.size)
      rcases Bool.eq_false_or_eq_true (bad F u) with hp | hp
      · have hp' : (bad F u) = true := hp
        have HR : Hid (Aside ((((i : Int)) = -1 ∧ ∀ u ∈ R, bad F u = false) ∨ ∃ j : Nat, j < m ∧ (i : Int) = (j : Int) ∧ (∀ u ∈ R.take j, bad F u = false) ∧ ∃ u, R[j]? = some u ∧ bad F u = true) ∧ Below w.heap.size w w1) := ⟨.inr ⟨i, hlt, rfl, HS.out.1, u, hui, hp⟩, hb1'⟩
        rw [hp']
        clear hb1 hb1' HS hcr hr hix hp hp'
        go_wp2
        go_ret
        exact ⟨_, rfl, HR.out⟩
      · have hp' : (bad F u) = false := hp
        have HS2 : Aside ((∀ u ∈ R.take (i + 1), bad F u = false) ∧ Below w.heap.size w w1) := by
          refine ⟨fun v hv => ?_, hb1'⟩
          rw [take_snoc hui] at hv
          rcases List.mem_append.1 hv with hv | hv
          · exact HS.out.1 v hv
          · rw [List.mem_singleton.1 hv]; exact hp
        rw [hp']
        clear hb1 hb1' HS hcr hr hix hp hp'
        go_wp2
        go_roundg (m - (i + 1))
        case measure => omega
        case rel => exact ⟨i + 1, by go_num, by omega, Nat.le_refl _, HS2⟩
    · obtain rfl : i = m := by omega
      have HR : Hid ((∀ u ∈ R, bad F u = false) ∧ Below w.heap.size w wr) := by
        have := HS.out
        rw [List.take_of_length_le (by omega)] at this
        exact this
      clear HS
      go_wp2
      go_ret
      exact ⟨_, rfl, .inl ⟨rfl, HR.out.1⟩, HR.out.2⟩

/-- On the way: what is kept lies ahead, the rest as it was. -/
structure Cmpd (F : Dt → Option Value) (L R : List Ev) (i j : Nat) : Prop where
  len : R.length = L.length
  front : R.take i = (L.take j).filter (fun u => !bad F u)
  back : ∀ q, j ≤ q → R[q]? = L[q]?
  le : i < j
theorem Cmpd.start {F : Dt → Option Value} {L : List Ev} {i : Nat} {u : Ev} (h1 : ∀ u ∈ L.take i, bad F u = false) (h2 : L[i]? = some u) (h3 : bad F u = true) : Cmpd F L L i (i + 1) := by
  refine ⟨rfl, ?_, fun _ _ => rfl, by omega⟩
  rw [take_snoc h2, List.filter_append, List.filter_cons, h3, List.filter_nil]
  simp only [Bool.not_true, Bool.false_eq_true, if_false, List.append_nil]
  exact (List.filter_eq_self.2 (fun v hv => by rw [h1 v hv]; rfl)).symm
theorem Cmpd.drop {F : Dt → Option Value} {L R : List Ev} {i j : Nat} {u : Ev} (h : Cmpd F L R i j) (hu : L[j]? = some u) (hb : bad F u = true) : Cmpd F L R i (j + 1) := by
  have hle := h.le
  refine ⟨h.len, ?_, fun q hq => h.back q (by omega), by omega⟩
  rw [take_snoc hu, List.filter_append, List.filter_cons, hb, List.filter_nil]
  simp only [Bool.not_true, Bool.false_eq_true, if_false, List.append_nil]
  exact h.front
theorem Cmpd.keep {F : Dt → Option Value} {L R : List Ev} {i j : Nat} {u : Ev} (h : Cmpd F L R i j) (hj : j < L.length) (hu : L[j]? = some u) (hb : bad F u = false) : Cmpd F L (R.set i u) (i + 1) (j + 1) := by
  have hl := h.len
  have hle := h.le
  refine ⟨by rw [List.length_set]; exact h.len, ?_, fun q hq => ?_, by omega⟩
  · have hi : (R.set i u)[i]? = some u := List.getElem?_set_self (by omega)
    rw [take_snoc hi, take_snoc hu, List.filter_append, List.filter_cons, hb, List.filter_nil, ← h.front]
    simp only [Bool.not_false, if_true]
    congr 1
    rw [List.take_set_of_le (Nat.le_refl _)]
  · rw [List.getElem?_set_ne (by omega)]
    exact h.back q (by omega)
theorem Cmpd.all {F : Dt → Option Value} {L R : List Ev} {i j : Nat} (h : Cmpd F L R i j) (hj : L.length ≤ j) : R.take i = L.filter (fun u => !bad F u) := by
  rw [h.front, List.take_of_length_le hj]
theorem Cmpd.wide {F : Dt → Option Value} {L R : List Ev} {i j : Nat} {u : Ev} (_h : Cmpd F L R i j) (hR : ∀ e ∈ R, Wide e) (hu : Wide u) : ∀ e ∈ R.set i u, Wide e := fun e he => (List.mem_or_eq_of_mem_set he).elim (hR e) (fun e1 => e1 ▸ hu)
theorem store_ev_at {ops : Array Oper} {rest : List Oper} {o : Oper} {a : Act} {w : World} {Q : Exit → Act → World → Prop} {x y : Operand} {g k : Nat} {e : Ev} (hl : e.deps.length = 16) (hgd : o.guard = none) (ho : o.op = .store 41 x y)
    (hx : a.eval x = .pointer (some ⟨g, k, none⟩)) (hy : a.eval y = .agg (evc e)) (hg : w.there g k 26)
    (h : wpList Try.prog ops Q rest (a.put o.dst undef) (w.setCells g k (evl e))) : wpList Try.prog ops Q (o :: rest) a w :=
  wpList_store_mid hgd 41 x y ho g k (evc e) hx hy (by rw [evc_size e hl]; exact hg) (size26 e hl) (evc_one e) h
theorem row_there {w : World} {base g n cap i : Nat} {R : List Ev} (h : Row w base (.slice (some ⟨g, 0, none⟩) n cap) R) (hn : R.length = n) (hi : i < n) : w.there g (i * 26) 26 := by
  rcases h.2 with ⟨hh, -⟩ | ⟨g', cap', cur, hv, hbg, hg, hnc, hcm, hcs, htk⟩
  · cases hh
  · simp only [Value.slice.injEq, Option.some.injEq, Addr.mk.injEq, and_true] at hv
    obtain ⟨rfl, h1, rfl⟩ := hv
    intro j hj
    have hlt : i * 26 + j < cur.size := by omega
    refine ⟨?_, frozen_of_row w g _ _ _ hg⟩
    rw [cell_of_row w g _ _ _ _ hg, Array.getElem?_eq_getElem hlt]
    rfl
end Go.Proofs.Ytagjgamigldjnaa
