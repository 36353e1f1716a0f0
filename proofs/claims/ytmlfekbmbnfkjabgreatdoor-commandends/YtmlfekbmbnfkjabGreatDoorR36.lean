/-
  What slices.DeleteFunc of events comes to: what is live no more is deleted.
-/
import Derived.Test.YtmlfekbmbnfkjabGreatDoorR35
import Derived.Test.YtmlfekbmbnfkjabGreatDoorR28
import Derived.Test.YtmlfekbmbnfkjabGreatDoorR31
import Derived.Test.YtmlfekbmbnfkjabGreatDoorR11
import Derived.Test.YtmlfekbmbnfkjabGreatDoorR32
import Derived.Test.YtmlfekbmbnfkjabGreatDoorR26
namespace Go.Proofs.YtmlfekbmbnfkjabGreatDoor
set_option maxRecDepth 100000
namespace S16
set_option maxRecDepth 100000
open Go.RowKit Go.Shelf Go.Sort

theorem heap_setCells_other {g k : Nat} (hk : k ≠ g) : ∀ (vs : List Value) (o : Nat) (w : World), (w.setCells g o vs).heap[k]? = w.heap[k]?
  | [], _, _ => rfl
  | v :: vs, o, w => (heap_setCells_other hk vs (o + 1) (w.setCell ⟨g, o, none⟩ v)).trans (heap_setCell_other w ⟨g, o, none⟩ k v hk)
theorem _root_.Go.Proofs.YtmlfekbmbnfkjabGreatDoor.Sit.put {w : World} {k B g : Nat} {F : Sf} (h : Sit w k B F) (hk : k ≠ g ∧ B ≠ g ∧ F.m ≠ some g) (o : Nat) (vs : List Value) : Sit (w.setCells g o vs) k B F :=
  ⟨(World.cell?_setCells_out g _ _ _ _ (fun e => absurd e hk.1)).trans h.cell, h.bg.kept fun i _ hi => heap_setCells_other (fun e => by subst e; rcases hi with rfl | hi; exact hk.2.1 rfl; exact hk.2.2 hi) vs o w⟩

/-! A row that is stored into. -/
theorem heap_setCells_same {g : Nat} {t : TypeId} : ∀ (vs : List Value) (o : Nat) (w : World) (cur : Array Value), w.heap[g]? = some (.cells cur t (0, 0)) → (w.setCells g o vs).heap[g]? = some (.cells (setMany cur o vs) t (0, 0))
  | [], _, _, _, h => h
  | v :: vs, o, w, cur, h => heap_setCells_same vs (o + 1) (w.setCell ⟨g, o, none⟩ v) (cur.setIfInBounds o v) (heap_setCell_same w g o cur t v h)
theorem get_take {cur : Array Value} {N : Nat} {L : List Value} (h : cur.toList.take N = L) {t : Nat} (ht : t < N) : cur[t]? = L[t]? := by
  rw [← h, List.getElem?_take_of_lt ht, Array.getElem?_toList]
theorem take_many {cur : Array Value} {n i : Nat} {R : List Ev} {u : Ev} (hR : ∀ e ∈ R, Wide e) (hn : R.length = n) (hc : n * 26 ≤ cur.size) (h : cur.toList.take (n * 26) = evs R) (hu : Wide u) : (setMany cur (i * 26) (evl u)).toList.take (n * 26) = evs (R.set i u) := by
  have hul := evl_length u hu.1
  have hw2 : ∀ e ∈ R.set i u, Wide e := fun e he => (List.mem_or_eq_of_mem_set he).elim (hR e) (fun e1 => e1 ▸ hu)
  have hl2 : (evs (R.set i u)).length = n * 26 := by rw [evs_length hw2, List.length_set, hn]
  apply List.ext_getElem?
  intro t
  by_cases ht : t < n * 26
  · have htc : t < (setMany cur (i * 26) (evl u)).size := by rw [size_setMany]; omega
    rw [List.getElem?_take_of_lt ht, Array.getElem?_toList, Array.getElem?_eq_getElem htc]
    have hg := get_setMany (evl u) (i * 26) cur t (by omega)
    rw [getElem!_pos _ t htc, hul] at hg
    rw [hg]
    have hj : t / 26 < n := by omega
    have hr : t % 26 < 26 := Nat.mod_lt _ (by omega)
    by_cases hb : i * 26 ≤ t ∧ t < i * 26 + 26
    · rw [if_pos hb]
      have hji : t / 26 = i := by omega
      have he : (R.set i u)[t / 26]? = some u := by rw [hji, List.getElem?_set_self (by omega)]
      have hv : (evl u)[t % 26]? = some (evl u)[t - i * 26]! := by
        rw [show t - i * 26 = t % 26 by omega, List.getElem?_eq_getElem (by omega), getElem!_pos _ _ (by omega)]
      have := evs_at hw2 (t / 26) u he (t % 26) _ hv
      rw [show t / 26 * 26 + t % 26 = t by omega] at this
      exact this.symm
    · rw [if_neg hb]
      have hji : i ≠ t / 26 := by omega
      have htc' : t < cur.size := by omega
      have h1 := get_take h ht
      rw [Array.getElem?_eq_getElem htc'] at h1
      rw [getElem!_pos cur t htc', h1]
      obtain ⟨e, he⟩ : ∃ e, R[t / 26]? = some e := ⟨_, List.getElem?_eq_getElem (by omega)⟩
      have hel := evl_length e (hR e (List.mem_of_getElem? he)).1
      obtain ⟨v, hv⟩ : ∃ v, (evl e)[t % 26]? = some v := ⟨_, List.getElem?_eq_getElem (by omega)⟩
      have a1 := evs_at hR (t / 26) e he (t % 26) v hv
      have a2 := evs_at hw2 (t / 26) e (by rw [List.getElem?_set_ne hji]; exact he) (t % 26) v hv
      rw [show t / 26 * 26 + t % 26 = t by omega] at a1 a2
      rw [a1, a2]
  · rw [List.getElem?_eq_none (by rw [List.length_take, Array.length_toList]; omega), List.getElem?_eq_none (by omega)]
theorem row_put {w : World} {base g n cap i : Nat} {R : List Ev} {u : Ev} (h : Row w base (.slice (some ⟨g, 0, none⟩) n cap) R) (hn : R.length = n) (hR : ∀ e ∈ R, Wide e) (hu : Wide u) : Row (w.setCells g (i * 26) (evl u)) base (.slice (some ⟨g, 0, none⟩) n cap) (R.set i u) := by
  rcases h.2 with ⟨hh, -⟩ | ⟨g', cap', cur, hv, hbg, hg, hnc, hcm, hcs, htk⟩
  · cases hh
  · simp only [Value.slice.injEq, Option.some.injEq, Addr.mk.injEq, and_true] at hv
    obtain ⟨rfl, h1, rfl⟩ := hv
    have hl : (R.set i u).length = R.length := List.length_set
    refine ⟨?_, .inr ⟨g, cap, setMany cur (i * 26) (evl u), by rw [hl, hn], hbg, heap_setCells_same _ _ _ _ hg, by omega, hcm, by rw [size_setMany, hcs], ?_⟩⟩
    · rw [evs_length (fun e he => (List.mem_or_eq_of_mem_set he).elim (hR e) (fun e1 => e1 ▸ hu)), hl]
    · rw [hl, hn]
      rw [hn] at htk
      exact take_many hR hn (by omega) htk hu
/-- What stands behind may turn. -/
theorem row_cut {w : World} {base g n cap i : Nat} {R : List Ev} {vs : List Value} (h : Row w base (.slice (some ⟨g, 0, none⟩) n cap) R) (hn : R.length = n) (hR : ∀ e ∈ R, Wide e) (hi : i ≤ n) : Row (w.setCells g (i * 26) vs) base (.slice (some ⟨g, 0, none⟩) i cap) (R.take i) := by
  rcases h.2 with ⟨hh, -⟩ | ⟨g', cap', cur, hv, hbg, hg, hnc, hcm, hcs, htk⟩
  · cases hh
  · simp only [Value.slice.injEq, Option.some.injEq, Addr.mk.injEq, and_true] at hv
    obtain ⟨rfl, h1, rfl⟩ := hv
    have hl : (R.take i).length = i := by rw [List.length_take]; omega
    have hwt : ∀ e ∈ R.take i, Wide e := fun e he => hR e (List.mem_of_mem_take he)
    have hlt : (evs (R.take i)).length = i * 26 := by rw [evs_length hwt, hl]
    refine ⟨by rw [hlt, hl], .inr ⟨g, cap, setMany cur (i * 26) vs, by rw [hl], hbg, heap_setCells_same _ _ _ _ hg, by omega, hcm, by rw [size_setMany, hcs], ?_⟩⟩
    rw [hl]
    apply List.ext_getElem?
    intro t
    by_cases ht : t < i * 26
    · have htc : t < cur.size := by omega
      have htm : t < (setMany cur (i * 26) vs).size := by rw [size_setMany]; exact htc
      rw [List.getElem?_take_of_lt ht, Array.getElem?_toList, Array.getElem?_eq_getElem htm]
      have hgm := get_setMany vs (i * 26) cur t htc
      rw [getElem!_pos _ t htm, if_neg (by omega), getElem!_pos cur t htc] at hgm
      rw [hgm]
      rw [hn] at htk
      have h1 := get_take htk (show t < n * 26 by omega)
      rw [Array.getElem?_eq_getElem htc] at h1
      rw [h1]
      have e1 : evs R = evs (R.take i) ++ evs (R.drop i) := by rw [← evs_append, List.take_append_drop]
      rw [e1, List.getElem?_append_left (by omega)]
    · rw [List.getElem?_eq_none (by rw [List.length_take, Array.length_toList]; omega), List.getElem?_eq_none (by omega)]

set_option maxHeartbeats 1000000 in
theorem idxf_any (ao : Option Addr) (m c : Nat) (R : List Ev) (k B : Nat) (F : Sf) (w : World) (hE : Evs w ao m c R) (hc : Sit w k B F) (hm : m ≤ 1000) :
    Calls Tryz.prog 193 #[.slice ao m c, .func (.func 155) #[] #[.pointer (some ⟨k, 0, none⟩)]] w fun e w' => ∃ i : Int, e = .returned (.int .i64 i) ∧ Aside ((i = -1 ∧ ∀ u ∈ R, badS F u = false) ∨ ∃ j : Nat, j < m ∧ i = (j : Int) ∧ (∀ u ∈ R.take j, badS F u = false) ∧ ∃ u, R[j]? = some u ∧ badS F u = true) ∧ Below w.heap.size w w' := by
  have hlen := hE.len
  have HE : Aside (Evs w ao m c R) := hE
  have HC : Hid (Sit w k B F) := hc
  clear hE hc
  go_enter Tryz.func193, Tryz.ntmps193
  go_wp2
  go_loopg [8] m (fun kx s8 wr => ∃ i : Nat, s8 = .int .i64 i ∧ i ≤ m ∧ m - i ≤ kx ∧ Aside ((∀ u ∈ R.take i, badS F u = false) ∧ Below w.heap.size w wr))
  case atStart => exact ⟨0, rfl, Nat.zero_le _, by omega, ⟨by simp, Below.refl _ _⟩⟩
  case round =>
    obtain ⟨i, rfl, him, hkx, HS⟩ := hrel
    by_cases hlt : i < m
    · have hltz : (i : Int) < (m : Int) := by omega
      obtain ⟨b, o, u, rfl, hui, hu, hr, hbl⟩ := (HE.out.below HS.out.2 (Nat.le_refl _)).at hlt
      have hix := fun W : World => index_ev W (b := b) (off := o) (k := i) (m := m) (c := c) hlt
      have hcr : Sit wr k B F := HC.out.below HS.out.2
      go_wp2_with (refine load_ev_mid rfl rfl rfl hr hu.1 ?_)
      refine (sitf_any u hu.1 k B F wr hcr).mono ?_
      rintro e w1 ⟨rfl, hb1⟩
      have hb1' : Below w.heap.size w w1 := HS.out.2.trans (hb1.mono HS.out.2.size)
      rcases Bool.eq_false_or_eq_true (badS F u) with hp | hp
      · have hp' : (badS F u) = true := hp
        have HR : Hid (Aside ((((i : Int)) = -1 ∧ ∀ u ∈ R, badS F u = false) ∨ ∃ j : Nat, j < m ∧ (i : Int) = (j : Int) ∧ (∀ u ∈ R.take j, badS F u = false) ∧ ∃ u, R[j]? = some u ∧ badS F u = true) ∧ Below w.heap.size w w1) := ⟨.inr ⟨i, hlt, rfl, HS.out.1, u, hui, hp⟩, hb1'⟩
        rw [hp']
        clear hb1 hb1' HS hcr hr hix hp hp'
        go_wp2
        go_ret
        exact ⟨_, rfl, HR.out⟩
      · have hp' : (badS F u) = false := hp
        have HS2 : Aside ((∀ u ∈ R.take (i + 1), badS F u = false) ∧ Below w.heap.size w w1) := by
          refine ⟨fun v hv => ?_, hb1'⟩
          rw [take_snoc hui] at hv
          rcases List.mem_append.1 hv with hv | hv
          · exact HS.out.1 v hv
          · rw [List.mem_singleton.1 hv]; exact hp
        rw [hp']
        clear hb1 hb1' HS hcr hr hix hp hp'
        go_wp2
        go_roundg (m - (i + 1))
        case measure => omega
        case rel => exact ⟨i + 1, by go_num, by omega, Nat.le_refl _, HS2⟩
    · obtain rfl : i = m := by omega
      have HR : Hid ((∀ u ∈ R, badS F u = false) ∧ Below w.heap.size w wr) := by
        have := HS.out
        rw [List.take_of_length_le (by omega)] at this
        exact this
      clear HS
      go_wp2
      go_ret
      exact ⟨_, rfl, .inl ⟨rfl, HR.out.1⟩, HR.out.2⟩

/-- On the way: what is kept lies ahead, the rest as it was. -/
structure Cmpd (F : Sf) (L R : List Ev) (i j : Nat) : Prop where
  len : R.length = L.length
  front : R.take i = (L.take j).filter (fun u => !badS F u)
  back : ∀ q, j ≤ q → R[q]? = L[q]?
  le : i < j
theorem Cmpd.start {F : Sf} {L : List Ev} {i : Nat} {u : Ev} (h1 : ∀ u ∈ L.take i, badS F u = false) (h2 : L[i]? = some u) (h3 : badS F u = true) : Cmpd F L L i (i + 1) := by
  refine ⟨rfl, ?_, fun _ _ => rfl, by omega⟩
  rw [take_snoc h2, List.filter_append, List.filter_cons, h3, List.filter_nil]
  simp only [Bool.not_true, Bool.false_eq_true, if_false, List.append_nil]
  exact (List.filter_eq_self.2 (fun v hv => by rw [h1 v hv]; rfl)).symm
theorem Cmpd.drop {F : Sf} {L R : List Ev} {i j : Nat} {u : Ev} (h : Cmpd F L R i j) (hu : L[j]? = some u) (hb : badS F u = true) : Cmpd F L R i (j + 1) := by
  have hle := h.le
  refine ⟨h.len, ?_, fun q hq => h.back q (by omega), by omega⟩
  rw [take_snoc hu, List.filter_append, List.filter_cons, hb, List.filter_nil]
  simp only [Bool.not_true, Bool.false_eq_true, if_false, List.append_nil]
  exact h.front
theorem Cmpd.keep {F : Sf} {L R : List Ev} {i j : Nat} {u : Ev} (h : Cmpd F L R i j) (hj : j < L.length) (hu : L[j]? = some u) (hb : badS F u = false) : Cmpd F L (R.set i u) (i + 1) (j + 1) := by
  have hl := h.len
  have hle := h.le
  refine ⟨by rw [List.length_set]; exact h.len, ?_, fun q hq => ?_, by omega⟩
  · have hi : (R.set i u)[i]? = some u := List.getElem?_set_self (by omega)
    rw [take_snoc hi, take_snoc hu, List.filter_append, List.filter_cons, hb, List.filter_nil, ← h.front]
    simp only [Bool.not_false, if_true]
    congr 1
    rw [List.take_set_of_le (Nat.le_refl _)]
  · rw [List.getElem?_set_ne (by omega)]
    exact h.back q (by omega)
theorem Cmpd.all {F : Sf} {L R : List Ev} {i j : Nat} (h : Cmpd F L R i j) (hj : L.length ≤ j) : R.take i = L.filter (fun u => !badS F u) := by
  rw [h.front, List.take_of_length_le hj]
theorem Cmpd.wide {F : Sf} {L R : List Ev} {i j : Nat} {u : Ev} (_h : Cmpd F L R i j) (hR : ∀ e ∈ R, Wide e) (hu : Wide u) : ∀ e ∈ R.set i u, Wide e := fun e he => (List.mem_or_eq_of_mem_set he).elim (hR e) (fun e1 => e1 ▸ hu)
theorem store_ev_at {ops : Array Oper} {rest : List Oper} {o : Oper} {a : Act} {w : World} {Q : Exit → Act → World → Prop} {x y : Operand} {g k : Nat} {e : Ev} (hl : e.deps.length = 16) (hgd : o.guard = none) (ho : o.op = .store 47 x y)
    (hx : a.eval x = .pointer (some ⟨g, k, none⟩)) (hy : a.eval y = .agg (evc e)) (hg : w.there g k 26)
    (h : wpList Tryz.prog ops Q rest (a.put o.dst undef) (w.setCells g k (evl e))) : wpList Tryz.prog ops Q (o :: rest) a w :=
  wpList_store_mid hgd 47 x y ho g k (evc e) hx hy (by rw [evc_size e hl]; exact hg) (size26 e hl) (evc_one e) h
theorem row_there {w : World} {base g n cap i : Nat} {R : List Ev} (h : Row w base (.slice (some ⟨g, 0, none⟩) n cap) R) (hn : R.length = n) (hi : i < n) : w.there g (i * 26) 26 := by
  rcases h.2 with ⟨hh, -⟩ | ⟨g', cap', cur, hv, hbg, hg, hnc, hcm, hcs, htk⟩
  · cases hh
  · simp only [Value.slice.injEq, Option.some.injEq, Addr.mk.injEq, and_true] at hv
    obtain ⟨rfl, h1, rfl⟩ := hv
    intro j hj
    have hlt : i * 26 + j < cur.size := by omega
    refine ⟨?_, frozen_of_row w g _ _ _ hg⟩
    rw [cell_of_row w g _ _ _ _ hg, Array.getElem?_eq_getElem hlt]
    rfl

theorem zero_one (k : Nat) : ∀ v ∈ (Builtin.zeroCells (evc zv) k).toList, v.oneCell' = true := by
  intro v hv
  have h1 := evc_one zv
  rw [Array.all_eq_true_iff_forall_mem] at h1
  simp only [Builtin.zeroCells, Array.toList_map, List.mem_map] at hv
  obtain ⟨t, -, rfl⟩ := hv
  have ht : t % (evc zv).size < (evc zv).size := Nat.mod_lt _ (by decide)
  rw [getElem!_pos (evc zv) _ ht]
  exact h1 _ (Array.getElem_mem ht)
theorem clear_any {w : World} {base g n cap i : Nat} {R : List Ev} (h : Row w base (.slice (some ⟨g, 0, none⟩) n cap) R) (hn : R.length = n) (hi : i < n) (ty : TypeId) :
    (Builtin.clear_ #[22] ty #[.slice (some ⟨g, i * 26, none⟩) (n - i) (cap - i)]).run Tryz.prog w = .ok (.tuple #[]) (w.setCells g (i * 26) (Builtin.zeroCells (evc zv) (n - i)).toList) := by
  have ht : Tryz.prog.underlying 22 = some (.slice 47) := Tryz.underlying22
  have hz : ∀ w, (zeroValue 47).run Tryz.prog w = .ok (.agg (evc zv)) w := Tryz.zeroValue47
  have hlen : (Builtin.zeroCells (evc zv) (n - i)).toList.length = (n - i) * 26 := by simp [Builtin.zeroCells, evc_size zv rfl]
  rcases h.2 with ⟨hh, -⟩ | ⟨g', cap', cur, hv, hbg, hg, hnc, hcm, hcs, htk⟩
  · cases hh
  · simp only [Value.slice.injEq, Option.some.injEq, Addr.mk.injEq, and_true] at hv
    obtain ⟨rfl, h1, rfl⟩ := hv
    have hst := run_storeCells_cells (P := Tryz.prog) g (i * 26) (Builtin.zeroCells (evc zv) (n - i)).toList 0 w (fun j hj => by
      rw [hlen] at hj
      have hlt : i * 26 + j < cur.size := by
        have : n * 26 ≤ cur.size := by omega
        omega
      rw [Nat.add_zero, cell_of_row w g _ _ _ _ hg, Array.getElem?_eq_getElem hlt]
      rfl) (fun j _ => frozen_of_row w g _ _ _ hg) (zero_one _)
    simp only [Nat.add_zero] at hst
    obtain ⟨q, hq⟩ : ∃ q, n - i = q + 1 := ⟨n - i - 1, by omega⟩
    rw [hq] at hst ⊢
    simp [Builtin.clear_, run_underlying ht, hz, Value.cells, hst]
theorem below_put {B b : Nat} {a : World} (hb : B ≤ b) : ∀ (vs : List Value) (o : Nat) (w : World), Below B a w → Below B a (w.setCells b o vs)
  | [], _, _, h => h
  | v :: r, o, _, h => below_put hb r (o + 1) _ (h.setCell (p := ⟨b, o, none⟩) hb v)
theorem slice_own (w : World) {g n cap i : Nat} (hi : i < n) (hn : n ≤ cap) : (Instr.sliceAt 22 (.slice (some ⟨g, 0, none⟩) n cap) (some (.int .i64 (i : Int))) none none).run Tryz.prog w = .ok (.slice (some ⟨g, i * 26, none⟩) (n - i) (cap - i)) w := by
  rw [slice_from w (by omega), dropA, if_neg (by omega)]
  show Result.ok (Value.slice (some (Addr.add ⟨g, 0, none⟩ (i * 26))) (n - i) (cap - i)) w = _
  rw [Addr.add_mid, Nat.zero_add]
theorem row_head {w : World} {base : Nat} {v : Value} {L : List Ev} (h : Row w base v L) : (v = .slice none 0 0 ∧ L = []) ∨ ∃ g cap, v = .slice (some ⟨g, 0, none⟩) L.length cap ∧ base ≤ g ∧ g < w.heap.size ∧ L.length ≤ cap ∧ v.ownBlock = some g := by
  rcases h.2 with ⟨rfl, h0⟩ | ⟨g, cap, cur, rfl, hb, hg, hnc, hcm, hcs, htake⟩
  · exact .inl ⟨rfl, List.eq_nil_of_length_eq_zero h0⟩
  · exact .inr ⟨g, cap, rfl, hb, (Array.getElem?_eq_some_iff.1 hg).1, hnc, rfl⟩
theorem delf_none (base : Nat) (L : List Ev) (ao : Option Addr) (n c : Nat) (k B : Nat) (F : Sf) (w : World) (hR : Row w base (.slice ao n c) L) (hE : Evs w ao n c L) (hL : n ≤ 1000) (hc : Sit w k B F) (hb : base ≤ w.heap.size) (hno : ∀ u ∈ L, badS F u = false) :
    Calls Tryz.prog 153 #[.slice ao n c, .func (.func 155) #[] #[.pointer (some ⟨k, 0, none⟩)]] w fun e w' => ∃ v', e = .returned v' ∧ Row w' base v' (L.filter fun u => !badS F u) ∧ Below base w w' := by
  have HR : Aside (Row w base (.slice ao n c) (L.filter fun u => !badS F u)) := by
    show Row _ _ _ _
    rw [List.filter_eq_self.2 (fun v hv => by rw [hno v hv]; rfl)]
    exact hR
  have hlen := hE.len
  have HN : Hid (∀ u ∈ L, badS F u = false) := hno
  clear hR hno
  go_enter Tryz.func153, Tryz.ntmps153
  go_wp2_with fail
  refine (idxf_any ao n c L k B F w hE hc hL).mono ?_
  rintro e w1 ⟨i, rfl, HI, hb1⟩
  have hi : i = -1 := by
    rcases HI.out with ⟨h, -⟩ | ⟨j, hj, -, -, u, hu, hb⟩
    · exact h
    · rw [HN.out u (List.mem_of_getElem? hu)] at hb
      cases hb
  subst hi
  have HF : Hid (Row w1 base (.slice ao n c) (L.filter fun u => !badS F u) ∧ Below base w w1) := ⟨HR.out.below hb1 (Nat.le_refl _), hb1.mono hb⟩
  clear HI HN HR hE hc hb1
  go_wp2
  go_ret
  exact ⟨_, rfl, HF.out⟩
set_option maxHeartbeats 1000000 in
theorem delf_some (base : Nat) (L : List Ev) (g n cap : Nat) (k B : Nat) (F : Sf) (w : World) (hR : Row w base (.slice (some ⟨g, 0, none⟩) n cap) L) (hE : Evs w (some ⟨g, 0, none⟩) n cap L) (hL : n ≤ 1000) (hcap : n ≤ cap) (hc : Sit w k B F) (hb : base ≤ g) (hg : g < w.heap.size) (hkg : k ≠ g ∧ B ≠ g ∧ F.m ≠ some g) (hyes : ¬ ∀ u ∈ L, badS F u = false) :
    Calls Tryz.prog 153 #[.slice (some ⟨g, 0, none⟩) n cap, .func (.func 155) #[] #[.pointer (some ⟨k, 0, none⟩)]] w fun e w' => ∃ v', e = .returned v' ∧ Row w' base v' (L.filter fun u => !badS F u) ∧ Below base w w' := by
  have hlen := hE.len
  have HN : Hid (¬ ∀ u ∈ L, badS F u = false) := hyes
  have HR : Hid (Row w base (.slice (some ⟨g, 0, none⟩) n cap) L) := hR
  have HK : Hid ((k ≠ g ∧ B ≠ g ∧ F.m ≠ some g) ∧ base ≤ g ∧ g < w.heap.size) := ⟨hkg, hb, hg⟩
  have HW : Hid (∀ e ∈ L, Wide e) := hE.wide
  have HC : Hid (Sit w k B F) := hc
  clear hR hyes hkg
  go_enter Tryz.func153, Tryz.ntmps153
  go_wp2_with fail
  refine (idxf_any _ n cap L k B F w hE hc hL).mono ?_
  rintro e w1 ⟨i, rfl, HI, hb1⟩
  obtain ⟨i0, hi0, rfl, h1, u0, hu0, hbad0⟩ : ∃ j : Nat, j < n ∧ i = (j : Int) ∧ (∀ u ∈ L.take j, badS F u = false) ∧ ∃ u, L[j]? = some u ∧ badS F u = true := by
    rcases HI.out with ⟨-, h⟩ | h
    · exact absurd h HN.out
    · exact h
  have H0 : Aside (Row w1 base (.slice (some ⟨g, 0, none⟩) n cap) L ∧ Cmpd F L L i0 (i0 + 1) ∧ (∀ e ∈ L, Wide e) ∧ Below base w w1 ∧ Sit w1 k B F) :=
    ⟨HR.out.below hb1 (Nat.le_refl _), Cmpd.start h1 hu0 hbad0, HW.out, hb1.mono (by omega), HC.out.below hb1⟩
  clear HI HN HR hE hc hb1 h1 hu0 hbad0 HC HW hb hg
  have hne : ((i0 : Int) == -1) = false := by simp
  go_wp2
  go_loopg [5, 6] n (fun kx s5 s6 wr => ∃ (i j : Nat) (R : List Ev), s5 = .int .i64 i ∧ s6 = .int .i64 j ∧ i < j ∧ j ≤ n ∧ n - j ≤ kx ∧ Aside (Row wr base (.slice (some ⟨g, 0, none⟩) n cap) R ∧ Cmpd F L R i j ∧ (∀ e ∈ R, Wide e) ∧ Below base w wr ∧ Sit wr k B F))
  case atStart => exact ⟨i0, i0 + 1, L, rfl, by go_num, by omega, by omega, by omega, H0⟩
  case round =>
    clear H0 hne
    obtain ⟨i, j, R, rfl, rfl, hij, hjn, hkx, HS⟩ := hrel
    by_cases hlt : j < n
    · have hltz : (j : Int) < (n : Int) := by omega
      have hRl : R.length = n := by rw [HS.out.2.1.len]; exact hlen
      obtain ⟨ao', c', hv', hE'⟩ := HS.out.1.evs HS.out.2.2.1
      rw [hRl] at hv' hE'
      obtain ⟨rfl, -, rfl⟩ : some ⟨g, 0, none⟩ = ao' ∧ n = n ∧ cap = c' := by simpa using hv'
      obtain ⟨b, o, u, hbo, hui, hu, hr, hbl⟩ := hE'.at hlt
      obtain ⟨rfl, rfl⟩ : g = b ∧ 0 = o := by simpa using hbo
      have hu16 := hu.1
      have hLj : L[j]? = some u := by rw [← HS.out.2.1.back j (Nat.le_refl _)]; exact hui
      have hix := fun W : World => index_ev W (b := g) (off := 0) (k := j) (m := n) (c := cap) hlt
      simp only [Nat.zero_add] at hix hr
      have hz := liesE_new wr zv
      have hE1 : LiesE ((wr.alloc (.cells (evc zv) 47)).setRow wr.heap.size (evc u)) wr.heap.size u := hz.row u
      have hB1 : Below wr.heap.size wr ((wr.alloc (.cells (evc zv) 47)).setRow wr.heap.size (evc u)) := below_setRow ((Below.refl _ _).alloc (Nat.le_refl _) _) (Nat.le_refl _) _
      have hgw : g < wr.heap.size := hbl
      have HS1 : Aside (Row ((wr.alloc (.cells (evc zv) 47)).setRow wr.heap.size (evc u)) base (.slice (some ⟨g, 0, none⟩) n cap) R ∧ Cmpd F L R i j ∧ (∀ e ∈ R, Wide e) ∧ Below base w ((wr.alloc (.cells (evc zv) 47)).setRow wr.heap.size (evc u)) ∧ Sit ((wr.alloc (.cells (evc zv) 47)).setRow wr.heap.size (evc u)) k B F ∧ LiesE ((wr.alloc (.cells (evc zv) 47)).setRow wr.heap.size (evc u)) wr.heap.size u) :=
        ⟨HS.out.1.below hB1 (Nat.le_refl _), HS.out.2.1, HS.out.2.2.1, HS.out.2.2.2.1.trans (hB1.mono (by have := HK.out.2.1; omega)), HS.out.2.2.2.2.below hB1, hE1⟩
      clear hB1 hE' hv' hbo
      go_upto_region 8 with (first | refine load_ev_mid rfl rfl rfl hr hu16 ?_ | refine store_ev rfl rfl rfl rfl hz hu16 rfl ?_)
      change Code.wp _ _ _ _ ((wr.alloc (.cells (evc zv) 47)).setRow wr.heap.size (evc u))
      clear hE1 hz hr hix HS hbl
      generalize (wr.alloc (.cells (evc zv) 47)).setRow wr.heap.size (evc u) = W at HS1 ⊢
      have hgD : Hid (g ≠ wr.heap.size ∧ g < wr.heap.size) := ⟨by omega, hgw⟩
      clear hgw
      generalize wr.heap.size = D at *
      have hE1 := HS1.out.2.2.2.2.2
      go_wp2_with (refine load_ev rfl rfl rfl hE1 hu16 ?_)
      refine (sitf_any u hu.1 k B F W HS1.out.2.2.2.2.1).mono ?_
      rintro e w2 ⟨rfl, hb2⟩
      have hE2 : LiesE w2 D u := hE1.below hb2 hE1.lt
      have HS2 : Aside (Row w2 base (.slice (some ⟨g, 0, none⟩) n cap) R ∧ Cmpd F L R i j ∧ (∀ e ∈ R, Wide e) ∧ Below base w w2 ∧ Sit w2 k B F) :=
        ⟨HS1.out.1.below hb2 (Nat.le_refl _), HS1.out.2.1, HS1.out.2.2.1, HS1.out.2.2.2.1.trans (hb2.mono (by have := HK.out; have := hgD.out; have := hE1.lt; omega)), HS1.out.2.2.2.2.1.below hb2⟩
      rcases Bool.eq_false_or_eq_true (badS F u) with hp | hp
      · have hp' : (badS F u) = true := hp
        have HS3 : Aside (Row w2 base (.slice (some ⟨g, 0, none⟩) n cap) R ∧ Cmpd F L R i (j + 1) ∧ (∀ e ∈ R, Wide e) ∧ Below base w w2 ∧ Sit w2 k B F) := ⟨HS2.out.1, HS2.out.2.1.drop hLj hp, HS2.out.2.2⟩
        rw [hp']
        clear hp hp' HS1 HS2 hE1 hE2 hb2 hLj hui
        go_wp2
        go_roundg (n - (j + 1))
        case measure => omega
        case rel => exact ⟨i, j + 1, R, rfl, by go_num, by omega, by omega, Nat.le_refl _, HS3⟩
      · have hp' : (badS F u) = false := hp
        have hin : i < n := by omega
        have hinz : (i : Int) < (n : Int) := by omega
        have hth := row_there HS2.out.1 hRl hin
        have hix := fun W : World => index_ev W (b := g) (off := 0) (k := i) (m := n) (c := cap) hin
        simp only [Nat.zero_add] at hix
        have HS3 : Aside (Row (w2.setCells g (i * 26) (evl u)) base (.slice (some ⟨g, 0, none⟩) n cap) (R.set i u) ∧ Cmpd F L (R.set i u) (i + 1) (j + 1) ∧ (∀ e ∈ R.set i u, Wide e) ∧ Below base w (w2.setCells g (i * 26) (evl u)) ∧ Sit (w2.setCells g (i * 26) (evl u)) k B F) :=
          ⟨row_put HS2.out.1 hRl HS2.out.2.2.1 hu, HS2.out.2.1.keep (by omega) hLj hp, HS2.out.2.1.wide HS2.out.2.2.1 hu, below_put HK.out.2.1 _ _ _ HS2.out.2.2.2.1, HS2.out.2.2.2.2.put HK.out.1 _ _⟩
        rw [hp']
        clear hp hp' HS1 HS2 hE1 hb2 hLj hui
        go_wp2_with (first | refine load_ev rfl rfl rfl hE2 hu16 ?_ | refine store_ev_at hu16 rfl rfl rfl rfl hth ?_)
        go_roundg (n - (j + 1))
        case measure => omega
        case rel => exact ⟨i + 1, j + 1, R.set i u, by go_num, by go_num, by omega, by omega, Nat.le_refl _, HS3⟩
    · obtain rfl : j = n := by omega
      have hRl : R.length = j := by rw [HS.out.2.1.len]; exact hlen
      have hin : i ≤ cap := by omega
      have hinz : (i : Int) < (j : Int) := by omega
      have hcl := clear_any HS.out.1 hRl hij
      have hs1 := fun W : World => slice_own W (g := g) hij hcap
      have hs2 := fun W : World => slice_at W (ao := some ⟨g, 0, none⟩) (m := j) hin
      have HF : Hid (Row (wr.setCells g (i * 26) (Builtin.zeroCells (evc zv) (j - i)).toList) base (.slice (some ⟨g, 0, none⟩) i cap) (L.filter fun u => !badS F u) ∧ Below base w (wr.setCells g (i * 26) (Builtin.zeroCells (evc zv) (j - i)).toList)) :=
        ⟨by rw [← HS.out.2.1.all (by omega)]; exact row_cut HS.out.1 hRl HS.out.2.2.1 (by omega), below_put HK.out.2.1 _ _ _ HS.out.2.2.2.1⟩
      clear HS
      go_wp2
      go_ret
      exact ⟨_, rfl, HF.out⟩
theorem delf_any (base : Nat) (v : Value) (L : List Ev) (k B : Nat) (F : Sf) (w : World) (hR : Row w base v L) (hW : ∀ e ∈ L, Wide e) (hL : L.length ≤ 1000) (hc : Sit w k B F) (hb : base ≤ w.heap.size) (hk : ∀ g, v.ownBlock = some g → k ≠ g ∧ B ≠ g ∧ F.m ≠ some g) :
    Calls Tryz.prog 153 #[v, .func (.func 155) #[] #[.pointer (some ⟨k, 0, none⟩)]] w fun e w' => ∃ v', e = .returned v' ∧ Row w' base v' (L.filter fun u => !badS F u) ∧ Below base w w' := by
  obtain ⟨ao, c, rfl, hE⟩ := hR.evs hW
  by_cases hno : ∀ u ∈ L, badS F u = false
  · exact delf_none base L ao _ c k B F w hR hE hL hc hb hno
  · rcases row_head hR with ⟨-, rfl⟩ | ⟨g, cap, hv, hbg, hgw, hlc, ho⟩
    · exact absurd (fun u hu => by cases hu) hno
    · obtain ⟨rfl, rfl⟩ : ao = some ⟨g, 0, none⟩ ∧ c = cap := by simpa using hv
      exact delf_some base L g _ c k B F w hR hE hL hlc hc hbg hgw (hk g ho) hno
end S16
end Go.Proofs.YtmlfekbmbnfkjabGreatDoor

/-
  What Keys of a space comes to: of the names those that have a type. slices.DeleteFunc of texts.
-/
namespace Go.Proofs.YtmlfekbmbnfkjabGreatDoor
set_option maxRecDepth 100000
open Go.RowKit Go.Shelf Go.Sort

section
variable {w : World} {base g n cap i : Nat} {R : List (List UInt8)}
end

/-! On the way: what is kept lies ahead, the rest as it was. -/
structure Kmpd (p : List UInt8 → Bool) (L R : List (List UInt8)) (i j : Nat) : Prop where
  len : R.length = L.length
  front : R.take i = (L.take j).filter (fun u => !p u)
  back : ∀ q, j ≤ q → R[q]? = L[q]?
  le : i < j
theorem Kmpd.start {p : List UInt8 → Bool} {L : List (List UInt8)} {i : Nat} {u : List UInt8} (h1 : ∀ u ∈ L.take i, p u = false) (h2 : L[i]? = some u) (h3 : p u = true) : Kmpd p L L i (i + 1) := by
  refine ⟨rfl, ?_, fun _ _ => rfl, by omega⟩
  rw [List.take_add_one, h2, Option.toList_some, List.filter_append, List.filter_cons, h3, List.filter_nil]
  simp only [Bool.not_true, Bool.false_eq_true, if_false, List.append_nil]
  exact (List.filter_eq_self.2 (fun v hv => by rw [h1 v hv]; rfl)).symm
theorem Kmpd.drop {p : List UInt8 → Bool} {L R : List (List UInt8)} {i j : Nat} {u : List UInt8} (h : Kmpd p L R i j) (hu : L[j]? = some u) (hb : p u = true) : Kmpd p L R i (j + 1) := by
  have hle := h.le
  refine ⟨h.len, ?_, fun q hq => h.back q (by omega), by omega⟩
  rw [List.take_add_one, hu, Option.toList_some, List.filter_append, List.filter_cons, hb, List.filter_nil]
  simp only [Bool.not_true, Bool.false_eq_true, if_false, List.append_nil]
  exact h.front
theorem Kmpd.keep {p : List UInt8 → Bool} {L R : List (List UInt8)} {i j : Nat} {u : List UInt8} (h : Kmpd p L R i j) (hj : j < L.length) (hu : L[j]? = some u) (hb : p u = false) : Kmpd p L (R.set i u) (i + 1) (j + 1) := by
  have hl := h.len
  have hle := h.le
  refine ⟨by rw [List.length_set]; exact h.len, ?_, fun q hq => ?_, by omega⟩
  · have hi : (R.set i u)[i]? = some u := List.getElem?_set_self (by omega)
    rw [List.take_add_one, hi, List.take_add_one, hu, Option.toList_some, List.filter_append, List.filter_cons, hb, List.filter_nil, ← h.front]
    simp only [Bool.not_false, if_true]
    congr 1
    rw [List.take_set_of_le (Nat.le_refl _)]
  · rw [List.getElem?_set_ne (by omega)]
    exact h.back q (by omega)
theorem Kmpd.all {p : List UInt8 → Bool} {L R : List (List UInt8)} {i j : Nat} (h : Kmpd p L R i j) (hj : L.length ≤ j) : R.take i = L.filter (fun u => !p u) := by
  rw [h.front, List.take_of_length_le hj]

end Go.Proofs.YtmlfekbmbnfkjabGreatDoor

/-
  What Keys of a space comes to.
-/
namespace Go.Proofs.YtmlfekbmbnfkjabGreatDoor
set_option maxRecDepth 100000
open Go.RowKit

end Go.Proofs.YtmlfekbmbnfkjabGreatDoor

/-
  orNew.
-/
namespace Go.Proofs.YtmlfekbmbnfkjabGreatDoor
set_option maxRecDepth 100000
open Go.RowKit

theorem ornew_some (ad : Addr) (w : World) : Calls Tryz.prog 16 #[.pointer (some ad)] w fun x w' => x = .returned (.pointer (some ad)) ∧ Below w.heap.size w w' := by
  have he := eql_ps w ad
  go_enter Tryz.func16, Tryz.ntmps16
  go_wp2
  go_ret
  exact ⟨rfl, Below.refl _ _⟩
end Go.Proofs.YtmlfekbmbnfkjabGreatDoor

/-
  What a space is behind events each of which was ready: what it keeps is what is live of them, and the nodes that were ended.
-/
namespace Go.Proofs.YtmlfekbmbnfkjabGreatDoor
set_option maxRecDepth 100000
open Go.RowKit

def seenS (l : List Ev) : St := l.foldl seeE st0
theorem seenS_snoc (l : List Ev) (e : Ev) : seenS (l ++ [e]) = seeE (seenS l) e := by simp [seenS]
/-- Each was ready. -/
inductive Came : List Ev → Prop
  | nil : Came []
  | snoc {l : List Ev} {e : Ev} : Came l → Wide e → readyE (seenS l) e = true → Came (l ++ [e])
theorem Came.wide {l : List Ev} (h : Came l) : ∀ a ∈ l, Wide a := by
  induction h with
  | nil => simp
  | snoc _ hw _ ih =>
    intro a ha
    rcases List.mem_append.1 ha with h1 | h1
    · exact ih a h1
    · rw [List.mem_singleton.1 h1]; exact hw
theorem Came.inv {l : List Ev} (h : Came l) : Inv (seenS l) := by
  induction h with
  | nil => exact inv0
  | snoc _ hw hr ih => rw [seenS_snoc]; exact inv_see ih hw hr
theorem ready_facts {s : St} {e : Ev} (hI : Inv s) (hw : Wide e) (h : readyE s e = true) :
    okev e = true ∧ okdot e.r e.n = true ∧ e.n = s.seen.getD e.r.toNat 0 + 1 ∧ ∀ k, k < 16 → e.deps.getD k 0 ≤ s.seen.getD k 0 := by
  unfold readyE at h
  simp only [Bool.and_eq_true, decide_eq_true_eq] at h
  obtain ⟨h1, h2, h3⟩ := h
  obtain ⟨h4, h5⟩ := with_zero h2
  refine ⟨h1, h4, h5, fun k hk => ?_⟩
  rcases max_get hI.len hw.1 h3 k with h6 | h6
  · exact h6
  · omega
theorem see_mono {s : St} {e : Ev} (hI : Inv s) (hw : Wide e) (h : readyE s e = true) {r n : Int} (hh : hasv s.seen r n = true) : hasv (seeE s e).seen r n = true := by
  obtain ⟨-, h2, h3, -⟩ := ready_facts hI hw h
  have hd := okdot_iff.1 h2
  have hl := hI.len
  show hasv (s.seen.set e.r.toNat e.n) r n = true
  rw [hasv_iff] at hh ⊢
  refine ⟨hh.1, ?_⟩
  rw [getD_set (by omega)]
  split
  · rename_i e1
    rw [← e1] at hh
    omega
  · exact hh.2
theorem see_self {s : St} {e : Ev} (hI : Inv s) (hw : Wide e) (h : readyE s e = true) : hasv (seeE s e).seen e.r e.n = true := by
  obtain ⟨-, h2, h3, -⟩ := ready_facts hI hw h
  have hd := okdot_iff.1 h2
  have hl := hI.len
  show hasv (s.seen.set e.r.toNat e.n) e.r e.n = true
  rw [hasv_iff]
  refine ⟨h2, ?_⟩
  rw [getD_set (by omega), if_pos rfl]
  exact Int.le_refl _
theorem ready_deps {s : St} {e : Ev} (hI : Inv s) (hw : Wide e) (h : readyE s e = true) {r n : Int} (hh : hasv e.deps r n = true) : hasv s.seen r n = true := by
  obtain ⟨-, -, -, h4⟩ := ready_facts hI hw h
  rw [hasv_iff] at hh ⊢
  have hd := okdot_iff.1 hh.1
  have := h4 r.toNat (by omega)
  exact ⟨hh.1, by omega⟩
theorem ready_new {s : St} {e : Ev} (hw : Wide e) (h : readyE s e = true) : hasv s.seen e.r e.n = false := (ready_rdy hw h).new
theorem Came.dots {l : List Ev} (h : Came l) : ∀ a ∈ l, hasv (seenS l).seen a.r a.n = true := by
  induction h with
  | nil => simp
  | snoc hc hw hr ih =>
    intro a ha
    rw [seenS_snoc]
    rcases List.mem_append.1 ha with h1 | h1
    · exact see_mono hc.inv hw hr (ih a h1)
    · rw [List.mem_singleton.1 h1]; exact see_self hc.inv hw hr
theorem Came.deps {l : List Ev} (h : Came l) : ∀ b ∈ l, ∀ r n, hasv b.deps r n = true → hasv (seenS l).seen r n = true := by
  induction h with
  | nil => simp
  | snoc hc hw hr ih =>
    intro b hb r n hh
    rw [seenS_snoc]
    rcases List.mem_append.1 hb with h1 | h1
    · exact see_mono hc.inv hw hr (ih b h1 r n hh)
    · rw [List.mem_singleton.1 h1] at hh
      exact see_mono hc.inv hw hr (ready_deps hc.inv hw hr hh)
theorem Came.ok {l : List Ev} (h : Came l) : ∀ a ∈ l, okev a = true := by
  induction h with
  | nil => simp
  | snoc hc hw hr ih =>
    intro a ha
    rcases List.mem_append.1 ha with h1 | h1
    · exact ih a h1
    · rw [List.mem_singleton.1 h1]; exact (ready_facts hc.inv hw hr).1
theorem Came.unlike {l : List Ev} (h : Came l) : Unlike l := by
  induction h with
  | nil => exact List.Pairwise.nil
  | snoc hc hw hr ih =>
    unfold Unlike at *
    rw [List.pairwise_append]
    refine ⟨ih, List.pairwise_singleton _ _, fun a ha b hb hs => ?_⟩
    rw [List.mem_singleton.1 hb] at hs
    have h1 := hc.dots a ha
    rw [hs.1, hs.2, ready_new hw hr] at h1
    cases h1
/-- Nothing that was seen ends what is new, nor does it end itself. -/
theorem Came.endsNone {l : List Ev} {e : Ev} (h : Came l) (hw : Wide e) (hr : readyE (seenS l) e = true) : ∀ b ∈ l ++ [e], endsE b e = false := by
  intro b hb
  refine ends_covers ?_
  cases hh : hasv b.deps e.r e.n
  · rfl
  · have h1 : hasv (seenS l).seen e.r e.n = true := by
      rcases List.mem_append.1 hb with h1 | h1
      · exact h.deps b h1 _ _ hh
      · rw [List.mem_singleton.1 h1] at hh
        exact ready_deps h.inv hw hr hh
    rw [ready_new hw hr] at h1
    cases h1
theorem isLive_snoc (l : List Ev) (x a : Ev) : isLive (l ++ [x]) a = (isLive l a && !endsE x a) := by
  unfold isLive
  rw [List.any_append]
  simp [Bool.and_assoc]
theorem live_step {l : List Ev} {e : Ev} (h : Came l) (hw : Wide e) (hr : readyE (seenS l) e = true) :
    liveE (l ++ [e]) = (liveE l).filter (fun a => !endsE e a) ++ (if addsE e.kind then [e] else []) := by
  have hn := h.endsNone hw hr
  have h0 : isLive (l ++ [e]) e = addsE e.kind := by
    unfold isLive
    rw [List.any_eq_false.2 (fun b hb => by rw [hn b hb]; simp)]
    simp
  unfold liveE
  rw [List.filter_append]
  congr 1
  · rw [List.filter_filter]
    refine List.filter_congr fun a _ => ?_
    rw [isLive_snoc, Bool.and_comm]
  · cases ha : addsE e.kind
    · rw [List.filter_cons_of_neg (by rw [h0, ha]; simp)]; rfl
    · rw [List.filter_cons_of_pos (by rw [h0, ha])]; rfl
theorem Came.live {l : List Ev} (h : Came l) : (seenS l).L.Perm (liveE l) := by
  induction h with
  | nil => exact List.Perm.refl _
  | @snoc l e hc hw hr ih =>
    rw [live_step hc hw hr, seenS_snoc]
    have h1 := ih.filter (fun a => !endsE e a)
    have hnd := hc.inv.noDot (ready_rdy hw hr)
    show (if addsE e.kind then putE ((seenS l).L.filter fun a => !endsE e a) e else (seenS l).L.filter fun a => !endsE e a).Perm _
    cases ha : addsE e.kind
    · simp only [Bool.false_eq_true, if_false, List.append_nil]
      exact h1
    · simp only [if_true]
      refine (putE_perm (fun a ha => hnd a (List.mem_filter.1 ha).1)).trans ?_
      refine (List.Perm.cons e h1).trans ?_
      exact (List.perm_append_comm (l₁ := [e]))
theorem Came.mem {l : List Ev} (h : Came l) {a : Ev} : a ∈ (seenS l).L ↔ a ∈ l ∧ isLive l a = true := by
  rw [h.live.mem_iff]
  unfold liveE
  exact List.mem_filter
theorem Came.unlikeL {l : List Ev} (h : Came l) : Unlike (seenS l).L := h.inv.srL.unlike
theorem Came.allL {l : List Ev} (h : Came l) : allE (seenS l).L = allE l := by
  have h1 : liveE (seenS l).L = (seenS l).L := List.filter_eq_self.2 fun a ha => live_part (fun b hb => (h.mem.1 hb).1) (h.mem.1 ha).2
  unfold allE
  rw [h1]
  exact srt_order h.live h.unlikeL
theorem Came.type {l : List Ev} (h : Came l) (key : Key) : typeE (ofKeyE key (seenS l).L) key = typeE l key := by
  rw [type_key]
  unfold typeE
  rw [h.allL]
theorem Came.of {l : List Ev} (h : Came l) (key : Key) : ofE (ofKeyE key (seenS l).L) key = ofE l key := by
  rw [of_key]
  unfold ofE
  rw [h.allL]
  unfold typeE
  rw [h.allL]
/-- The nodes that were ended. -/
def endedE (l : List Ev) : List Ev := l.filter fun a => decide (a.kind = 9) && l.any fun b => endsE b a
theorem dead_perm {e : Ev} : ∀ (L : List Ev) (DL : List Ed), (∀ a ∈ L, noDotD DL a) → L.Pairwise (fun a b => ¬ sameDot a b) →
    ((deadTo e L DL).map Ed.push).Perm (DL.map Ed.push ++ L.filter (fell e))
  | [], DL, _, _ => by simp [deadTo]
  | a :: L, DL, hn, hp => by
    obtain ⟨p1, p2⟩ := List.pairwise_cons.1 hp
    have hstep : deadTo e (a :: L) DL = deadTo e L (if fell e a then putD DL ⟨a, e.r, e.n⟩ else DL) := rfl
    have hn' : ∀ b ∈ L, noDotD (if fell e a then putD DL ⟨a, e.r, e.n⟩ else DL) b := fun b hb d hd => by
      split at hd
      · rcases mem_putD hd with rfl | hd
        · exact p1 b hb
        · exact hn b (by simp [hb]) d hd
      · exact hn b (by simp [hb]) d hd
    rw [hstep]
    refine (dead_perm L _ hn' p2).trans ?_
    cases hf : fell e a
    · rw [List.filter_cons_of_neg (by rw [hf]; simp)]
      exact List.Perm.refl _
    · rw [List.filter_cons_of_pos hf]
      simp only [if_true]
      refine (((putD_perm (d := ⟨a, e.r, e.n⟩) (hn a (by simp))).map Ed.push).append_right _).trans ?_
      rw [List.map_cons]
      exact (List.perm_middle (l₁ := DL.map Ed.push) (a := a)).symm
theorem ended_snoc {l : List Ev} {e : Ev} (h : Came l) (hw : Wide e) (hr : readyE (seenS l) e = true) :
    (endedE (l ++ [e])).Perm (endedE l ++ (liveE l).filter (fell e)) := by
  have hn := h.endsNone hw hr
  have h1 : endedE (l ++ [e]) = l.filter fun a => (decide (a.kind = 9) && l.any fun b => endsE b a) || (isLive l a && fell e a) := by
    unfold endedE
    rw [List.filter_append, List.filter_cons_of_neg (by rw [List.any_eq_false.2 (fun b hb => by rw [hn b hb]; simp)]; simp), List.filter_nil, List.append_nil]
    refine List.filter_congr fun a _ => ?_
    rw [List.any_append]
    unfold isLive fell
    by_cases hk : a.kind = 9
    · have ha : addsE a.kind = true := by unfold addsE; simp [hk]
      rw [ha]
      simp only [hk, decide_true, Bool.true_and, Bool.and_true, List.any_cons, List.any_nil, Bool.or_false]
      cases l.any (fun b => endsE b a) <;> simp
    · simp [hk]
  rw [h1]
  unfold endedE liveE
  rw [List.filter_filter]
  refine (filter_or_perm _ _ l fun a _ hh => ?_).symm.trans (List.Perm.append (List.Perm.refl _) (List.Perm.of_eq (List.filter_congr fun a _ => Bool.and_comm _ _)))
  obtain ⟨h2, h3⟩ := hh
  simp only [Bool.and_eq_true] at h2 h3
  have h4 := h3.1
  unfold isLive at h4
  rw [h2.2] at h4
  simp at h4
theorem Came.dead {l : List Ev} (h : Came l) : ((seenS l).DL.map Ed.push).Perm (endedE l) := by
  induction h with
  | nil => exact List.Perm.refl _
  | @snoc l e hc hw hr ih =>
    rw [seenS_snoc]
    show ((deadTo e (seenS l).L (seenS l).DL).map Ed.push).Perm _
    refine (dead_perm (seenS l).L (seenS l).DL hc.inv.apart hc.unlikeL).trans ?_
    refine (List.Perm.append ih (hc.live.filter (fell e))).trans ?_
    exact (ended_snoc hc hw hr).symm
end Go.Proofs.YtmlfekbmbnfkjabGreatDoor

