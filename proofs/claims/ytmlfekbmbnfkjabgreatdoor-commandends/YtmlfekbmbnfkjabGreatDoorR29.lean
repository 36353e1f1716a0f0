/-
  What slices.DeleteFunc of events comes to.
-/
import Derived.Test.YtmlfekbmbnfkjabGreatDoorR28
import Derived.Test.YtmlfekbmbnfkjabGreatDoorR03
import Derived.Test.YtmlfekbmbnfkjabGreatDoorR09
namespace Go.Proofs.YtmlfekbmbnfkjabGreatDoor
set_option maxRecDepth 100000
set_option maxRecDepth 100000
open Go.RowKit Go.Shelf Go.Sort

theorem calls_belowI {f : FuncId} {as' : Array Value} {W : World} {b : Int} (h : Calls Tryz.prog f as' W fun e w' => e = .returned (.int .i64 b) ∧ w' = W) : Calls Tryz.prog f as' W fun e w' => e = .returned (.int .i64 b) ∧ Below W.heap.size W w' :=
  h.mono fun _ _ ⟨h1, h2⟩ => ⟨h1, by rw [h2]; exact Below.refl _ _⟩
theorem field_p0 (w : World) (b i : Nat) : (Instr.fieldAt 34 (.pointer (some ⟨b, i, none⟩)) 0).run Tryz.prog w = .ok (.pointer (some ⟨b, i, none⟩)) w := by go_simp
theorem enters_typeof (xs : Array Value) (w : World) : (callFunc 129 xs).run Tryz.prog w = .ok (.enter 129 xs) w := enters Tryz.func129 (by kernel_rfl) (by kernel_rfl) xs w
/-- Of's closure. -/
theorem off_any (u : Ev) (hl : u.deps.length = 16) (c : Nat) (x : Int) (w0 : World) (hc0 : w0.cell? ⟨c, 0, none⟩ = some (.int .i64 x)) :
    Calls Tryz.prog 213 #[.agg (evc u), .pointer (some ⟨c, 0, none⟩)] w0 fun e w' => e = .returned (.bool (typE u.kind != x)) ∧ Below w0.heap.size w0 w' := by
  obtain ⟨w, hw⟩ : ∃ w : World, w = w0 := ⟨_, rfl⟩
  subst hw
  have hE := liesE_new w u
  have hc : (w.alloc (.cells (evc u) 47)).cell? ⟨c, 0, none⟩ = some (.int .i64 x) := Lib.cell?_alloc_some _ hc0
  have HB : Hid (Below w.heap.size w (w.alloc (.cells (evc u) 47))) := (Below.refl _ w).alloc (Nat.le_refl _) _
  clear hc0
  go_enter Tryz.func213, Tryz.ntmps213
  go_wp2_with fail
  refine region_vals [4, 5, 6, 7, 8, 9, 3] [.pointer (some ⟨w.heap.size, 19, none⟩), .pointer (some ⟨w.heap.size, 19, none⟩), .int .i64 u.kind, .int .i64 (typE u.kind), .int .i64 x, .bool (typE u.kind != x), .bool (typE u.kind != x)] _ (by kernel_rfl) (by kernel_rfl) (by rfl) (by decide) (by kernel_rfl) (by simp only [lay, Act.put, List.setIfInBounds_toArray, List.set_cons_zero, List.set_cons_succ, List.getD_cons_zero, List.getD_cons_succ, Nat.reduceAdd]; rfl) ⟨?_, ?_, ?_, ?_, ?_, ?_, ?_, trivial⟩ ?_
  · exact .inl ⟨rfl, fun W hb => yields_field rfl rfl (field_e3 W _)⟩
  · exact .inl ⟨rfl, fun W hb => yields_field rfl rfl (field_p0 W _ 19)⟩
  · exact .inl ⟨rfl, fun W hb => yields_load rfl rfl (load_int_run ((hE.below hb hE.lt).c19 hl))⟩
  · exact .inl ⟨rfl, fun W hb => yields_call (vs := [.int .i64 u.kind]) rfl rfl (enters_typeof _ _) (calls_belowI (typeof_any _ W))⟩
  · exact .inl ⟨rfl, fun W hb => yields_load rfl rfl (load_int_run ((hb.cell (block_lt_of_cell hc)).trans hc))⟩
  · exact .inl ⟨rfl, fun W hb => yields_bin rfl rfl rfl (eqGuard_int W) (neq_run W _ _)⟩
  · exact .inl ⟨rfl, fun W hb => yields_assign rfl rfl⟩
  intro w2 hb2
  have HB2 : Hid (Below w.heap.size w w2) := HB.out.trans (hb2.mono HB.out.size)
  clear hE hc hb2 HB
  go_wp2
  go_ret
  exact ⟨rfl, HB2.out⟩

/-! A row that is stored into. -/
theorem heap_setCells_same {g : Nat} {t : TypeId} : ∀ (vs : List Value) (o : Nat) (w : World) (cur : Array Value), w.heap[g]? = some (.cells cur t (0, 0)) → (w.setCells g o vs).heap[g]? = some (.cells (setMany cur o vs) t (0, 0))
  | [], _, _, _, h => h
  | v :: vs, o, w, cur, h => heap_setCells_same vs (o + 1) (w.setCell ⟨g, o, none⟩ v) (cur.setIfInBounds o v) (heap_setCell_same w g o cur t v h)
theorem get_take {cur : Array Value} {N : Nat} {L : List Value} (h : cur.toList.take N = L) {t : Nat} (ht : t < N) : cur[t]? = L[t]? := by
  rw [← h, List.getElem?_take_of_lt ht, Array.getElem?_toList]
theorem take_many {cur : Array Value} {n i : Nat} {R : List Ev} {u : Ev} (hR : ∀ e ∈ R, Wide e) (hn : R.length = n) (hc : n * 26 ≤ cur.size) (h : cur.toList.take (n * 26) = evs R) (hu : Wide u) : (setMany cur (i * 26) (evl u)).toList.take (n * 26) = evs (R.set i u) := by
  have hul := evl_length u hu.1
  have hw2 : ∀ e ∈ R.set i u, Wide e := fun e he => (List.mem_or_eq_of_mem_set he).elim (hR e) (fun e1 => e1 ▸ hu)
  have hl2 : (evs (R.set i u)).length = n * 26 := by rw [evs_length hw2, List.length_set, hn]
  apply List.ext_getElem?
  intro t
  by_cases ht : t < n * 26
  · have htc : t < (setMany cur (i * 26) (evl u)).size := by rw [size_setMany]; omega
    rw [List.getElem?_take_of_lt ht, Array.getElem?_toList, Array.getElem?_eq_getElem htc]
    have hg := get_setMany (evl u) (i * 26) cur t (by omega)
    rw [getElem!_pos _ t htc, hul] at hg
    rw [hg]
    have hj : t / 26 < n := by omega
    have hr : t % 26 < 26 := Nat.mod_lt _ (by omega)
    by_cases hb : i * 26 ≤ t ∧ t < i * 26 + 26
    · rw [if_pos hb]
      have hji : t / 26 = i := by omega
      have he : (R.set i u)[t / 26]? = some u := by rw [hji, List.getElem?_set_self (by omega)]
      have hv : (evl u)[t % 26]? = some (evl u)[t - i * 26]! := by
        rw [show t - i * 26 = t % 26 by omega, List.getElem?_eq_getElem (by omega), getElem!_pos _ _ (by omega)]
      have := evs_at hw2 (t / 26) u he (t % 26) _ hv
      rw [show t / 26 * 26 + t % 26 = t by omega] at this
      exact this.symm
    · rw [if_neg hb]
      have hji : i ≠ t / 26 := by omega
      have htc' : t < cur.size := by omega
      have h1 := get_take h ht
      rw [Array.getElem?_eq_getElem htc'] at h1
      rw [getElem!_pos cur t htc', h1]
      obtain ⟨e, he⟩ : ∃ e, R[t / 26]? = some e := ⟨_, List.getElem?_eq_getElem (by omega)⟩
      have hel := evl_length e (hR e (List.mem_of_getElem? he)).1
      obtain ⟨v, hv⟩ : ∃ v, (evl e)[t % 26]? = some v := ⟨_, List.getElem?_eq_getElem (by omega)⟩
      have a1 := evs_at hR (t / 26) e he (t % 26) v hv
      have a2 := evs_at hw2 (t / 26) e (by rw [List.getElem?_set_ne hji]; exact he) (t % 26) v hv
      rw [show t / 26 * 26 + t % 26 = t by omega] at a1 a2
      rw [a1, a2]
  · rw [List.getElem?_eq_none (by rw [List.length_take, Array.length_toList]; omega), List.getElem?_eq_none (by omega)]
theorem row_put {w : World} {base g n cap i : Nat} {R : List Ev} {u : Ev} (h : Row w base (.slice (some ⟨g, 0, none⟩) n cap) R) (hn : R.length = n) (hR : ∀ e ∈ R, Wide e) (hu : Wide u) : Row (w.setCells g (i * 26) (evl u)) base (.slice (some ⟨g, 0, none⟩) n cap) (R.set i u) := by
  rcases h.2 with ⟨hh, -⟩ | ⟨g', cap', cur, hv, hbg, hg, hnc, hcm, hcs, htk⟩
  · cases hh
  · simp only [Value.slice.injEq, Option.some.injEq, Addr.mk.injEq, and_true] at hv
    obtain ⟨rfl, h1, rfl⟩ := hv
    have hl : (R.set i u).length = R.length := List.length_set
    refine ⟨?_, .inr ⟨g, cap, setMany cur (i * 26) (evl u), by rw [hl, hn], hbg, heap_setCells_same _ _ _ _ hg, by omega, hcm, by rw [size_setMany, hcs], ?_⟩⟩
    · rw [evs_length (fun e he => (List.mem_or_eq_of_mem_set he).elim (hR e) (fun e1 => e1 ▸ hu)), hl]
    · rw [hl, hn]
      rw [hn] at htk
      exact take_many hR hn (by omega) htk hu
/-- What stands behind may turn. -/
theorem row_cut {w : World} {base g n cap i : Nat} {R : List Ev} {vs : List Value} (h : Row w base (.slice (some ⟨g, 0, none⟩) n cap) R) (hn : R.length = n) (hR : ∀ e ∈ R, Wide e) (hi : i ≤ n) : Row (w.setCells g (i * 26) vs) base (.slice (some ⟨g, 0, none⟩) i cap) (R.take i) := by
  rcases h.2 with ⟨hh, -⟩ | ⟨g', cap', cur, hv, hbg, hg, hnc, hcm, hcs, htk⟩
  · cases hh
  · simp only [Value.slice.injEq, Option.some.injEq, Addr.mk.injEq, and_true] at hv
    obtain ⟨rfl, h1, rfl⟩ := hv
    have hl : (R.take i).length = i := by rw [List.length_take]; omega
    have hwt : ∀ e ∈ R.take i, Wide e := fun e he => hR e (List.mem_of_mem_take he)
    have hlt : (evs (R.take i)).length = i * 26 := by rw [evs_length hwt, hl]
    refine ⟨by rw [hlt, hl], .inr ⟨g, cap, setMany cur (i * 26) vs, by rw [hl], hbg, heap_setCells_same _ _ _ _ hg, by omega, hcm, by rw [size_setMany, hcs], ?_⟩⟩
    rw [hl]
    apply List.ext_getElem?
    intro t
    by_cases ht : t < i * 26
    · have htc : t < cur.size := by omega
      have htm : t < (setMany cur (i * 26) vs).size := by rw [size_setMany]; exact htc
      rw [List.getElem?_take_of_lt ht, Array.getElem?_toList, Array.getElem?_eq_getElem htm]
      have hgm := get_setMany vs (i * 26) cur t htc
      rw [getElem!_pos _ t htm, if_neg (by omega), getElem!_pos cur t htc] at hgm
      rw [hgm]
      rw [hn] at htk
      have h1 := get_take htk (show t < n * 26 by omega)
      rw [Array.getElem?_eq_getElem htc] at h1
      rw [h1]
      have e1 : evs R = evs (R.take i) ++ evs (R.drop i) := by rw [← evs_append, List.take_append_drop]
      rw [e1, List.getElem?_append_left (by omega)]
    · rw [List.getElem?_eq_none (by rw [List.length_take, Array.length_toList]; omega), List.getElem?_eq_none (by omega)]

def bad (x : Int) (u : Ev) : Bool := typE u.kind != x
set_option maxHeartbeats 1000000 in
theorem idxf_any (ao : Option Addr) (m c : Nat) (R : List Ev) (k : Nat) (x : Int) (w : World) (hE : Evs w ao m c R) (hc : w.cell? ⟨k, 0, none⟩ = some (.int .i64 x)) (hm : m ≤ 1000) :
    Calls Tryz.prog 193 #[.slice ao m c, .func (.func 213) #[] #[.pointer (some ⟨k, 0, none⟩)]] w fun e w' => ∃ i : Int, e = .returned (.int .i64 i) ∧ Aside ((i = -1 ∧ ∀ u ∈ R, bad x u = false) ∨ ∃ j : Nat, j < m ∧ i = (j : Int) ∧ (∀ u ∈ R.take j, bad x u = false) ∧ ∃ u, R[j]? = some u ∧ bad x u = true) ∧ Below w.heap.size w w' := by
  have hlen := hE.len
  have HE : Aside (Evs w ao m c R) := hE
  have HC : Hid (w.cell? ⟨k, 0, none⟩ = some (.int .i64 x)) := hc
  clear hE hc
  go_enter Tryz.func193, Tryz.ntmps193
  go_wp2
  go_loopg [8] m (fun kx s8 wr => ∃ i : Nat, s8 = .int .i64 i ∧ i ≤ m ∧ m - i ≤ kx ∧ Aside ((∀ u ∈ R.take i, bad x u = false) ∧ Below w.heap.size w wr))
  case atStart => exact ⟨0, rfl, Nat.zero_le _, by omega, ⟨by simp, Below.refl _ _⟩⟩
  case round =>
    obtain ⟨i, rfl, him, hkx, HS⟩ := hrel
    by_cases hlt : i < m
    · have hltz : (i : Int) < (m : Int) := by omega
      obtain ⟨b, o, u, rfl, hui, hu, hr, hbl⟩ := (HE.out.below HS.out.2 (Nat.le_refl _)).at hlt
      have hix := fun W : World => index_ev W (b := b) (off := o) (k := i) (m := m) (c := c) hlt
      have hcr : wr.cell? ⟨k, 0, none⟩ = some (.int .i64 x) := (HS.out.2.cell (World.block_lt_of_cell? w _ HC.out)).trans HC.out
      go_wp2_with (refine load_ev_mid rfl rfl rfl hr hu.1 ?_)
      refine (off_any u hu.1 k x wr hcr).mono ?_
      rintro e w1 ⟨rfl, hb1⟩
      have hb1' : Below w.heap.size w w1 := HS.out.2.trans (hb1.mono HS.out.2.size)
      rcases Bool.eq_false_or_eq_true (bad x u) with hp | hp
      · have hp' : (typE u.kind != x) = true := hp
        have HR : Hid (Aside ((((i : Int)) = -1 ∧ ∀ u ∈ R, bad x u = false) ∨ ∃ j : Nat, j < m ∧ (i : Int) = (j : Int) ∧ (∀ u ∈ R.take j, bad x u = false) ∧ ∃ u, R[j]? = some u ∧ bad x u = true) ∧ Below w.heap.size w w1) := ⟨.inr ⟨i, hlt, rfl, HS.out.1, u, hui, hp⟩, hb1'⟩
        rw [hp']
        clear hb1 hb1' HS hcr hr hix hp hp'
        go_wp2
        go_ret
        exact ⟨_, rfl, HR.out⟩
      · have hp' : (typE u.kind != x) = false := hp
        have HS2 : Aside ((∀ u ∈ R.take (i + 1), bad x u = false) ∧ Below w.heap.size w w1) := by
          refine ⟨fun v hv => ?_, hb1'⟩
          rw [take_snoc hui] at hv
          rcases List.mem_append.1 hv with hv | hv
          · exact HS.out.1 v hv
          · rw [List.mem_singleton.1 hv]; exact hp
        rw [hp']
        clear hb1 hb1' HS hcr hr hix hp hp'
        go_wp2
        go_roundg (m - (i + 1))
        case measure => omega
        case rel => exact ⟨i + 1, by go_num, by omega, Nat.le_refl _, HS2⟩
    · obtain rfl : i = m := by omega
      have HR : Hid ((∀ u ∈ R, bad x u = false) ∧ Below w.heap.size w wr) := by
        have := HS.out
        rw [List.take_of_length_le (by omega)] at this
        exact this
      clear HS
      go_wp2
      go_ret
      exact ⟨_, rfl, .inl ⟨rfl, HR.out.1⟩, HR.out.2⟩

/-- On the way: what is kept lies ahead, the rest as it was. -/
structure Cmpd (x : Int) (L R : List Ev) (i j : Nat) : Prop where
  len : R.length = L.length
  front : R.take i = (L.take j).filter (fun u => !bad x u)
  back : ∀ q, j ≤ q → R[q]? = L[q]?
  le : i < j
theorem Cmpd.start {x : Int} {L : List Ev} {i : Nat} {u : Ev} (h1 : ∀ u ∈ L.take i, bad x u = false) (h2 : L[i]? = some u) (h3 : bad x u = true) : Cmpd x L L i (i + 1) := by
  refine ⟨rfl, ?_, fun _ _ => rfl, by omega⟩
  rw [take_snoc h2, List.filter_append, List.filter_cons, h3, List.filter_nil]
  simp only [Bool.not_true, Bool.false_eq_true, if_false, List.append_nil]
  exact (List.filter_eq_self.2 (fun v hv => by rw [h1 v hv]; rfl)).symm
theorem Cmpd.drop {x : Int} {L R : List Ev} {i j : Nat} {u : Ev} (h : Cmpd x L R i j) (hu : L[j]? = some u) (hb : bad x u = true) : Cmpd x L R i (j + 1) := by
  have hle := h.le
  refine ⟨h.len, ?_, fun q hq => h.back q (by omega), by omega⟩
  rw [take_snoc hu, List.filter_append, List.filter_cons, hb, List.filter_nil]
  simp only [Bool.not_true, Bool.false_eq_true, if_false, List.append_nil]
  exact h.front
theorem Cmpd.keep {x : Int} {L R : List Ev} {i j : Nat} {u : Ev} (h : Cmpd x L R i j) (hj : j < L.length) (hu : L[j]? = some u) (hb : bad x u = false) : Cmpd x L (R.set i u) (i + 1) (j + 1) := by
  have hl := h.len
  have hle := h.le
  refine ⟨by rw [List.length_set]; exact h.len, ?_, fun q hq => ?_, by omega⟩
  · have hi : (R.set i u)[i]? = some u := List.getElem?_set_self (by omega)
    rw [take_snoc hi, take_snoc hu, List.filter_append, List.filter_cons, hb, List.filter_nil, ← h.front]
    simp only [Bool.not_false, if_true]
    congr 1
    rw [List.take_set_of_le (Nat.le_refl _)]
  · rw [List.getElem?_set_ne (by omega)]
    exact h.back q (by omega)
theorem Cmpd.all {x : Int} {L R : List Ev} {i j : Nat} (h : Cmpd x L R i j) (hj : L.length ≤ j) : R.take i = L.filter (fun u => !bad x u) := by
  rw [h.front, List.take_of_length_le hj]
theorem Cmpd.wide {x : Int} {L R : List Ev} {i j : Nat} {u : Ev} (_h : Cmpd x L R i j) (hR : ∀ e ∈ R, Wide e) (hu : Wide u) : ∀ e ∈ R.set i u, Wide e := fun e he => (List.mem_or_eq_of_mem_set he).elim (hR e) (fun e1 => e1 ▸ hu)
theorem store_ev_at {ops : Array Oper} {rest : List Oper} {o : Oper} {a : Act} {w : World} {Q : Exit → Act → World → Prop} {x y : Operand} {g k : Nat} {e : Ev} (hl : e.deps.length = 16) (hgd : o.guard = none) (ho : o.op = .store 47 x y)
    (hx : a.eval x = .pointer (some ⟨g, k, none⟩)) (hy : a.eval y = .agg (evc e)) (hg : w.there g k 26)
    (h : wpList Tryz.prog ops Q rest (a.put o.dst undef) (w.setCells g k (evl e))) : wpList Tryz.prog ops Q (o :: rest) a w :=
  wpList_store_mid hgd 47 x y ho g k (evc e) hx hy (by rw [evc_size e hl]; exact hg) (size26 e hl) (evc_one e) h
theorem row_there {w : World} {base g n cap i : Nat} {R : List Ev} (h : Row w base (.slice (some ⟨g, 0, none⟩) n cap) R) (hn : R.length = n) (hi : i < n) : w.there g (i * 26) 26 := by
  rcases h.2 with ⟨hh, -⟩ | ⟨g', cap', cur, hv, hbg, hg, hnc, hcm, hcs, htk⟩
  · cases hh
  · simp only [Value.slice.injEq, Option.some.injEq, Addr.mk.injEq, and_true] at hv
    obtain ⟨rfl, h1, rfl⟩ := hv
    intro j hj
    have hlt : i * 26 + j < cur.size := by omega
    refine ⟨?_, frozen_of_row w g _ _ _ hg⟩
    rw [cell_of_row w g _ _ _ _ hg, Array.getElem?_eq_getElem hlt]
    rfl
end Go.Proofs.YtmlfekbmbnfkjabGreatDoor

/-
  What slices.DeleteFunc of events comes to, whole; what Of comes to.
-/
namespace Go.Proofs.YtmlfekbmbnfkjabGreatDoor
set_option maxRecDepth 100000
set_option maxRecDepth 100000
open Go.RowKit Go.Shelf Go.Sort

theorem zero_one (k : Nat) : ∀ v ∈ (Builtin.zeroCells (evc zv) k).toList, v.oneCell' = true := by
  intro v hv
  have h1 := evc_one zv
  rw [Array.all_eq_true_iff_forall_mem] at h1
  simp only [Builtin.zeroCells, Array.toList_map, List.mem_map] at hv
  obtain ⟨t, -, rfl⟩ := hv
  have ht : t % (evc zv).size < (evc zv).size := Nat.mod_lt _ (by decide)
  rw [getElem!_pos (evc zv) _ ht]
  exact h1 _ (Array.getElem_mem ht)
theorem clear_any {w : World} {base g n cap i : Nat} {R : List Ev} (h : Row w base (.slice (some ⟨g, 0, none⟩) n cap) R) (hn : R.length = n) (hi : i < n) (ty : TypeId) :
    (Builtin.clear_ #[22] ty #[.slice (some ⟨g, i * 26, none⟩) (n - i) (cap - i)]).run Tryz.prog w = .ok (.tuple #[]) (w.setCells g (i * 26) (Builtin.zeroCells (evc zv) (n - i)).toList) := by
  have ht : Tryz.prog.underlying 22 = some (.slice 47) := Tryz.underlying22
  have hz : ∀ w, (zeroValue 47).run Tryz.prog w = .ok (.agg (evc zv)) w := Tryz.zeroValue47
  have hlen : (Builtin.zeroCells (evc zv) (n - i)).toList.length = (n - i) * 26 := by simp [Builtin.zeroCells, evc_size zv rfl]
  rcases h.2 with ⟨hh, -⟩ | ⟨g', cap', cur, hv, hbg, hg, hnc, hcm, hcs, htk⟩
  · cases hh
  · simp only [Value.slice.injEq, Option.some.injEq, Addr.mk.injEq, and_true] at hv
    obtain ⟨rfl, h1, rfl⟩ := hv
    have hst := run_storeCells_cells (P := Tryz.prog) g (i * 26) (Builtin.zeroCells (evc zv) (n - i)).toList 0 w (fun j hj => by
      rw [hlen] at hj
      have hlt : i * 26 + j < cur.size := by
        have : n * 26 ≤ cur.size := by omega
        omega
      rw [Nat.add_zero, cell_of_row w g _ _ _ _ hg, Array.getElem?_eq_getElem hlt]
      rfl) (fun j _ => frozen_of_row w g _ _ _ hg) (zero_one _)
    simp only [Nat.add_zero] at hst
    obtain ⟨q, hq⟩ : ∃ q, n - i = q + 1 := ⟨n - i - 1, by omega⟩
    rw [hq] at hst ⊢
    simp [Builtin.clear_, run_underlying ht, hz, Value.cells, hst]
theorem below_put {B b : Nat} {a : World} (hb : B ≤ b) : ∀ (vs : List Value) (o : Nat) (w : World), Below B a w → Below B a (w.setCells b o vs)
  | [], _, _, h => h
  | v :: r, o, _, h => below_put hb r (o + 1) _ (h.setCell (p := ⟨b, o, none⟩) hb v)
theorem slice_own (w : World) {g n cap i : Nat} (hi : i < n) (hn : n ≤ cap) : (Instr.sliceAt 22 (.slice (some ⟨g, 0, none⟩) n cap) (some (.int .i64 (i : Int))) none none).run Tryz.prog w = .ok (.slice (some ⟨g, i * 26, none⟩) (n - i) (cap - i)) w := by
  rw [slice_from w (by omega), dropA, if_neg (by omega)]
  show Result.ok (Value.slice (some (Addr.add ⟨g, 0, none⟩ (i * 26))) (n - i) (cap - i)) w = _
  rw [Addr.add_mid, Nat.zero_add]
theorem row_head {w : World} {base : Nat} {v : Value} {L : List Ev} (h : Row w base v L) : (v = .slice none 0 0 ∧ L = []) ∨ ∃ g cap, v = .slice (some ⟨g, 0, none⟩) L.length cap ∧ base ≤ g ∧ g < w.heap.size ∧ L.length ≤ cap ∧ v.ownBlock = some g := by
  rcases h.2 with ⟨rfl, h0⟩ | ⟨g, cap, cur, rfl, hb, hg, hnc, hcm, hcs, htake⟩
  · exact .inl ⟨rfl, List.eq_nil_of_length_eq_zero h0⟩
  · exact .inr ⟨g, cap, rfl, hb, (Array.getElem?_eq_some_iff.1 hg).1, hnc, rfl⟩
theorem delf_none (base : Nat) (L : List Ev) (ao : Option Addr) (n c : Nat) (k : Nat) (x : Int) (w : World) (hR : Row w base (.slice ao n c) L) (hE : Evs w ao n c L) (hL : n ≤ 1000) (hc : w.cell? ⟨k, 0, none⟩ = some (.int .i64 x)) (hb : base ≤ w.heap.size) (hno : ∀ u ∈ L, bad x u = false) :
    Calls Tryz.prog 153 #[.slice ao n c, .func (.func 213) #[] #[.pointer (some ⟨k, 0, none⟩)]] w fun e w' => ∃ v', e = .returned v' ∧ Row w' base v' (L.filter fun u => !bad x u) ∧ Below base w w' := by
  have HR : Aside (Row w base (.slice ao n c) (L.filter fun u => !bad x u)) := by
    show Row _ _ _ _
    rw [List.filter_eq_self.2 (fun v hv => by rw [hno v hv]; rfl)]
    exact hR
  have hlen := hE.len
  have HN : Hid (∀ u ∈ L, bad x u = false) := hno
  clear hR hno
  go_enter Tryz.func153, Tryz.ntmps153
  go_wp2_with fail
  refine (idxf_any ao n c L k x w hE hc hL).mono ?_
  rintro e w1 ⟨i, rfl, HI, hb1⟩
  have hi : i = -1 := by
    rcases HI.out with ⟨h, -⟩ | ⟨j, hj, -, -, u, hu, hb⟩
    · exact h
    · rw [HN.out u (List.mem_of_getElem? hu)] at hb
      cases hb
  subst hi
  have HF : Hid (Row w1 base (.slice ao n c) (L.filter fun u => !bad x u) ∧ Below base w w1) := ⟨HR.out.below hb1 (Nat.le_refl _), hb1.mono hb⟩
  clear HI HN HR hE hc hb1
  go_wp2
  go_ret
  exact ⟨_, rfl, HF.out⟩
set_option maxHeartbeats 1000000 in
theorem delf_some (base : Nat) (L : List Ev) (g n cap : Nat) (k : Nat) (x : Int) (w : World) (hR : Row w base (.slice (some ⟨g, 0, none⟩) n cap) L) (hE : Evs w (some ⟨g, 0, none⟩) n cap L) (hL : n ≤ 1000) (hcap : n ≤ cap) (hc : w.cell? ⟨k, 0, none⟩ = some (.int .i64 x)) (hb : base ≤ g) (hg : g < w.heap.size) (hkg : k ≠ g) (hyes : ¬ ∀ u ∈ L, bad x u = false) :
    Calls Tryz.prog 153 #[.slice (some ⟨g, 0, none⟩) n cap, .func (.func 213) #[] #[.pointer (some ⟨k, 0, none⟩)]] w fun e w' => ∃ v', e = .returned v' ∧ Row w' base v' (L.filter fun u => !bad x u) ∧ Below base w w' := by
  have hlen := hE.len
  have HN : Hid (¬ ∀ u ∈ L, bad x u = false) := hyes
  have HR : Hid (Row w base (.slice (some ⟨g, 0, none⟩) n cap) L) := hR
  have HK : Hid (k ≠ g ∧ base ≤ g ∧ g < w.heap.size) := ⟨hkg, hb, hg⟩
  have HW : Hid (∀ e ∈ L, Wide e) := hE.wide
  have HC : Hid (w.cell? ⟨k, 0, none⟩ = some (.int .i64 x)) := hc
  clear hR hyes hkg
  go_enter Tryz.func153, Tryz.ntmps153
  go_wp2_with fail
  refine (idxf_any _ n cap L k x w hE hc hL).mono ?_
  rintro e w1 ⟨i, rfl, HI, hb1⟩
  obtain ⟨i0, hi0, rfl, h1, u0, hu0, hbad0⟩ : ∃ j : Nat, j < n ∧ i = (j : Int) ∧ (∀ u ∈ L.take j, bad x u = false) ∧ ∃ u, L[j]? = some u ∧ bad x u = true := by
    rcases HI.out with ⟨-, h⟩ | h
    · exact absurd h HN.out
    · exact h
  have H0 : Aside (Row w1 base (.slice (some ⟨g, 0, none⟩) n cap) L ∧ Cmpd x L L i0 (i0 + 1) ∧ (∀ e ∈ L, Wide e) ∧ Below base w w1 ∧ w1.cell? ⟨k, 0, none⟩ = some (.int .i64 x)) :=
    ⟨HR.out.below hb1 (Nat.le_refl _), Cmpd.start h1 hu0 hbad0, HW.out, hb1.mono (by omega), (hb1.cell (World.block_lt_of_cell? w _ HC.out)).trans HC.out⟩
  clear HI HN HR hE hc hb1 h1 hu0 hbad0 HC HW hb hg
  have hne : ((i0 : Int) == -1) = false := by simp
  go_wp2
  go_loopg [5, 6] n (fun kx s5 s6 wr => ∃ (i j : Nat) (R : List Ev), s5 = .int .i64 i ∧ s6 = .int .i64 j ∧ i < j ∧ j ≤ n ∧ n - j ≤ kx ∧ Aside (Row wr base (.slice (some ⟨g, 0, none⟩) n cap) R ∧ Cmpd x L R i j ∧ (∀ e ∈ R, Wide e) ∧ Below base w wr ∧ wr.cell? ⟨k, 0, none⟩ = some (.int .i64 x)))
  case atStart => exact ⟨i0, i0 + 1, L, rfl, by go_num, by omega, by omega, by omega, H0⟩
  case round =>
    clear H0 hne
    obtain ⟨i, j, R, rfl, rfl, hij, hjn, hkx, HS⟩ := hrel
    by_cases hlt : j < n
    · have hltz : (j : Int) < (n : Int) := by omega
      have hRl : R.length = n := by rw [HS.out.2.1.len]; exact hlen
      obtain ⟨ao', c', hv', hE'⟩ := HS.out.1.evs HS.out.2.2.1
      rw [hRl] at hv' hE'
      obtain ⟨rfl, -, rfl⟩ : some ⟨g, 0, none⟩ = ao' ∧ n = n ∧ cap = c' := by simpa using hv'
      obtain ⟨b, o, u, hbo, hui, hu, hr, hbl⟩ := hE'.at hlt
      obtain ⟨rfl, rfl⟩ : g = b ∧ 0 = o := by simpa using hbo
      have hu16 := hu.1
      have hLj : L[j]? = some u := by rw [← HS.out.2.1.back j (Nat.le_refl _)]; exact hui
      have hix := fun W : World => index_ev W (b := g) (off := 0) (k := j) (m := n) (c := cap) hlt
      simp only [Nat.zero_add] at hix hr
      have hz := liesE_new wr zv
      have hE1 : LiesE ((wr.alloc (.cells (evc zv) 47)).setRow wr.heap.size (evc u)) wr.heap.size u := hz.row u
      have hB1 : Below wr.heap.size wr ((wr.alloc (.cells (evc zv) 47)).setRow wr.heap.size (evc u)) := below_setRow ((Below.refl _ _).alloc (Nat.le_refl _) _) (Nat.le_refl _) _
      have hgw : g < wr.heap.size := hbl
      have HS1 : Aside (Row ((wr.alloc (.cells (evc zv) 47)).setRow wr.heap.size (evc u)) base (.slice (some ⟨g, 0, none⟩) n cap) R ∧ Cmpd x L R i j ∧ (∀ e ∈ R, Wide e) ∧ Below base w ((wr.alloc (.cells (evc zv) 47)).setRow wr.heap.size (evc u)) ∧ ((wr.alloc (.cells (evc zv) 47)).setRow wr.heap.size (evc u)).cell? ⟨k, 0, none⟩ = some (.int .i64 x) ∧ LiesE ((wr.alloc (.cells (evc zv) 47)).setRow wr.heap.size (evc u)) wr.heap.size u) :=
        ⟨HS.out.1.below hB1 (Nat.le_refl _), HS.out.2.1, HS.out.2.2.1, HS.out.2.2.2.1.trans (hB1.mono (by have := HK.out.2.1; omega)), (hB1.cell (World.block_lt_of_cell? wr _ HS.out.2.2.2.2)).trans HS.out.2.2.2.2, hE1⟩
      clear hB1 hE' hv' hbo
      go_upto_region 8 with (first | refine load_ev_mid rfl rfl rfl hr hu16 ?_ | refine store_ev rfl rfl rfl rfl hz hu16 rfl ?_)
      change Code.wp _ _ _ _ ((wr.alloc (.cells (evc zv) 47)).setRow wr.heap.size (evc u))
      clear hE1 hz hr hix HS hbl
      generalize (wr.alloc (.cells (evc zv) 47)).setRow wr.heap.size (evc u) = W at HS1 ⊢
      have hgD : Hid (g ≠ wr.heap.size ∧ g < wr.heap.size) := ⟨by omega, hgw⟩
      clear hgw
      generalize wr.heap.size = D at *
      have hE1 := HS1.out.2.2.2.2.2
      go_wp2_with (refine load_ev rfl rfl rfl hE1 hu16 ?_)
      refine (off_any u hu.1 k x W HS1.out.2.2.2.2.1).mono ?_
      rintro e w2 ⟨rfl, hb2⟩
      have hE2 : LiesE w2 D u := hE1.below hb2 hE1.lt
      have HS2 : Aside (Row w2 base (.slice (some ⟨g, 0, none⟩) n cap) R ∧ Cmpd x L R i j ∧ (∀ e ∈ R, Wide e) ∧ Below base w w2 ∧ w2.cell? ⟨k, 0, none⟩ = some (.int .i64 x)) :=
        ⟨HS1.out.1.below hb2 (Nat.le_refl _), HS1.out.2.1, HS1.out.2.2.1, HS1.out.2.2.2.1.trans (hb2.mono (by have := HK.out; have := hgD.out; have := hE1.lt; omega)), (hb2.cell (World.block_lt_of_cell? W _ HS1.out.2.2.2.2.1)).trans HS1.out.2.2.2.2.1⟩
      rcases Bool.eq_false_or_eq_true (bad x u) with hp | hp
      · have hp' : (typE u.kind != x) = true := hp
        have HS3 : Aside (Row w2 base (.slice (some ⟨g, 0, none⟩) n cap) R ∧ Cmpd x L R i (j + 1) ∧ (∀ e ∈ R, Wide e) ∧ Below base w w2 ∧ w2.cell? ⟨k, 0, none⟩ = some (.int .i64 x)) := ⟨HS2.out.1, HS2.out.2.1.drop hLj hp, HS2.out.2.2⟩
        rw [hp']
        clear hp hp' HS1 HS2 hE1 hE2 hb2 hLj hui
        go_wp2
        go_roundg (n - (j + 1))
        case measure => omega
        case rel => exact ⟨i, j + 1, R, rfl, by go_num, by omega, by omega, Nat.le_refl _, HS3⟩
      · have hp' : (typE u.kind != x) = false := hp
        have hin : i < n := by omega
        have hinz : (i : Int) < (n : Int) := by omega
        have hth := row_there HS2.out.1 hRl hin
        have hix := fun W : World => index_ev W (b := g) (off := 0) (k := i) (m := n) (c := cap) hin
        simp only [Nat.zero_add] at hix
        have HS3 : Aside (Row (w2.setCells g (i * 26) (evl u)) base (.slice (some ⟨g, 0, none⟩) n cap) (R.set i u) ∧ Cmpd x L (R.set i u) (i + 1) (j + 1) ∧ (∀ e ∈ R.set i u, Wide e) ∧ Below base w (w2.setCells g (i * 26) (evl u)) ∧ (w2.setCells g (i * 26) (evl u)).cell? ⟨k, 0, none⟩ = some (.int .i64 x)) :=
          ⟨row_put HS2.out.1 hRl HS2.out.2.2.1 hu, HS2.out.2.1.keep (by omega) hLj hp, HS2.out.2.1.wide HS2.out.2.2.1 hu, below_put HK.out.2.1 _ _ _ HS2.out.2.2.2.1, (World.cell?_setCells_out g _ _ _ _ (fun h => absurd h HK.out.1)).trans HS2.out.2.2.2.2⟩
        rw [hp']
        clear hp hp' HS1 HS2 hE1 hb2 hLj hui
        go_wp2_with (first | refine load_ev rfl rfl rfl hE2 hu16 ?_ | refine store_ev_at hu16 rfl rfl rfl rfl hth ?_)
        go_roundg (n - (j + 1))
        case measure => omega
        case rel => exact ⟨i + 1, j + 1, R.set i u, by go_num, by go_num, by omega, by omega, Nat.le_refl _, HS3⟩
    · obtain rfl : j = n := by omega
      have hRl : R.length = j := by rw [HS.out.2.1.len]; exact hlen
      have hin : i ≤ cap := by omega
      have hinz : (i : Int) < (j : Int) := by omega
      have hcl := clear_any HS.out.1 hRl hij
      have hs1 := fun W : World => slice_own W (g := g) hij hcap
      have hs2 := fun W : World => slice_at W (ao := some ⟨g, 0, none⟩) (m := j) hin
      have HF : Hid (Row (wr.setCells g (i * 26) (Builtin.zeroCells (evc zv) (j - i)).toList) base (.slice (some ⟨g, 0, none⟩) i cap) (L.filter fun u => !bad x u) ∧ Below base w (wr.setCells g (i * 26) (Builtin.zeroCells (evc zv) (j - i)).toList)) :=
        ⟨by rw [← HS.out.2.1.all (by omega)]; exact row_cut HS.out.1 hRl HS.out.2.2.1 (by omega), below_put HK.out.2.1 _ _ _ HS.out.2.2.2.1⟩
      clear HS
      go_wp2
      go_ret
      exact ⟨_, rfl, HF.out⟩
theorem delf_any (base : Nat) (v : Value) (L : List Ev) (k : Nat) (x : Int) (w : World) (hR : Row w base v L) (hW : ∀ e ∈ L, Wide e) (hL : L.length ≤ 1000) (hc : w.cell? ⟨k, 0, none⟩ = some (.int .i64 x)) (hb : base ≤ w.heap.size) (hk : ∀ g, v.ownBlock = some g → k ≠ g) :
    Calls Tryz.prog 153 #[v, .func (.func 213) #[] #[.pointer (some ⟨k, 0, none⟩)]] w fun e w' => ∃ v', e = .returned v' ∧ Row w' base v' (L.filter fun u => !bad x u) ∧ Below base w w' := by
  obtain ⟨ao, c, rfl, hE⟩ := hR.evs hW
  by_cases hno : ∀ u ∈ L, bad x u = false
  · exact delf_none base L ao _ c k x w hR hE hL hc hb hno
  · rcases row_head hR with ⟨-, rfl⟩ | ⟨g, cap, hv, hbg, hgw, hlc, ho⟩
    · exact absurd (fun u hu => by cases hu) hno
    · obtain ⟨rfl, rfl⟩ : ao = some ⟨g, 0, none⟩ ∧ c = cap := by simpa using hv
      exact delf_some base L g _ c k x w hR hE hL hlc hc hbg hgw (hk g ho) hno
theorem bad_all {l : List Ev} {key : List UInt8} : (ofKeyE key (allE l)).filter (fun u => !bad (typeE l key) u) = ofE l key := by
  unfold ofE
  congr 1
  funext e
  unfold bad
  rw [bne, Bool.not_not]
  by_cases h : typE e.kind = typeE l key <;> simp [h]
theorem mem_of {l : List Ev} {key : List UInt8} {e : Ev} (h : e ∈ ofE l key) : e ∈ l := mem_all (mem_ofKey (List.mem_filter.1 h).1)
theorem of_len (l : List Ev) (key : List UInt8) : (ofE l key).length ≤ l.length := Nat.le_trans (List.length_filter_le _ _) (Nat.le_trans (ofKey_len _ _) (all_length l))
set_option maxHeartbeats 1000000 in
/-- Of. -/
theorem of_any (ao : Option Addr) (m c : Nat) (E : List Ev) (key : List UInt8) (w : World) (hE : Evs w ao m c E) (hm : m ≤ 1000) :
    Calls Tryz.prog 177 #[.slice ao m c, .string (sb key)] w fun e w' => ∃ v, e = .returned v ∧ Row w' w.heap.size v (ofE E key) ∧ Below w.heap.size w w' := by
  have hlen := hE.len
  have hw : Hid (∀ e ∈ E, Wide e) := hE.wide
  go_enter Tryz.func177, Tryz.ntmps177
  go_wp2_with fail
  refine (ofkey_any ao m c E key w hE hm).mono ?_
  rintro e w1 ⟨v1, rfl, hR1, hb1⟩
  obtain ⟨a1, c1, hv1, hE1⟩ := hR1.evs (fun e he => hw.out e (mem_ofKey he))
  subst hv1
  have hl1 := ofKey_len key E
  have HB1 : Hid (Below w.heap.size w w1) := hb1
  clear hE hb1 hR1
  go_wp2_with fail
  refine (all_any a1 _ c1 _ w1 hE1 (by omega)).mono ?_
  rintro e w2 ⟨v2, rfl, hR2, hb2⟩
  have HW2 : Hid (∀ e ∈ allE (ofKeyE key E), Wide e) := fun e he => hw.out e (mem_ofKey (mem_all he))
  obtain ⟨a2, c2, hv2, hE2⟩ := hR2.evs HW2.out
  have hl2 := all_length (ofKeyE key E)
  have HR2 : Hid (Row w2 w.heap.size v2 (allE (ofKeyE key E))) := hR2.lower HB1.out.size
  subst hv2
  have HB2 : Hid (Below w.heap.size w w2) := HB1.out.trans (hb2.mono HB1.out.size)
  clear hE1 hb2 hR2 HB1
  have HT : Hid (lastE (allE (ofKeyE key E)) = typeE E key ∧ allE (ofKeyE key E) = ofKeyE key (allE E)) := ⟨by rw [all_key]; rfl, all_key _ _⟩
  have hL3 : (allE (ofKeyE key E)).length ≤ 1000 := by omega
  clear hl1 hl2
  generalize allE (ofKeyE key E) = A at *
  go_wp2_with fail
  refine (latest_any a2 _ c2 _ w2 hE2 hL3).mono ?_
  rintro e w3 ⟨rfl, hw3⟩
  obtain rfl := hw3.symm
  clear hw3
  rw [HT.out.1]
  go_wp2_with fail
  have HA : Hid (Row (w2.alloc (.cells #[.int .i64 (typeE E key)] 3)) w.heap.size (.slice a2 A.length c2) A) := HR2.out.below ((Below.refl _ _).alloc (Nat.le_refl _) _) (Nat.le_refl _)
  have hsz := HB2.out.size
  refine (delf_any w.heap.size _ A w2.heap.size (typeE E key) _ HA.out HW2.out hL3 ((World.cell?_alloc_new w2 _ _ _).trans rfl) (by simp; omega) (fun g hg => ?_)).mono ?_
  · rcases row_head HR2.out with ⟨h, -⟩ | ⟨g', cap', h, -, hlt, -, ho⟩
    · rw [h] at hg
      cases hg
    · rw [ho] at hg
      cases hg
      omega
  rintro e w4 ⟨v4, rfl, hR4, hb4⟩
  have HF : Hid (Row w4 w.heap.size v4 (ofE E key) ∧ Below w.heap.size w w4) := ⟨by rw [← bad_all, ← HT.out.2]; exact hR4, (HB2.out.alloc hsz _).trans hb4⟩
  clear hR4 hb4 HA HR2 HB2 hE2 HT
  go_wp2
  go_ret
  exact ⟨_, rfl, HF.out⟩
end Go.Proofs.YtmlfekbmbnfkjabGreatDoor

/-
  The latest one of events, plainly.
-/
namespace Go.Proofs.YtmlfekbmbnfkjabGreatDoor
set_option maxRecDepth 100000
set_option maxRecDepth 100000

theorem lt_iff (b a : Ev) : laterE b a = true ↔ a.t < b.t ∨ (a.t = b.t ∧ (a.r < b.r ∨ (a.r = b.r ∧ a.n < b.n))) := by
  unfold laterE
  split
  · simp; omega
  · split
    · simp; omega
    · simp; omega
theorem lt_no (b a : Ev) : laterE b a = false ↔ ¬ (a.t < b.t ∨ (a.t = b.t ∧ (a.r < b.r ∨ (a.r = b.r ∧ a.n < b.n)))) := by
  rw [← lt_iff]; cases laterE b a <;> simp
theorem lt_tr {a b c : Ev} (h1 : laterE a b = true) (h2 : laterE b c = true) : laterE a c = true := by
  rw [lt_iff] at *; omega
theorem lt_self (a : Ev) : laterE a a = false := by rw [lt_no]; omega

/-- One more is seen. -/
def stepL (p : Ev → Bool) (o : Option Ev) (e : Ev) : Option Ev :=
  match p e, o with
  | false, o => o
  | true, none => some e
  | true, some a => if laterE e a then some e else some a
/-- The latest one of those that count. -/
def latL (p : Ev → Bool) (E : List Ev) : Option Ev := E.foldl (stepL p) none
theorem latL_snoc (p : Ev → Bool) (E : List Ev) (u : Ev) : latL p (E ++ [u]) = stepL p (latL p E) u := by
  unfold latL; rw [List.foldl_append]; rfl
theorem latL_take {p : Ev → Bool} {E : List Ev} {i : Nat} {u : Ev} (h : E[i]? = some u) : latL p (E.take (i + 1)) = stepL p (latL p (E.take i)) u := by
  rw [take_snoc h, latL_snoc]
theorem snoc_ind {α : Type} {P : List α → Prop} (h0 : P []) (h1 : ∀ l a, P l → P (l ++ [a])) (l : List α) : P l := by
  have : ∀ r : List α, P r.reverse := fun r => by
    induction r with
    | nil => exact h0
    | cons a r ih => rw [List.reverse_cons]; exact h1 _ _ ih
  have h := this l.reverse
  rwa [List.reverse_reverse] at h
/-- What it is: the first of those than which none is later. -/
def IsLat (p : Ev → Bool) (E : List Ev) : Option Ev → Prop
  | none => ∀ e ∈ E, p e = false
  | some a => ∃ A B, E = A ++ a :: B ∧ p a = true ∧ (∀ x ∈ A, p x = true → laterE a x = true) ∧ (∀ x ∈ B, p x = true → laterE x a = false)
theorem latL_is (p : Ev → Bool) (E : List Ev) : IsLat p E (latL p E) := by
  induction E using snoc_ind with
  | h0 => intro e he; cases he
  | h1 E u ih =>
    rw [latL_snoc]
    cases hp : p u with
    | false =>
      have e1 : stepL p (latL p E) u = latL p E := by simp [stepL, hp]
      rw [e1]
      cases ho : latL p E with
      | none =>
        rw [ho] at ih
        intro e he
        rcases List.mem_append.1 he with h | h
        · exact ih e h
        · rw [List.mem_singleton.1 h]; exact hp
      | some a =>
        rw [ho] at ih
        obtain ⟨A, B, h1, h2, h3, h4⟩ := ih
        refine ⟨A, B ++ [u], by rw [h1]; simp, h2, h3, fun x hx hpx => ?_⟩
        rcases List.mem_append.1 hx with h | h
        · exact h4 x h hpx
        · rw [List.mem_singleton.1 h, hp] at hpx; cases hpx
    | true =>
      cases ho : latL p E with
      | none =>
        have e1 : stepL p none u = some u := by simp [stepL, hp]
        rw [ho] at ih
        rw [e1]
        refine ⟨E, [], rfl, hp, fun x hx hpx => ?_, by simp⟩
        rw [ih x hx] at hpx
        cases hpx
      | some a =>
        rw [ho] at ih
        obtain ⟨A, B, h1, h2, h3, h4⟩ := ih
        cases hl : laterE u a with
        | true =>
          have e1 : stepL p (some a) u = some u := by simp [stepL, hp, hl]
          rw [e1]
          refine ⟨E, [], rfl, hp, fun x hx hpx => ?_, by simp⟩
          rw [h1] at hx
          rcases List.mem_append.1 hx with h | h
          · exact lt_tr hl (h3 x h hpx)
          · rcases List.mem_cons.1 h with rfl | h
            · exact hl
            · have := h4 x h hpx
              rw [lt_no] at this; rw [lt_iff] at *; omega
        | false =>
          have e1 : stepL p (some a) u = some a := by simp [stepL, hp, hl]
          rw [e1]
          refine ⟨A, B ++ [u], by rw [h1]; simp, h2, h3, fun x hx hpx => ?_⟩
          rcases List.mem_append.1 hx with h | h
          · exact h4 x h hpx
          · rw [List.mem_singleton.1 h]; exact hl
/-- All others are no later. -/
theorem IsLat.top {p : Ev → Bool} {E : List Ev} {a : Ev} (h : IsLat p E (some a)) : a ∈ E ∧ p a = true ∧ ∀ x ∈ E, p x = true → laterE x a = false := by
  obtain ⟨A, B, rfl, h2, h3, h4⟩ := h
  refine ⟨by simp, h2, fun x hx hpx => ?_⟩
  rcases List.mem_append.1 hx with h | h
  · have := h3 x h hpx
    rw [lt_no]; rw [lt_iff] at this; omega
  · rcases List.mem_cons.1 h with rfl | h
    · exact lt_self x
    · exact h4 x h hpx
theorem lat_mem {p : Ev → Bool} {E : List Ev} {a : Ev} (h : latL p E = some a) : a ∈ E := by
  have := latL_is p E
  rw [h] at this
  exact this.top.1
theorem lat_top {p : Ev → Bool} {E : List Ev} {a : Ev} (h : latL p E = some a) : p a = true ∧ ∀ x ∈ E, p x = true → laterE x a = false := by
  have := latL_is p E
  rw [h] at this
  exact this.top.2
theorem lat_none {p : Ev → Bool} {E : List Ev} (h : latL p E = none) : ∀ x ∈ E, p x = false := by
  have := latL_is p E
  rw [h] at this
  exact this
/-- The event that is told. -/
def orz (o : Option Ev) : Ev := o.getD zv
theorem zv_wide : Wide zv := ⟨rfl, ⟨by simp [zv], by simp [zv], by simp [zv]⟩⟩
theorem orz_wide {p : Ev → Bool} {E : List Ev} (h : ∀ e ∈ E, Wide e) : Wide (orz (latL p E)) := by
  cases ho : latL p E with
  | none => exact zv_wide
  | some a => exact h a (lat_mem ho)
def setE (e : Ev) : Bool := decide (e.kind = 1)

end Go.Proofs.YtmlfekbmbnfkjabGreatDoor

