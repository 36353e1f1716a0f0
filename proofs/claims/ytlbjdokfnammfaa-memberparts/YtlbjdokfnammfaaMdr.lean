/-
  Rows of dots: appended to, read, stored into, cut.
-/
import Derived.Test.YtlbjdokfnammfaaGba
import Derived.Laws.OwnMore
import Derived.Laws.AppendOwnNone
import Derived.Great.BuildSlice
import Derived.Deep.MidRow
import Derived.OwnWalk
import Derived.Lib.SliceRun
import Derived.Sort.OwnSorted
import Derived.Shelf.GgSortFunc.RowK
namespace Go.Proofs.Ytlbjdokfnammfaa
set_option maxRecDepth 100000
open Go.RowKit Go.Sort

/-- A dot. -/
abbrev Dt := Int × Int
def dtl (d : Dt) : List Value := [.int .i64 d.1, .int .i64 d.2]
theorem dtl_length (d : Dt) : (dtl d).length = 2 := rfl
theorem dtl_one (d : Dt) : ∀ u ∈ dtl d, u.oneCell' = true := by
  intro u hu
  simp only [dtl, List.mem_cons, List.not_mem_nil, or_false] at hu
  rcases hu with rfl | rfl <;> rfl
def dts (S : List Dt) : List Value := S.flatMap dtl
theorem dts_length : ∀ S : List Dt, (dts S).length = S.length * 2
  | [] => rfl
  | i :: S => by
    have ih := dts_length S
    have e1 : dts (i :: S) = dtl i ++ dts S := by simp [dts]
    rw [e1, List.length_append, ih, dtl_length, List.length_cons]; omega
theorem dts_append (S T : List Dt) : dts (S ++ T) = dts S ++ dts T := by simp [dts]
theorem dts_one (S : List Dt) : ∀ u ∈ dts S, u.oneCell' = true := by
  intro u hu
  obtain ⟨i, -, h⟩ := List.mem_flatMap.1 hu
  exact dtl_one i u h
theorem dts_at : ∀ {S : List Dt} (k : Nat) (i : Dt), S[k]? = some i → ∀ (j : Nat) (v : Value), (dtl i)[j]? = some v → (dts S)[k * 2 + j]? = some v
  | [], k, i, hi, j, v, hv => by simp at hi
  | x :: S, k, i, hi, j, v, hv => by
    have e1 : dts (x :: S) = dtl x ++ dts S := by simp [dts]
    cases k with
    | zero =>
      have : x = i := by simpa using hi
      subst this
      have hj : j < 2 := (List.getElem?_eq_some_iff.1 hv).1
      rw [e1, Nat.zero_mul, Nat.zero_add, List.getElem?_append_left (by rw [dtl_length]; omega)]
      exact hv
    | succ k =>
      rw [e1, List.getElem?_append_right (by rw [dtl_length]; omega), dtl_length, show (k + 1) * 2 + j - 2 = k * 2 + j by omega]
      exact dts_at k i (by simpa using hi) j v hv
/-- A row of the program's own. -/
abbrev DRow (w : World) (base : Nat) (v : Value) (S : List Dt) : Prop := w.ownsRow base 34 2 v S.length (dts S)
theorem drow_nil (w : World) (base : Nat) : DRow w base (.slice none 0 0) [] := World.ownsRow_nil w base _ _
theorem DRow.lower {w : World} {base b : Nat} {v : Value} {S : List Dt} (h : DRow w base v S) (hb : b ≤ base) : DRow w b v S := by
  refine ⟨h.1, ?_⟩
  rcases h.2 with hn | ⟨g, cap, cur, e, hbg, rest⟩
  · exact .inl hn
  · exact .inr ⟨g, cap, cur, e, Nat.le_trans hb hbg, rest⟩
theorem DRow.keep {w w' : World} {base : Nat} {v : Value} {S : List Dt} (h : DRow w base v S) (hk : ∀ k, v.ownBlock = some k → w'.heap[k]? = w.heap[k]?) : DRow w' base v S := by
  refine ⟨h.1, ?_⟩
  rcases h.2 with hn | ⟨g, cap, cur, rfl, hbg, hg, rest⟩
  · exact .inl hn
  · exact .inr ⟨g, cap, cur, rfl, hbg, by rw [hk g rfl]; exact hg, rest⟩
theorem DRow.below {w w' : World} {base B : Nat} {v : Value} {S : List Dt} (h : DRow w base v S) (hb : Below B w w') (hB : w.heap.size ≤ B) : DRow w' base v S :=
  h.keep fun k hk => hb.block k (by have := (h.lt k hk).2; omega)
theorem DRow.own {w : World} {base : Nat} {v : Value} {S : List Dt} (h : DRow w base v S) : ∀ k, v.ownBlock = some k → base ≤ k := fun k hk => (h.lt k hk).1
theorem DRow.head {w : World} {base : Nat} {v : Value} {S : List Dt} (h : DRow w base v S) : (v = .slice none 0 0 ∧ S = []) ∨ ∃ g cap, v = .slice (some ⟨g, 0, none⟩) S.length cap ∧ base ≤ g ∧ g < w.heap.size ∧ S.length ≤ cap := by
  rcases h.2 with ⟨rfl, h0⟩ | ⟨g, cap, cur, rfl, hb, hg, hnc, hcm, hcs, htake⟩
  · exact .inl ⟨rfl, List.eq_nil_of_length_eq_zero h0⟩
  · exact .inr ⟨g, cap, rfl, hb, (Array.getElem?_eq_some_iff.1 hg).1, hnc⟩
/-- A list of dots, as it is read. -/
def DL (w : World) (ao : Option Addr) (S : List Dt) : Prop := ∀ j d, S[j]? = some d → ∃ g, ao = some ⟨g, 0, none⟩ ∧ w.cell? ⟨g, j * 2, none⟩ = some (.int .i64 d.1) ∧ w.cell? ⟨g, j * 2 + 1, none⟩ = some (.int .i64 d.2)
theorem DRow.dl {w : World} {base : Nat} {v : Value} {S : List Dt} (h : DRow w base v S) : ∃ ao c, v = .slice ao S.length c ∧ DL w ao S := by
  rcases h.2 with ⟨rfl, h0⟩ | ⟨g, cap, cur, rfl, hb, hg, hnc, hcm, hcs, htake⟩
  · have : S = [] := List.eq_nil_of_length_eq_zero h0
    subst this
    exact ⟨none, 0, rfl, fun j t h => by cases h⟩
  · refine ⟨some ⟨g, 0, none⟩, cap, rfl, fun j d hd => ⟨g, rfl, ?_, ?_⟩⟩
    · have h1 := h.cells (g := g) rfl _ _ (dts_at j d hd 0 _ rfl)
      rw [Addr.add_mid, Nat.zero_add] at h1
      exact h1
    · have h1 := h.cells (g := g) rfl _ _ (dts_at j d hd 1 _ rfl)
      rw [Addr.add_mid, Nat.zero_add] at h1
      exact h1
theorem DL.below {w w' : World} {ao : Option Addr} {S : List Dt} {B : Nat} (h : DL w ao S) (hb : Below B w w') (hB : w.heap.size ≤ B) : DL w' ao S := fun j t ht => by
  obtain ⟨g, hg, hc, hd⟩ := h j t ht
  have hl := Nat.lt_of_lt_of_le (World.block_lt_of_cell? w _ hc) hB
  exact ⟨g, hg, (hb.cell (p := ⟨g, j * 2, none⟩) hl).trans hc, (hb.cell (p := ⟨g, j * 2 + 1, none⟩) hl).trans hd⟩
theorem DRow.range {w : World} {base g n cap : Nat} {S : List Dt} (h : DRow w base (.slice (some ⟨g, 0, none⟩) n cap) S) {k : Nat} {d : Dt} (hd : S[k]? = some d) : w.rangeAt g (k * 2) (dtl d) := fun j v hv => by
  have h1 := h.cells (g := g) rfl _ _ (dts_at k d hd j v hv)
  rw [Addr.add_mid, Nat.zero_add] at h1
  exact h1

theorem infoD : (Try.prog.info? 34).map (fun i => (i.zero, i.size, i.bytes)) = some (some (.agg (dotc 0 0)), 2, 16) := by kernel_rfl
/-- What 'append' of one dot does. -/
theorem wpList_appD {ops : Array Oper} {rest : List Oper} {o : Oper} {a : Act} {w : World} {Q : Exit → Act → World → Prop} (d : Dt) (hw : Region.wanted o (yielded ops a.tmps) = true) (s x : Operand)
    (ho : o.op = .call { callee := .builtin .append, args := #[s, x], argTypes := #[29, 29] })
    (base : Nat) (v : Value) (S : List Dt) (hs : a.eval s = v) (hown : DRow (w.alloc (.cells (dotc d.1 d.2) 34)) base v S)
    (hx : a.eval x = .slice (some ⟨w.heap.size, 0, none⟩) 1 1) (hnm : S.length < 1048576) (hbase : base ≤ w.heap.size)
    (h : ∀ v' w', DRow w' base v' (S ++ [d]) → (w.alloc (.cells (dotc d.1 d.2) 34)).grownBy w' v.ownBlock → wpList Try.prog ops Q rest (a.put o.dst v') w') : wpList Try.prog ops Q (o :: rest) a (w.alloc (.cells (dotc d.1 d.2) 34)) := by
  refine wpList_step fun K hK => ?_
  rw [if_pos hw]
  obtain ⟨i0, hi, hz0, hz1, hz2⟩ := info_parts infoD
  have hF : ∀ j u, (dts [d])[j]? = some u → (w.alloc (.cells (dotc d.1 d.2) 34)).cell? ((⟨w.heap.size, 0, none⟩ : Addr).add j) = some u := fun j u hu => by
    have e1 : dts [d] = dtl d := by simp [dts]
    rw [e1] at hu
    rw [Addr.add_mid, Nat.zero_add, cell_of_row (w.alloc (.cells (dotc d.1 d.2) 34)) w.heap.size j _ _ _ (heap_alloc_new w _)]
    have : dotc d.1 d.2 = (dtl d).toArray := rfl
    rw [this]
    simpa using hu
  obtain ⟨v', w', hr, h2, h3, -⟩ := run_append_own (P := Try.prog) (w.alloc (.cells (dotc d.1 d.2) 34)) base 29 o.type 34 i0 (.agg (dotc 0 0)) 2 i0.bytes Try.underlying29 hi hz0 hz1 rfl rfl (by omega) v S.length (dts S) hown ⟨w.heap.size, 0, none⟩ 1 1 (dts [d]) (dts_length [d]) hF (dts_one [d]) (by unfold maxLen; omega) (by rw [hz2]; omega) (by simp; omega)
  unfold Oper.wp execOp
  simp only [ho, resolve, invoke, builtin, Sem.run_bind, Sem.run_pure, Result.andThen_ok, List.map_toArray, List.map_cons, List.map_nil, hs, hx, hr]
  exact hK _ _ (h v' w' (by rw [DRow, dts_append, List.length_append]; exact h2) h3)
theorem build_dt1 {ops : Array Oper} {rest : List Oper} {o : Oper} {a : Act} {w : World} {Q : Exit → Act → World → Prop} {x : Operand} {d : Dt} (hw : Region.wanted o (yielded ops a.tmps) = true) (ho : o.op = .buildSlice 29 1 #[(0, x)]) (hx : a.eval x = .agg (dotc d.1 d.2))
    (h : wpList Try.prog ops Q rest (a.put o.dst (.slice (some ⟨w.heap.size, 0, none⟩) 1 1)) (w.alloc (.cells (dotc d.1 d.2) 34))) : wpList Try.prog ops Q (o :: rest) a w :=
  wpList_step fun K hK => by
    rw [if_pos hw]
    have hr : (Instr.buildSlice 29 1 #[(0, .agg (dotc d.1 d.2))]).run Try.prog w = .ok (.slice (some ⟨w.heap.size, 0, none⟩) 1 1) (w.alloc (.cells (dotc d.1 d.2) 34)) := by
      obtain ⟨i0, hi, hz0, hz1, hz2⟩ := info_parts infoD
      refine run_buildSlice w 29 34 1 _ (dotc d.1 d.2) i0 _ Try.underlying29 hi hz0 (by rw [hz1]; decide) (by rw [hz1]; decide) ?_
      rw [hz1]
      have := Great.fill_whole (s := 2) (by omega) [.agg (dotc d.1 d.2)] ((Array.range (1 * 2)).map ((Value.agg (dotc 0 0)).cells[· % (Value.agg (dotc 0 0)).cells.size]!)) (by
        intro v hv
        rw [List.mem_singleton.1 hv]
        rfl) (by simp)
      refine Eq.trans this ?_
      simp [Value.cells]
    unfold Oper.wp execOp
    simp only [ho, List.map_toArray, List.map_cons, List.map_nil, hx, Sem.run_bind, Sem.run_pure, Result.andThen_ok, hr]
    exact hK _ _ h
theorem load_dt_mid {ops : Array Oper} {rest : List Oper} {o : Oper} {a : Act} {w : World} {Q : Exit → Act → World → Prop} {x : Operand} {b k : Nat} {d : Dt} (hw : Region.wanted o (yielded ops a.tmps) = true) (ho : o.op = .load 34 x) (hx : a.eval x = .pointer (some ⟨b, k, none⟩)) (hg : w.rangeAt b k (dtl d))
    (h : wpList Try.prog ops Q rest (a.put o.dst (.agg (dotc d.1 d.2))) w) : wpList Try.prog ops Q (o :: rest) a w :=
  wpList_step fun K hK => by
    rw [if_pos hw]
    exact wp_load_mid 34 x ho b k hx (dtl d) _ hg Try.underlying34 rfl (sizeD d.1 d.2) (hK _ _ h)
theorem index_dt (w : World) {b off k m c : Nat} (hk : k < m) : (Instr.indexAt 29 (.slice (some ⟨b, off, none⟩) m c) (.int .i64 (k : Int))).run Try.prog w = .ok (.pointer (some ⟨b, off + k * 2, none⟩)) w := by
  have hk' : (k : Int) < (m : Int) := by omega
  have hs : (Try.prog.info? 34).map (·.size) = some 2 := by kernel_rfl
  have ht : Try.prog.underlying 29 = some (.slice 34) := Try.underlying29
  go_simp

/-! A row that is stored into. -/
theorem dheap_setCells {g : Nat} {t : TypeId} : ∀ (vs : List Value) (o : Nat) (w : World) (cur : Array Value), w.heap[g]? = some (.cells cur t (0, 0)) → (w.setCells g o vs).heap[g]? = some (.cells (setMany cur o vs) t (0, 0))
  | [], _, _, _, h => h
  | v :: vs, o, w, cur, h => dheap_setCells vs (o + 1) (w.setCell ⟨g, o, none⟩ v) (cur.setIfInBounds o v) (heap_setCell_same w g o cur t v h)
theorem dget_take {cur : Array Value} {N : Nat} {L : List Value} (h : cur.toList.take N = L) {t : Nat} (ht : t < N) : cur[t]? = L[t]? := by
  rw [← h, List.getElem?_take_of_lt ht, Array.getElem?_toList]
theorem dtake_many {cur : Array Value} {n i : Nat} {R : List Dt} {u : Dt} (hn : R.length = n) (hc : n * 2 ≤ cur.size) (h : cur.toList.take (n * 2) = dts R) : (setMany cur (i * 2) (dtl u)).toList.take (n * 2) = dts (R.set i u) := by
  have hul := dtl_length u
  have hl2 : (dts (R.set i u)).length = n * 2 := by rw [dts_length, List.length_set, hn]
  apply List.ext_getElem?
  intro t
  by_cases ht : t < n * 2
  · have htc : t < (setMany cur (i * 2) (dtl u)).size := by rw [size_setMany]; omega
    rw [List.getElem?_take_of_lt ht, Array.getElem?_toList, Array.getElem?_eq_getElem htc]
    have hg := get_setMany (dtl u) (i * 2) cur t (by omega)
    rw [getElem!_pos _ t htc, hul] at hg
    rw [hg]
    have hj : t / 2 < n := by omega
    have hr : t % 2 < 2 := Nat.mod_lt _ (by omega)
    by_cases hb : i * 2 ≤ t ∧ t < i * 2 + 2
    · rw [if_pos hb]
      have hji : t / 2 = i := by omega
      have he : (R.set i u)[t / 2]? = some u := by rw [hji, List.getElem?_set_self (by omega)]
      have hv : (dtl u)[t % 2]? = some (dtl u)[t - i * 2]! := by
        rw [show t - i * 2 = t % 2 by omega, List.getElem?_eq_getElem (by omega), getElem!_pos _ _ (by omega)]
      have := dts_at (t / 2) u he (t % 2) _ hv
      rw [show t / 2 * 2 + t % 2 = t by omega] at this
      exact this.symm
    · rw [if_neg hb]
      have hji : i ≠ t / 2 := by omega
      have htc' : t < cur.size := by omega
      have h1 := dget_take h ht
      rw [Array.getElem?_eq_getElem htc'] at h1
      rw [getElem!_pos cur t htc', h1]
      obtain ⟨e, he⟩ : ∃ e, R[t / 2]? = some e := ⟨_, List.getElem?_eq_getElem (by omega)⟩
      have hel := dtl_length e
      obtain ⟨v, hv⟩ : ∃ v, (dtl e)[t % 2]? = some v := ⟨_, List.getElem?_eq_getElem (by omega)⟩
      have a1 := dts_at (t / 2) e he (t % 2) v hv
      have a2 := dts_at (S := R.set i u) (t / 2) e (by rw [List.getElem?_set_ne hji]; exact he) (t % 2) v hv
      rw [show t / 2 * 2 + t % 2 = t by omega] at a1 a2
      rw [a1, a2]
  · rw [List.getElem?_eq_none (by rw [List.length_take, Array.length_toList]; omega), List.getElem?_eq_none (by omega)]
theorem DRow.put {w : World} {base g n cap i : Nat} {R : List Dt} {u : Dt} (h : DRow w base (.slice (some ⟨g, 0, none⟩) n cap) R) (hn : R.length = n) : DRow (w.setCells g (i * 2) (dtl u)) base (.slice (some ⟨g, 0, none⟩) n cap) (R.set i u) := by
  rcases h.2 with ⟨hh, -⟩ | ⟨g', cap', cur, hv, hbg, hg, hnc, hcm, hcs, htk⟩
  · cases hh
  · simp only [Value.slice.injEq, Option.some.injEq, Addr.mk.injEq, and_true] at hv
    obtain ⟨rfl, h1, rfl⟩ := hv
    have hl : (R.set i u).length = R.length := List.length_set
    refine ⟨?_, .inr ⟨g, cap, setMany cur (i * 2) (dtl u), by rw [hl, hn], hbg, dheap_setCells _ _ _ _ hg, by omega, hcm, by rw [size_setMany, hcs], ?_⟩⟩
    · rw [dts_length]
    · rw [hl, hn]
      rw [hn] at htk
      exact dtake_many hn (by omega) htk
/-- What stands behind may turn. -/
theorem DRow.cut {w : World} {base g n cap i : Nat} {R : List Dt} {vs : List Value} (h : DRow w base (.slice (some ⟨g, 0, none⟩) n cap) R) (hn : R.length = n) (hi : i ≤ n) : DRow (w.setCells g (i * 2) vs) base (.slice (some ⟨g, 0, none⟩) i cap) (R.take i) := by
  rcases h.2 with ⟨hh, -⟩ | ⟨g', cap', cur, hv, hbg, hg, hnc, hcm, hcs, htk⟩
  · cases hh
  · simp only [Value.slice.injEq, Option.some.injEq, Addr.mk.injEq, and_true] at hv
    obtain ⟨rfl, h1, rfl⟩ := hv
    have hl : (R.take i).length = i := by rw [List.length_take]; omega
    have hlt : (dts (R.take i)).length = i * 2 := by rw [dts_length, hl]
    refine ⟨by rw [hlt, hl], .inr ⟨g, cap, setMany cur (i * 2) vs, by rw [hl], hbg, dheap_setCells _ _ _ _ hg, by omega, hcm, by rw [size_setMany, hcs], ?_⟩⟩
    rw [hl]
    apply List.ext_getElem?
    intro t
    by_cases ht : t < i * 2
    · have htc : t < cur.size := by omega
      have htm : t < (setMany cur (i * 2) vs).size := by rw [size_setMany]; exact htc
      rw [List.getElem?_take_of_lt ht, Array.getElem?_toList, Array.getElem?_eq_getElem htm]
      have hgm := get_setMany vs (i * 2) cur t htc
      rw [getElem!_pos _ t htm, if_neg (by omega), getElem!_pos cur t htc] at hgm
      rw [hgm]
      rw [hn] at htk
      have h1 := dget_take htk (show t < n * 2 by omega)
      rw [Array.getElem?_eq_getElem htc] at h1
      rw [h1]
      have e1 : dts R = dts (R.take i) ++ dts (R.drop i) := by rw [← dts_append, List.take_append_drop]
      rw [e1, List.getElem?_append_left (by omega)]
    · rw [List.getElem?_eq_none (by rw [List.length_take, Array.length_toList]; omega), List.getElem?_eq_none (by omega)]
theorem DRow.there {w : World} {base g n cap i : Nat} {R : List Dt} (h : DRow w base (.slice (some ⟨g, 0, none⟩) n cap) R) (hn : R.length = n) (hi : i < n) : w.there g (i * 2) 2 := by
  rcases h.2 with ⟨hh, -⟩ | ⟨g', cap', cur, hv, hbg, hg, hnc, hcm, hcs, htk⟩
  · cases hh
  · simp only [Value.slice.injEq, Option.some.injEq, Addr.mk.injEq, and_true] at hv
    obtain ⟨rfl, h1, rfl⟩ := hv
    intro j hj
    have hlt : i * 2 + j < cur.size := by omega
    refine ⟨?_, frozen_of_row w g _ _ _ hg⟩
    rw [cell_of_row w g _ _ _ _ hg, Array.getElem?_eq_getElem hlt]
    rfl
theorem store_dt_at {ops : Array Oper} {rest : List Oper} {o : Oper} {a : Act} {w : World} {Q : Exit → Act → World → Prop} {x y : Operand} {g k : Nat} {d : Dt} (hgd : o.guard = none) (ho : o.op = .store 34 x y)
    (hx : a.eval x = .pointer (some ⟨g, k, none⟩)) (hy : a.eval y = .agg (dotc d.1 d.2)) (hg : w.there g k 2)
    (h : wpList Try.prog ops Q rest (a.put o.dst undef) (w.setCells g k (dtl d))) : wpList Try.prog ops Q (o :: rest) a w :=
  wpList_store_mid hgd 34 x y ho g k (dotc d.1 d.2) hx hy hg (sizeD d.1 d.2) (by simp [dotc, Value.oneCell']) h
theorem dzero_one (k : Nat) : ∀ v ∈ (Builtin.zeroCells (dotc 0 0) k).toList, v.oneCell' = true := by
  intro v hv
  simp only [Builtin.zeroCells, Array.toList_map, List.mem_map] at hv
  obtain ⟨t, -, rfl⟩ := hv
  have ht : t % (dotc 0 0).size < (dotc 0 0).size := Nat.mod_lt _ (by decide)
  rw [getElem!_pos (dotc 0 0) _ ht]
  have : (dotc 0 0)[t % (dotc 0 0).size] ∈ dtl (0, 0) := by
    have h := Array.getElem_mem ht
    exact (Array.mem_toList_iff).2 h
  exact dtl_one _ _ this
theorem DRow.clear {w : World} {base g n cap i : Nat} {R : List Dt} (h : DRow w base (.slice (some ⟨g, 0, none⟩) n cap) R) (hn : R.length = n) (hi : i < n) (ty : TypeId) :
    (Builtin.clear_ #[29] ty #[.slice (some ⟨g, i * 2, none⟩) (n - i) (cap - i)]).run Try.prog w = .ok (.tuple #[]) (w.setCells g (i * 2) (Builtin.zeroCells (dotc 0 0) (n - i)).toList) := by
  have ht : Try.prog.underlying 29 = some (.slice 34) := Try.underlying29
  have hz : ∀ w, (zeroValue 34).run Try.prog w = .ok (.agg (dotc 0 0)) w := Try.zeroValue34
  have hlen : (Builtin.zeroCells (dotc 0 0) (n - i)).toList.length = (n - i) * 2 := by simp [Builtin.zeroCells, dotc]
  rcases h.2 with ⟨hh, -⟩ | ⟨g', cap', cur, hv, hbg, hg, hnc, hcm, hcs, htk⟩
  · cases hh
  · simp only [Value.slice.injEq, Option.some.injEq, Addr.mk.injEq, and_true] at hv
    obtain ⟨rfl, h1, rfl⟩ := hv
    have hst := run_storeCells_cells (P := Try.prog) g (i * 2) (Builtin.zeroCells (dotc 0 0) (n - i)).toList 0 w (fun j hj => by
      rw [hlen] at hj
      have hlt : i * 2 + j < cur.size := by
        have : n * 2 ≤ cur.size := by omega
        omega
      rw [Nat.add_zero, cell_of_row w g _ _ _ _ hg, Array.getElem?_eq_getElem hlt]
      rfl) (fun j _ => frozen_of_row w g _ _ _ hg) (dzero_one _)
    simp only [Nat.add_zero] at hst
    obtain ⟨q, hq⟩ : ∃ q, n - i = q + 1 := ⟨n - i - 1, by omega⟩
    rw [hq] at hst ⊢
    simp [Builtin.clear_, run_underlying ht, hz, Value.cells, hst]
theorem below_puts {B b : Nat} {a : World} (hb : B ≤ b) : ∀ (vs : List Value) (o : Nat) (w : World), Below B a w → Below B a (w.setCells b o vs)
  | [], _, _, h => h
  | v :: r, o, _, h => below_puts hb r (o + 1) _ (h.setCell (p := ⟨b, o, none⟩) hb v)
theorem dslice_from (w : World) {g n cap i : Nat} (hi : i < n) (hn : n ≤ cap) : (Instr.sliceAt 29 (.slice (some ⟨g, 0, none⟩) n cap) (some (.int .i64 (i : Int))) none none).run Try.prog w = .ok (.slice (some ⟨g, i * 2, none⟩) (n - i) (cap - i)) w := by
  have h2 : (i : Int) ≤ (n : Int) := by omega
  have hs : (sizeOf 34).run Try.prog w = .ok 2 w := Try.sizeOf34 w
  have ht : Try.prog.underlying 29 = some (.slice 34) := Try.underlying29
  have he : Try.prog.elem 29 = 34 := by kernel_rfl
  rw [run_sliceAt_slice w 29 _ _ _ _ (by rw [he]; exact ht), run_slice_l w 29 _ n cap (by rw [he]; exact ht) .i64 (i : Int) (by omega) h2, he, hs, Result.andThen_ok]
  unfold sliced
  simp [Addr.add_mid]
  omega
theorem dslice_to (w : World) {ao : Option Addr} {m c k : Nat} (hk : k ≤ c) : (Instr.sliceAt 29 (.slice ao m c) none (some (.int .i64 (k : Int))) none).run Try.prog w = .ok (.slice ao k c) w := by
  have h2 : (k : Int) ≤ (c : Int) := by omega
  have hs : (Try.prog.info? 34).map (·.size) = some 2 := by kernel_rfl
  have ht : Try.prog.underlying 29 = some (.slice 34) := Try.underlying29
  have h3 : (Instr.slice 29 (.slice ao m c) none (some (.int .i64 (k : Int))) none).run Try.prog w = .ok (.slice ao k c) w := by
    cases ao with
    | none => go_simp
    | some ad => go_simp
  simp only [Instr.sliceAt, Sem.run_bind, run_underlying ht, Result.andThen_ok]
  exact h3
end Go.Proofs.Ytlbjdokfnammfaa
