/-
  The comparison that is handed to slices.SortStableFunc: of places, by the events that stand there.
-/
import Derived.Test.YtagjgamigldjnaaGh
import Derived.Test.YtagjgamigldjnaaSsf
import Derived.Test.YtagjgamigldjnaaJst
import Derived.Shelf.SlSortCmp.Insertion1
import Derived.Test.YtagjgamigldjnaaGj
import Derived.Deep.OwnRows
namespace Go.Proofs.Ytagjgamigldjnaa
set_option maxRecDepth 100000
open Go.Shelf Go.RowKit Go.Lib Go.Sort

/-- Both ways. -/
def cfI (N : List Ev) (i j : Nat) : Int := if laterE (atN N i) (atN N j) then -1 else if laterE (atN N j) (atN N i) then 1 else 0
section
variable {P : Program} {ops : Array Oper} {C : World → Prop} {Q : Act → Prop} {a : Act} {o : Oper} {rest : List Oper} {v : Value}
theorem wpQuiet_do (hw : Region.wanted o (yielded ops a.tmps) = true) (h1 : ∀ W, C W → (execOp a.eval o).run P W = .ok (.value v) W) (h : wpQuiet P ops C Q rest (a.put o.dst v)) : wpQuiet P ops C Q (o :: rest) a := by
  unfold wpQuiet
  rw [if_pos hw]
  refine ⟨v, fun W hC => ?_, h⟩
  unfold Oper.quietAt
  rw [h1 W hC]
  exact ⟨rfl, rfl⟩
theorem wpQuiet_call (hw : Region.wanted o (yielded ops a.tmps) = true) (h1 : ∀ W, C W → o.quietAt P a C W v) (h : wpQuiet P ops C Q rest (a.put o.dst v)) : wpQuiet P ops C Q (o :: rest) a := by
  unfold wpQuiet
  rw [if_pos hw]
  exact ⟨v, h1, h⟩
theorem wpQuiet_skip (hw : Region.wanted o (yielded ops a.tmps) = false) (h : wpQuiet P ops C Q rest (a.put o.dst undef)) : wpQuiet P ops C Q (o :: rest) a := by
  unfold wpQuiet
  rw [if_neg (by rw [hw]; decide)]
  exact h
theorem quiet_call {f : FuncId} {xs : List Operand} {ts : Array TypeId} {vs : List Value} {W : World} (ho : o.op = .call ⟨.value (.func f), xs.toArray, ts⟩) (ha : xs.map a.eval = vs) (hr : (callFunc f vs.toArray).run P W = .ok (.enter f vs.toArray) W) (hc : Calls P f vs.toArray W fun e w'' => e = .returned v ∧ C w'') : o.quietAt P a C W v := by
  have ha' : xs.toArray.map a.eval = vs.toArray := by rw [List.map_toArray, ha]
  have h1 : (execOp a.eval o).run P W = .ok (.enter f vs.toArray) W := by
    unfold execOp
    simp only [ho, resolve, Act.eval, Deferred.ofValue, Sem.run_bind, Sem.run_pure, Result.andThen_ok, invoke, Array.append_empty, Array.empty_append]
    rw [show xs.toArray.map (fun x => a.eval x) = vs.toArray from ha']
    exact hr
  unfold Oper.quietAt
  rw [h1]
  exact ⟨rfl, hc⟩
end
/-- The class of worlds. -/
abbrev Grw (w W : World) : Prop := ∃ p : GrownBy, W = grow (w.drewN p.n) p.os
theorem Grw.below {w W : World} (h : Grw w W) : Below w.heap.size w W := by
  obtain ⟨p, rfl⟩ := h
  exact ⟨rfl, rfl, rfl, by simp [grow, World.drewN], fun k hk => by simp [grow, World.drewN, Array.getElem?_append, hk]⟩
theorem Grw.trans {w W X : World} (h : Grw w W) (k : Grw W X) : Grw w X := by
  obtain ⟨⟨n, os⟩, rfl⟩ := h
  obtain ⟨⟨m, os'⟩, rfl⟩ := k
  exact ⟨⟨n + m, os ++ os'⟩, by show grow (grow ((w.drewN n).drewN m) os) os' = _; rw [grow_grow, World.drewN_drewN]⟩
theorem enters_later (xs : Array Value) (w : World) : (callFunc 37 xs).run Try.prog w = .ok (.enter 37 xs) w := enters Try.func37 (by kernel_rfl) (by kernel_rfl) xs w
theorem later_class (b a : Ev) {w W : World} (hC : Grw w W) : Calls Try.prog 37 #[.agg (evc b), .agg (evc a)] W fun e w'' => e = .returned (.bool (laterE b a)) ∧ Grw w w'' := (later_grow b a W).mono fun e w' ⟨h1, h2⟩ => ⟨h1, hC.trans ⟨⟨0, #[.cells (evc b) 41, .cells (evc a) 41]⟩, by rw [h2, alloc_eq_grow, alloc_eq_grow, grow_grow]; rfl⟩⟩
theorem load_sl {w : World} {ad : Addr} {v : Value} (h : w.cell? ad = some v) : (loadVar 22 ad).run Try.prog w = .ok v w := by
  have := Try.isAgg22 w
  go_simp
theorem load_sli {w : World} {ad : Addr} {v : Value} (h : w.cell? ad = some v) : (loadVar 50 ad).run Try.prog w = .ok v w := by
  have := Try.isAgg50 w
  go_simp
set_option maxHeartbeats 4000000 in
theorem icmp_any (N : List Ev) (ao : Option Addr) (m c g i j : Nat) (hi : i < m) (hj : j < m) (w : World) (hc : w.cell? ⟨g, 0, none⟩ = some (.slice ao m c)) (hE : Evs w ao m c N) :
    Calls Try.prog 39 #[.int .i64 (i : Int), .int .i64 (j : Int), .pointer (some ⟨g, 0, none⟩)] w fun e w' => e = .returned (.int .i64 (cfI N i j)) ∧ ∃ q os', w' = grow (w.drewN q) os' := by
  obtain ⟨b, off, u, rfl, hui, hu, hru, hbl⟩ := hE.at hi
  obtain ⟨b', off', x, hao, hxj, hx, hrx, -⟩ := hE.at hj
  obtain ⟨rfl, rfl⟩ : b = b' ∧ off = off' := by simpa using hao
  have hgl : g < w.heap.size := World.block_lt_of_cell? w _ hc
  have HK : Hid (∀ W, Grw w W → W.cell? ⟨g, 0, none⟩ = some (.slice (some ⟨b, off, none⟩) m c) ∧ W.rangeAt b (off + i * 26) (evl u) ∧ W.rangeAt b (off + j * 26) (evl x)) := fun W hC => ⟨(hC.below.cell (p := ⟨g, 0, none⟩) hgl).trans hc, range_below hru hC.below hbl, range_below hrx hC.below hbl⟩
  have hcf : Hid (cfI N i j = if laterE u x then -1 else if laterE x u then 1 else 0) := by show _ = _; unfold cfI; rw [atN_get hui, atN_get hxj]
  clear hE hru hrx hui hxj hc hbl hgl hao
  go_enter Try.func39, Try.ntmps39
  go_wp2_with fail
  have hB := HK.out
  refine wp_region_quiet_grown (by kernel_rfl) (by kernel_rfl) ?_
  refine wpQuiet_do (v := .slice (some ⟨b, off, none⟩) m c) rfl (fun W hC => exec_load (ad := ⟨g, 0, none⟩) rfl rfl (load_sl ((hB W hC).1))) ?_
  simp only [Act.put, List.setIfInBounds_toArray, List.set_cons_zero, List.set_cons_succ]
  refine wpQuiet_do (v := .int .i64 (i : Int)) rfl (fun W hC => exec_move rfl rfl) ?_
  simp only [Act.put, List.setIfInBounds_toArray, List.set_cons_zero, List.set_cons_succ]
  refine wpQuiet_do (v := .pointer (some ⟨b, off + i * 26, none⟩)) rfl (fun W hC => exec_index rfl rfl rfl (index_ev W hi)) ?_
  simp only [Act.put, List.setIfInBounds_toArray, List.set_cons_zero, List.set_cons_succ]
  refine wpQuiet_do (v := .agg (evc u)) rfl (fun W hC => exec_load (ad := ⟨b, off + i * 26, none⟩) rfl rfl (load_part ((hB W hC).2.1) hu.1)) ?_
  simp only [Act.put, List.setIfInBounds_toArray, List.set_cons_zero, List.set_cons_succ]
  refine wpQuiet_do (v := .slice (some ⟨b, off, none⟩) m c) rfl (fun W hC => exec_load (ad := ⟨g, 0, none⟩) rfl rfl (load_sl ((hB W hC).1))) ?_
  simp only [Act.put, List.setIfInBounds_toArray, List.set_cons_zero, List.set_cons_succ]
  refine wpQuiet_do (v := .int .i64 (j : Int)) rfl (fun W hC => exec_move rfl rfl) ?_
  simp only [Act.put, List.setIfInBounds_toArray, List.set_cons_zero, List.set_cons_succ]
  refine wpQuiet_do (v := .pointer (some ⟨b, off + j * 26, none⟩)) rfl (fun W hC => exec_index rfl rfl rfl (index_ev W hj)) ?_
  simp only [Act.put, List.setIfInBounds_toArray, List.set_cons_zero, List.set_cons_succ]
  refine wpQuiet_do (v := .agg (evc x)) rfl (fun W hC => exec_load (ad := ⟨b, off + j * 26, none⟩) rfl rfl (load_part ((hB W hC).2.2) hx.1)) ?_
  simp only [Act.put, List.setIfInBounds_toArray, List.set_cons_zero, List.set_cons_succ]
  refine wpQuiet_call (v := .bool (laterE u x)) rfl (fun W hC => quiet_call (xs := [.tmp 10, .tmp 14]) (vs := [.agg (evc u), .agg (evc x)]) rfl rfl (enters_later _ _) (later_class u x hC)) ?_
  simp only [Act.put, List.setIfInBounds_toArray, List.set_cons_zero, List.set_cons_succ]
  refine wpQuiet_do (v := .bool (laterE u x)) rfl (fun W hC => exec_assign rfl rfl) ?_
  simp only [Act.put, List.setIfInBounds_toArray, List.set_cons_zero, List.set_cons_succ]
  refine wpQuiet_nil ?_
  intro W1 hC1
  clear hB
  have HC1 : Hid (Grw w W1) := hC1
  clear hC1
  rcases Bool.eq_false_or_eq_true (laterE u x) with h1 | h1
  · rw [h1]
    have HC : Hid (cfI N i j = -1) := by show _ = _; rw [hcf.out, h1]; rfl
    clear hcf HK h1
    go_wp2
    go_ret
    obtain ⟨p, hp⟩ := HC1.out
    exact ⟨by rw [HC.out]; rfl, p.n, p.os, hp⟩
  · rw [h1]
    go_wp2_with fail
    have hB : ∀ W, Grw W1 W → W.cell? ⟨g, 0, none⟩ = some (.slice (some ⟨b, off, none⟩) m c) ∧ W.rangeAt b (off + i * 26) (evl u) ∧ W.rangeAt b (off + j * 26) (evl x) := fun W hC => HK.out W (HC1.out.trans hC)
    refine wp_region_quiet_grown (by kernel_rfl) (by kernel_rfl) ?_
    refine wpQuiet_do (v := .slice (some ⟨b, off, none⟩) m c) rfl (fun W hC => exec_load (ad := ⟨g, 0, none⟩) rfl rfl (load_sl ((hB W hC).1))) ?_
    simp only [Act.put, List.setIfInBounds_toArray, List.set_cons_zero, List.set_cons_succ]
    refine wpQuiet_do (v := .int .i64 (j : Int)) rfl (fun W hC => exec_move rfl rfl) ?_
    simp only [Act.put, List.setIfInBounds_toArray, List.set_cons_zero, List.set_cons_succ]
    refine wpQuiet_do (v := .pointer (some ⟨b, off + j * 26, none⟩)) rfl (fun W hC => exec_index rfl rfl rfl (index_ev W hj)) ?_
    simp only [Act.put, List.setIfInBounds_toArray, List.set_cons_zero, List.set_cons_succ]
    refine wpQuiet_do (v := .agg (evc x)) rfl (fun W hC => exec_load (ad := ⟨b, off + j * 26, none⟩) rfl rfl (load_part ((hB W hC).2.2) hx.1)) ?_
    simp only [Act.put, List.setIfInBounds_toArray, List.set_cons_zero, List.set_cons_succ]
    refine wpQuiet_do (v := .slice (some ⟨b, off, none⟩) m c) rfl (fun W hC => exec_load (ad := ⟨g, 0, none⟩) rfl rfl (load_sl ((hB W hC).1))) ?_
    simp only [Act.put, List.setIfInBounds_toArray, List.set_cons_zero, List.set_cons_succ]
    refine wpQuiet_do (v := .int .i64 (i : Int)) rfl (fun W hC => exec_move rfl rfl) ?_
    simp only [Act.put, List.setIfInBounds_toArray, List.set_cons_zero, List.set_cons_succ]
    refine wpQuiet_do (v := .pointer (some ⟨b, off + i * 26, none⟩)) rfl (fun W hC => exec_index rfl rfl rfl (index_ev W hi)) ?_
    simp only [Act.put, List.setIfInBounds_toArray, List.set_cons_zero, List.set_cons_succ]
    refine wpQuiet_do (v := .agg (evc u)) rfl (fun W hC => exec_load (ad := ⟨b, off + i * 26, none⟩) rfl rfl (load_part ((hB W hC).2.1) hu.1)) ?_
    simp only [Act.put, List.setIfInBounds_toArray, List.set_cons_zero, List.set_cons_succ]
    refine wpQuiet_call (v := .bool (laterE x u)) rfl (fun W hC => quiet_call (xs := [.tmp 20, .tmp 24]) (vs := [.agg (evc x), .agg (evc u)]) rfl rfl (enters_later _ _) (later_class x u hC)) ?_
    simp only [Act.put, List.setIfInBounds_toArray, List.set_cons_zero, List.set_cons_succ]
    refine wpQuiet_do (v := .bool (laterE x u)) rfl (fun W hC => exec_assign rfl rfl) ?_
    simp only [Act.put, List.setIfInBounds_toArray, List.set_cons_zero, List.set_cons_succ]
    refine wpQuiet_nil ?_
    intro W2 hC2
    have HC2 : Hid (Grw w W2) := HC1.out.trans hC2
    clear hB hC2 HK HC1
    rcases Bool.eq_false_or_eq_true (laterE x u) with h2 | h2
    · rw [h2]
      have HC : Hid (cfI N i j = 1) := by show _ = _; rw [hcf.out, h1, h2]; rfl
      clear hcf h1 h2
      go_wp2
      go_ret
      obtain ⟨p, hp⟩ := HC2.out
      exact ⟨by rw [HC.out]; rfl, p.n, p.os, hp⟩
    · rw [h2]
      have HC : Hid (cfI N i j = 0) := by show _ = _; rw [hcf.out, h1, h2]; rfl
      clear hcf h1 h2
      go_wp2
      go_ret
      obtain ⟨p, hp⟩ := HC2.out
      exact ⟨by rw [HC.out]; rfl, p.n, p.os, hp⟩
end Go.Proofs.Ytagjgamigldjnaa

namespace Go.Proofs.Ytagjgamigldjnaa
set_option maxRecDepth 100000
open Go.Shelf Go.RowKit Go.Lib Go.Sort

theorem J.stAt : J.StAt Try.prog where
  mixed := by kernel_rfl
  fsw := Try.func64
  fro := Try.func61
  fsy := Try.func57
  fst := Try.func48
  fss := Try.func38
  t0 := Try.underlying0
  a0 := Try.isAgg0
  z0 := Try.sizeOf0
  v0 := Try.zeroValue0
  t3 := Try.underlying3
  a3 := Try.isAgg3
  z3 := Try.sizeOf3
  v3 := Try.zeroValue3
  t4 := Try.underlying4
  a4 := Try.isAgg4
  z4 := Try.sizeOf4
  v4 := Try.zeroValue4
  tu := Try.underlying35
  au := Try.isAgg35
  zu := Try.sizeOf35
  vu := Try.zeroValue35
  ts := Try.underlying50
  asl := Try.isAgg50
  zs := Try.sizeOf50
  vs := Try.zeroValue50
  tc := Try.underlying67
  ac := Try.isAgg67
  zc := Try.sizeOf67
  vc := Try.zeroValue67
def J.insRen : Go.Shelf.Ren := ⟨fun
    | 20 => 56
    | n => n, fun
    | 22 => 50
    | 24 => 3
    | 25 => 67
    | n => n, fun
    | n => n⟩
theorem J.insLaid : Go.Proofs.SlLaysF.n20 Try.prog J.insRen :=
  { mixed := by kernel_rfl,
    f20 := ⟨Try.f56.name, by decide, Try.func56.trans (congrArg some (by kernel_rfl))⟩,
    t0 := Try.underlying0, a0 := Try.isAgg0, z0 := Try.sizeOf0, v0 := Try.zeroValue0,
    t3 := Try.underlying3, a3 := Try.isAgg3, z3 := Try.sizeOf3, v3 := Try.zeroValue3,
    t4 := Try.underlying4, a4 := Try.isAgg4, z4 := Try.sizeOf4, v4 := Try.zeroValue4,
    t22 := Try.underlying50, a22 := Try.isAgg50, z22 := Try.sizeOf50, v22 := Try.zeroValue50,
    a24 := Try.isAgg3, z24 := Try.sizeOf3,
    t25 := Try.underlying67, a25 := Try.isAgg67, z25 := Try.sizeOf67, v25 := Try.zeroValue67 }
/-- Places. -/
abbrev Pl (m : Nat) := { i : Nat // i < m }
def ePl {m : Nat} (x : Pl m) : Value := nv x.1
def cfP (N : List Ev) {m : Nat} (x y : Pl m) : Int := cfI N x.1 y.1
theorem cfP_lt (N : List Ev) {m : Nat} (x y : Pl m) : ltOf (cfP N) x y = laterE (atN N x.1) (atN N y.1) := by
  unfold ltOf cfP cfI
  rcases Bool.eq_false_or_eq_true (laterE (atN N x.1) (atN N y.1)) with h1 | h1 <;> rcases Bool.eq_false_or_eq_true (laterE (atN N y.1) (atN N x.1)) with h2 | h2 <;> rw [h1] <;> simp
  · rw [h2]; simp
  · rw [h2]; simp
theorem cfP_swo (N : List Ev) (m : Nat) : SWO (ltOf (cfP N) : Pl m → Pl m → Bool) where
  irrefl x := by rw [cfP_lt]; exact lat_self _
  trans x y z h1 h2 := by rw [cfP_lt] at *; exact lat_tr h1 h2
  ntrans x y z h1 h2 := by rw [cfP_lt] at *; exact later_ntrans h1 h2
/-- All places, the latest first. -/
structure Lf (N : List Ev) (m : Nat) (L : List Nat) : Prop where
  ord : L.Pairwise (Ahd N)
  mem : ∀ i, i ∈ L ↔ i < m
theorem Lf.len {N : List Ev} {m : Nat} {L : List Nat} (h : Lf N m L) : L.length = m := by
  have hn : L.Nodup := h.ord.imp (fun {a b} hab e => by subst e; exact ahd_asym a a hab hab)
  have hp : L.Perm (List.range m) := List.perm_ext_iff_of_nodup hn List.nodup_range |>.2 (fun a => by rw [h.mem a, List.mem_range])
  rw [hp.length_eq, List.length_range]
theorem lf_of {N : List Ev} {m : Nat} [Inhabited (Pl m)] {d d' : Array (Pl m)} {k : Nat} (hk : d.size = k) (hd : d.toList.map (·.1) = List.range m) (h1 : Stab (ltOf (cfP N)) d d' 0 k) (h2 : SortedIn (ltOf (cfP N)) 0 k d') : Lf N m (d'.toList.map (·.1)) := by
  subst hk
  have hs := h1.size
  have same : ∀ x, d'.toList.filter (eqv (ltOf (cfP N)) x) = d.toList.filter (eqv (ltOf (cfP N)) x) := fun x => by
    have := h1.same x
    rw [show seg d' 0 d.size = d'.toList by rw [← hs]; exact seg_all d', seg_all d] at this
    exact this
  have asc : d.toList.Pairwise (fun a b => a.1 < b.1) := by
    have : (d.toList.map (·.1)).Pairwise (· < ·) := by rw [hd]; exact List.pairwise_lt_range
    exact List.pairwise_map.1 this
  refine ⟨?_, fun i => ?_⟩
  · rw [List.pairwise_map, List.pairwise_iff_getElem]
    intro i j hi hj hij
    have hi' : i < d'.size := by simpa using hi
    have hj' : j < d'.size := by simpa using hj
    have h3 := h2 i j (Nat.zero_le _) hij (by omega)
    rw [getElem!_pos d' j hj', getElem!_pos d' i hi', cfP_lt] at h3
    simp only [Array.getElem_toList]
    cases h4 : laterE (atN N (d'[i]).1) (atN N (d'[j]).1)
    · refine .inr ⟨h3, ?_⟩
      have hf : (d'.toList.filter (eqv (ltOf (cfP N)) d'[i])).Pairwise (fun a b => a.1 < b.1) := by rw [same]; exact asc.filter _
      rw [List.pairwise_filter] at hf
      have := List.pairwise_iff_getElem.1 hf i j hi hj hij
      simp only [Array.getElem_toList] at this
      exact this (eqv_self (cfP_swo N m) _) (eqv_iff.2 ⟨by rw [cfP_lt]; exact h4, by rw [cfP_lt]; exact h3⟩)
    · exact .inl h4
  · constructor
    · intro h
      obtain ⟨x, -, rfl⟩ := List.mem_map.1 h
      exact x.2
    · intro hi
      have hx : (⟨i, hi⟩ : Pl m) ∈ d.toList := by
        have : i ∈ d.toList.map (·.1) := by rw [hd]; exact List.mem_range.2 hi
        obtain ⟨y, hy, e⟩ := List.mem_map.1 this
        have : y = ⟨i, hi⟩ := Subtype.ext e
        rw [← this]; exact hy
      have h5 : (⟨i, hi⟩ : Pl m) ∈ d.toList.filter (eqv (ltOf (cfP N)) ⟨i, hi⟩) := List.mem_filter.2 ⟨hx, eqv_self (cfP_swo N m) _⟩
      rw [← same] at h5
      exact List.mem_map.2 ⟨_, (List.mem_filter.1 h5).1, rfl⟩
theorem heap_sortW {m : Nat} [Inhabited (Pl m)] {w : World} {g n k : Nat} {os : Array Obj} {d : Array (Pl m)} (hk : k < w.heap.size) (hne : k ≠ g) : (sortWorld ePl w g 0 n d os).heap[k]? = w.heap[k]? := by
  unfold sortWorld
  rw [heap_grow_old _ _ (by simpa [putRow, mapBlock, Sort.ahead] using hk)]
  have : g ≠ k := fun e => hne e.symm
  simp [putRow, mapBlock, Sort.ahead, Array.getElem?_modify, this]
theorem grownBy_sortW {m : Nat} [Inhabited (Pl m)] {w : World} {g n : Nat} {os : Array Obj} (d : Array (Pl m)) : w.grownBy (sortWorld ePl w g 0 n d os) (some g) := by
  refine ⟨rfl, rfl, rfl, by simp [sortWorld, grow, putRow, mapBlock, Sort.ahead], fun k hk hne => heap_sortW hk (fun e => hne (by rw [e]))⟩
theorem icmp_enters : ∀ args w, (callFunc 39 args).run Try.prog w = .ok (.enter 39 args) w := enters_of Try.func39 (by kernel_rfl) rfl
set_option maxHeartbeats 1000000 in
theorem iinsort_none (ao : Option Addr) (c : Nat) (v0 : Value) (w : World) : Calls Try.prog 56 #[.slice ao 0 c, .int .i64 0, .int .i64 0, v0] w fun e w' => e = .returned (.tuple #[]) ∧ w' = w := by
  go_enter Try.func56, Try.ntmps56
  go_wp2
  go_loopg [8] 0 (fun _ s8 wr => s8 = .int .i64 1 ∧ wr = w)
  case atStart => exact ⟨rfl, rfl⟩
  case round =>
    obtain ⟨rfl, rfl⟩ := hrel
    go_wp2
    go_end0
    exact ⟨rfl, rfl⟩
set_option maxHeartbeats 1000000 in
theorem istable_none (ao : Option Addr) (c : Nat) (v0 : Value) (w : World) : Calls Try.prog 48 #[.slice ao 0 c, .int .i64 0, v0] w fun e w' => e = .returned (.tuple #[]) ∧ w' = w := by
  go_enter Try.func48, Try.ntmps48
  go_wp2
  go_loopg [7, 8] 0 (fun _ s7 s8 wr => s7 = .int .i64 0 ∧ s8 = .int .i64 20 ∧ wr = w)
  case atStart => exact ⟨rfl, rfl, rfl⟩
  case round =>
    obtain ⟨rfl, rfl, rfl⟩ := hrel
    go_wp2_with fail
    refine (iinsort_none ao c v0 _).mono ?_
    rintro e w1 ⟨rfl, rfl⟩
    go_wp2
    go_loopg [6, 7, 8] 0 (fun _ s6 s7 s8 wr => s6 = .int .i64 20 ∧ wr = w1)
    case atStart => exact ⟨rfl, rfl⟩
    case round =>
      obtain ⟨rfl, rfl⟩ := hrel
      go_wp2
      go_end0
      exact ⟨rfl, rfl⟩
/-- slices.SortStableFunc of places. -/
theorem istable_any (N : List Ev) (ao : Option Addr) (m c gn g : Nat) (w : World) (hc : w.cell? ⟨gn, 0, none⟩ = some (.slice ao m c)) (hE : Evs w ao m c N) (hrow : w.rowIs g 3 m nv) (hg1 : gn ≠ g) (hg2 : 0 < m → ∀ ad, ao = some ad → ad.block ≠ g ∧ ad.block < w.heap.size) (hm : m ≤ 1000) :
    Calls Try.prog 48 #[.slice (some ⟨g, 0, none⟩) m m, .int .i64 (m : Int), .func (.func 39) #[] #[.pointer (some ⟨gn, 0, none⟩)]] w fun e w' => e = .returned (.tuple #[]) ∧ ∃ L, Lf N m L ∧ IV w' (some ⟨g, 0, none⟩) m m L ∧ w.grownBy w' (some g) := by
  by_cases h0 : m = 0
  · subst h0
    refine (istable_none _ _ _ w).mono ?_
    rintro e w' ⟨rfl, rfl⟩
    exact ⟨rfl, [], ⟨List.Pairwise.nil, fun i => by simp⟩, ⟨rfl, Nat.le_refl _, (fun h => by cases h), (fun ad ha => by rw [← Option.some.inj ha]), fun ad ha j n hn => by cases hn⟩, World.grownBy.refl _ _⟩
  · haveI : Inhabited (Pl m) := ⟨⟨0, by omega⟩⟩
    have hgl := hrow.lt
    have hgn : gn < w.heap.size := World.block_lt_of_cell? w _ hc
    obtain ⟨d, hd⟩ : ∃ d : Array (Pl m), d.toList.map (·.1) = List.range m := ⟨((List.range m).pmap (fun i hi => (⟨i, hi⟩ : Pl m)) (fun i hi => List.mem_range.1 hi)).toArray, by simp [List.map_pmap]⟩
    have hds : d.size = m := by have := congrArg List.length hd; simpa using this
    have hdj : ∀ j, j < m → (d[j]!).1 = j := fun j hj => by
      have h5 : (d.toList.map (·.1))[j]? = some j := by rw [hd]; simp [hj]
      rw [List.getElem?_map, Array.getElem?_toList, Array.getElem?_eq_getElem (by omega)] at h5
      rw [getElem!_pos d j (by omega)]
      simpa using h5
    have hH : Holds ePl w g 0 d := fun j hj => ⟨by rw [Nat.zero_add, hrow.cell (by omega)]; show some (nv j) = some (nv (d[j]!).1); rw [hdj j (by omega)], by rw [Nat.zero_add]; exact hrow.frozen j⟩
    have R : Row1 ePl w g 0 d := ⟨fun _ => rfl, hH, hgl⟩
    have hcmp : ∀ w0 : World, (∀ k, k < w.heap.size → k ≠ g → w0.heap[k]? = w.heap[k]?) → w.heap.size ≤ w0.heap.size → CmpLays1 Try.prog 39 #[.pointer (some ⟨gn, 0, none⟩)] (ePl : Pl m → Value) (cfP N) g 0 m w0 := fun w0 hk hsz mm os dk _ x y => by
      have hh : ∀ k, k < w.heap.size → k ≠ g → (sortWorld ePl w0 g 0 mm dk os).heap[k]? = w.heap[k]? := fun k h1 h2 => (heap_sortW (m := m) (by omega) h2).trans (hk k h1 h2)
      exact icmp_any N ao m c gn x.1 y.1 x.2 y.2 _ (by have := hh gn hgn hg1; simp only [World.cell?] at hc ⊢; rw [this]; exact hc) (hE.kept (fun h ad ha => hh _ (hg2 h ad ha).2 (hg2 h ad ha).1))
    have hI : J.Inserts Try.prog (ePl : Pl m → Value) (cfP N) (.func (.func 39) #[] #[.pointer (some ⟨gn, 0, none⟩)]) g 0 m m w := by
      intro a b d1 w1 hab hb hd1 S1
      have hcon := Any.insertionSortCmpFunc_s J.insLaid ePl (cfP N) 39 #[.pointer (some ⟨gn, 0, none⟩)] g 0 m a b d d1 w w1 icmp_enters (by rw [hds]; exact hcmp w (fun _ _ _ => rfl) (Nat.le_refl _)) R (by omega) S1.out hab (by omega) (by omega)
      rw [hd1] at hcon
      change Calls Try.prog 56 _ _ _ at hcon
      refine hcon.mono ?_
      rintro e w' ⟨he, hS⟩
      obtain ⟨h1, h2⟩ := ins_stab (cfP_swo N _) d1 a b hab (by omega)
      exact ⟨he, _, hS, h1, h2⟩
    have hcon := J.stable_at J.stAt (enters_of Try.func56 (by kernel_rfl) rfl) ePl (cfP N) (.func (.func 39) #[] #[.pointer (some ⟨gn, 0, none⟩)]) g 0 m m d w w hI
      (fun a q b h1 h2 h3 => J.sym_any J.stAt ePl (cfP N) (cfP_swo N m) 39 #[.pointer (some ⟨gn, 0, none⟩)] icmp_enters g 0 m m d w (by rw [hds]; exact hcmp w (fun _ _ _ => rfl) (Nat.le_refl _)) R hds (by omega) _ a q b (Nat.le_refl _) h1 h2 h3) hds (SW.start hH) (by omega)
    refine hcon.mono ?_
    rintro e w' ⟨he, d', hS, h1, h2⟩
    have hsz := h1.size
    have hHs := hS.holds hgl hH hsz
    have hLf := lf_of hds hd h1 h2
    refine ⟨he, d'.toList.map (·.1), hLf, ⟨hLf.len, Nat.le_refl _, (fun h => by cases h), (fun ad ha => by rw [← Option.some.inj ha]), fun ad ha j n hn => ?_⟩, ?_⟩
    · obtain rfl : (⟨g, 0, none⟩ : Addr) = ad := Option.some.inj ha
      rw [List.getElem?_map, Array.getElem?_toList] at hn
      cases hj : d'[j]? with
      | none => rw [hj] at hn; cases hn
      | some x =>
        rw [hj] at hn
        have hn' : x.1 = n := Option.some.inj hn
        have hjl := (Array.getElem?_eq_some_iff.1 hj).1
        have h5 := (hHs j hjl).1
        rw [getElem!_pos d' j hjl, (Array.getElem?_eq_some_iff.1 hj).2] at h5
        rw [← hn']
        exact h5
    · obtain ⟨n, os, rfl⟩ := hS
      exact grownBy_sortW d'
set_option maxHeartbeats 1000000 in
theorem isort_any (N : List Ev) (ao : Option Addr) (m c gn g : Nat) (w : World) (hc : w.cell? ⟨gn, 0, none⟩ = some (.slice ao m c)) (hE : Evs w ao m c N) (hrow : w.rowIs g 3 m nv) (hg1 : gn ≠ g) (hg2 : 0 < m → ∀ ad, ao = some ad → ad.block ≠ g ∧ ad.block < w.heap.size) (hm : m ≤ 1000) :
    Calls Try.prog 38 #[.slice (some ⟨g, 0, none⟩) m m, .func (.func 39) #[] #[.pointer (some ⟨gn, 0, none⟩)]] w fun e w' => e = .returned (.tuple #[]) ∧ ∃ L, Lf N m L ∧ IV w' (some ⟨g, 0, none⟩) m m L ∧ w.grownBy w' (some g) := by
  have HC : Hid _ := istable_any N ao m c gn g w hc hE hrow hg1 hg2 hm
  clear hc hE hrow hg1 hg2
  go_enter Try.func38, Try.ntmps38
  go_wp2_with fail
  refine Calls.mono HC.out ?_
  rintro e w1 ⟨rfl, h1⟩
  have h2 : Hid _ := h1
  clear h1 HC
  go_wp2
  go_end0
  exact ⟨rfl, h2.out⟩
theorem info_int : Try.prog.underlying 50 = some (.slice 3) := Try.underlying50
theorem make_i (w : World) (m : Nat) (hm : m ≤ 1000) : (Instr.makeSlice 50 (.int .i64 (m : Int)) (.int .i64 (m : Int))).run Try.prog w = .ok (.slice (some ⟨w.heap.size, 0, none⟩) m m) (w.alloc (.cells (madeCells #[.int .i64 0] m) 3)) := by
  obtain ⟨i0, hi, hz0, hz1, hz2⟩ := info_parts infoI
  have := run_makeSlice (P := Try.prog) w 50 3 i0 (.int .i64 0) Try.underlying50 hi hz0 .i64 .i64 (m : Int) (m : Int) (by omega) (Int.le_refl _) (by rw [hz1]; simp; omega) (by rw [hz2]; omega) (by omega)
  rw [hz1, Int.toNat_natCast, Nat.mul_one] at this
  exact this
set_option maxHeartbeats 4000000 in
theorem latestf_any (ao : Option Addr) (m c : Nat) (N : List Ev) (w : World) (hE : Evs w ao m c N) (hm : m ≤ 1000) :
    Calls Try.prog 30 #[.slice ao m c] w fun e w' => ∃ g L, e = .returned (.slice (some ⟨g, 0, none⟩) m m) ∧ Lf N m L ∧ IV w' (some ⟨g, 0, none⟩) m m L ∧ Below w.heap.size w w' := by
  have hB1 : Below w.heap.size w (w.alloc (.cells #[.slice ao m c] 22)) := (Below.refl _ _).alloc (Nat.le_refl _) _
  have hmk := fun W : World => make_i W m hm
  obtain ⟨W1, hW1⟩ : ∃ W, w.alloc (.cells #[.slice ao m c] 22) = W := ⟨_, rfl⟩
  have hone : W1.heap[w.heap.size]? = some (.cells #[.slice ao m c] 22 (0, 0)) := by rw [← hW1]; exact heap_alloc_new w _
  rw [hW1] at hB1
  have hs1 : W1.heap.size = w.heap.size + 1 := by rw [← hW1]; simp
  have H0 : Aside (Evs (W1.alloc (.cells (madeCells #[.int .i64 0] m) 3)) ao m c N ∧ (W1.alloc (.cells (madeCells #[.int .i64 0] m) 3)).rowIs (w.heap.size + 1) 3 m (fun j => if j < 0 then nv j else nv 0) ∧ Below w.heap.size w (W1.alloc (.cells (madeCells #[.int .i64 0] m) 3)) ∧ (W1.alloc (.cells (madeCells #[.int .i64 0] m) 3)).cell? ⟨w.heap.size, 0, none⟩ = some (.slice ao m c)) := by
    have hB2 : Below W1.heap.size W1 (W1.alloc (.cells (madeCells #[.int .i64 0] m) 3)) := (Below.refl _ _).alloc (Nat.le_refl _) _
    refine ⟨(hE.below hB1 (Nat.le_refl _)).below hB2 (Nat.le_refl _), ?_, hB1.trans (hB2.mono (by omega)), ?_⟩
    · have := World.rowIs_made W1 (.int .i64 0) m 3
      rw [hs1] at this
      exact this.congr (fun i _ => rfl)
    · rw [(hB2.cell (p := ⟨w.heap.size, 0, none⟩) (by show w.heap.size < W1.heap.size; omega))]
      exact cell_of_one hone
  have hc1 : W1.cell? ⟨w.heap.size, 0, none⟩ = some (.slice ao m c) := cell_of_one hone
  have hao : Hid (∀ ad, ao = some ad → 0 < m → ad.block < w.heap.size) := by
    show ∀ ad, _
    intro ad ha h0
    obtain ⟨b, off, u, e1, -, -, -, hbl⟩ := hE.at h0
    rw [e1] at ha
    obtain rfl := Option.some.inj ha
    exact hbl
  clear hE hB1 hone
  go_enter Try.func30, Try.ntmps30
  go_wp2_with (rw [hW1])
  clear hmk hc1
  generalize W1.alloc (.cells (madeCells #[.int .i64 0] m) 3) = W2 at H0 ⊢
  clear hW1 hs1
  go_loopg [10] m (fun kx s10 wr => ∃ i : Nat, s10 = .int .i64 i ∧ i ≤ m ∧ m - i ≤ kx ∧ Aside (Evs wr ao m c N ∧ wr.rowIs (w.heap.size + 1) 3 m (fun j => if j < i then nv j else nv 0) ∧ Below w.heap.size w wr ∧ wr.cell? ⟨w.heap.size, 0, none⟩ = some (.slice ao m c)))
  case atStart => exact ⟨0, rfl, Nat.zero_le _, by omega, H0⟩
  case round =>
    clear H0
    obtain ⟨i, rfl, him, hkx, HS⟩ := hrel
    by_cases hlt : i < m
    · have hltz : (i : Int) < (m : Int) := by omega
      have hix := fun W : World => index_i W (b := w.heap.size + 1) (off := 0) (k := i) (m := m) (c := m) hlt
      simp only [Nat.zero_add] at hix
      have hcl := HS.out.2.1.cell hlt
      have hfr := HS.out.2.1.frozen i
      have HS1 : Aside (Evs (wr.setCell ⟨w.heap.size + 1, i, none⟩ (.int .i64 (i : Int))) ao m c N ∧ (wr.setCell ⟨w.heap.size + 1, i, none⟩ (.int .i64 (i : Int))).rowIs (w.heap.size + 1) 3 m (fun j => if j < i + 1 then nv j else nv 0) ∧ Below w.heap.size w (wr.setCell ⟨w.heap.size + 1, i, none⟩ (.int .i64 (i : Int))) ∧ (wr.setCell ⟨w.heap.size + 1, i, none⟩ (.int .i64 (i : Int))).cell? ⟨w.heap.size, 0, none⟩ = some (.slice ao m c)) := by
        have hoth : ∀ k, k ≠ w.heap.size + 1 → (wr.setCell ⟨w.heap.size + 1, i, none⟩ (.int .i64 (i : Int))).heap[k]? = wr.heap[k]? := fun k hk => heap_setCell_other wr ⟨w.heap.size + 1, i, none⟩ k _ hk
        refine ⟨HS.out.1.kept (fun h0 ad ha => hoth _ (by have := hao.out ad ha h0; omega)), (HS.out.2.1.set i _).congr (fun j hj => ?_), ⟨HS.out.2.2.1.os, HS.out.2.2.1.tape, HS.out.2.2.1.output, by rw [World.size_setCell]; exact HS.out.2.2.1.size, fun k hk => (hoth k (by omega)).trans (HS.out.2.2.1.block k hk)⟩, ?_⟩
        · by_cases e : j = i
          · subst e; simp [nv]
          · by_cases e2 : j < i
            · simp [e, e2, show j < i + 1 by omega]
            · simp [e, e2, show ¬ j < i + 1 by omega]
        · have h5 := HS.out.2.2.2
          simp only [World.cell?] at h5 ⊢
          rw [hoth _ (by omega)]
          exact h5
      clear HS
      go_wp2
      go_roundg (m - (i + 1))
      case measure => omega
      case rel => exact ⟨i + 1, by go_num, by omega, Nat.le_refl _, HS1⟩
    · obtain rfl : i = m := by omega
      have hltz : ¬ (i : Int) < (i : Int) := by omega
      have hcon := isort_any N ao i c w.heap.size (w.heap.size + 1) wr HS.out.2.2.2 HS.out.1 (HS.out.2.1.congr (fun j hj => by rw [if_pos hj])) (by omega) (fun h ad ha => ⟨by have := hao.out ad ha h; omega, by have := hao.out ad ha h; have := HS.out.2.2.1.size; omega⟩) hm
      have HC : Hid _ := hcon
      have HB : Hid (Below w.heap.size w wr) := HS.out.2.2.1
      clear hcon HS hao
      go_wp2_with fail
      refine Calls.mono HC.out ?_
      rintro e w1 ⟨rfl, L, h1, h2, h3⟩
      have HF : Hid (Lf N i L ∧ IV w1 (some ⟨w.heap.size + 1, 0, none⟩) i i L ∧ Below w.heap.size w w1) := ⟨h1, h2, HB.out.grown h3 HB.out.size (fun k hk => by have : w.heap.size + 1 = k := Option.some.inj hk; omega)⟩
      clear h1 h2 h3 HC HB
      go_wp2
      go_ret
      exact ⟨_, L, rfl, HF.out⟩
end Go.Proofs.Ytagjgamigldjnaa
