/-
  The comparison that is handed to slices.SortStableFunc: of places, by the events that stand there.
-/
import Derived.Test.YtagjgamigldjnaaKgr
import Derived.Test.YtagjgamigldjnaaSsf
import Derived.Test.YtagjgamigldjnaaJst
import Derived.Shelf.SlSortCmp.Insertion1
import Derived.Test.YtagjgamigldjnaaLhd
namespace Go.Proofs.Ytagjgamigldjnaa
set_option maxRecDepth 100000
open Go.Shelf Go.RowKit Go.Lib Go.Sort

/-- Both ways. -/
def cfI (N : List Ev) (i j : Nat) : Int := if laterE (atN N i) (atN N j) then -1 else if laterE (atN N j) (atN N i) then 1 else 0
section
variable {P : Program} {ops : Array Oper} {C : World → Prop} {Q : Act → Prop} {a : Act} {o : Oper} {rest : List Oper} {v : Value}
theorem wpQuiet_do (hw : Region.wanted o (yielded ops a.tmps) = true) (h1 : ∀ W, C W → (execOp a.eval o).run P W = .ok (.value v) W) (h : wpQuiet P ops C Q rest (a.put o.dst v)) : wpQuiet P ops C Q (o :: rest) a := by
  unfold wpQuiet
  rw [if_pos hw]
  refine ⟨v, fun W hC => ?_, h⟩
  unfold Oper.quietAt
  rw [h1 W hC]
  exact ⟨rfl, rfl⟩
theorem wpQuiet_call (hw : Region.wanted o (yielded ops a.tmps) = true) (h1 : ∀ W, C W → o.quietAt P a C W v) (h : wpQuiet P ops C Q rest (a.put o.dst v)) : wpQuiet P ops C Q (o :: rest) a := by
  unfold wpQuiet
  rw [if_pos hw]
  exact ⟨v, h1, h⟩
theorem wpQuiet_skip (hw : Region.wanted o (yielded ops a.tmps) = false) (h : wpQuiet P ops C Q rest (a.put o.dst undef)) : wpQuiet P ops C Q (o :: rest) a := by
  unfold wpQuiet
  rw [if_neg (by rw [hw]; decide)]
  exact h
theorem quiet_call {f : FuncId} {xs : List Operand} {ts : Array TypeId} {vs : List Value} {W : World} (ho : o.op = .call ⟨.value (.func f), xs.toArray, ts⟩) (ha : xs.map a.eval = vs) (hr : (callFunc f vs.toArray).run P W = .ok (.enter f vs.toArray) W) (hc : Calls P f vs.toArray W fun e w'' => e = .returned v ∧ C w'') : o.quietAt P a C W v := by
  have ha' : xs.toArray.map a.eval = vs.toArray := by rw [List.map_toArray, ha]
  have h1 : (execOp a.eval o).run P W = .ok (.enter f vs.toArray) W := by
    unfold execOp
    simp only [ho, resolve, Act.eval, Deferred.ofValue, Sem.run_bind, Sem.run_pure, Result.andThen_ok, invoke, Array.append_empty, Array.empty_append]
    rw [show xs.toArray.map (fun x => a.eval x) = vs.toArray from ha']
    exact hr
  unfold Oper.quietAt
  rw [h1]
  exact ⟨rfl, hc⟩
end
/-- The class of worlds. -/
abbrev Grw (w W : World) : Prop := ∃ p : GrownBy, W = grow (w.drewN p.n) p.os
theorem Grw.below {w W : World} (h : Grw w W) : Below w.heap.size w W := by
  obtain ⟨p, rfl⟩ := h
  exact ⟨rfl, rfl, rfl, by simp [grow, World.drewN], fun k hk => by simp [grow, World.drewN, Array.getElem?_append, hk]⟩
theorem Grw.trans {w W X : World} (h : Grw w W) (k : Grw W X) : Grw w X := by
  obtain ⟨⟨n, os⟩, rfl⟩ := h
  obtain ⟨⟨m, os'⟩, rfl⟩ := k
  exact ⟨⟨n + m, os ++ os'⟩, by show grow (grow ((w.drewN n).drewN m) os) os' = _; rw [grow_grow, World.drewN_drewN]⟩
theorem enters_later (xs : Array Value) (w : World) : (callFunc 37 xs).run Try.prog w = .ok (.enter 37 xs) w := enters Try.func37 (by kernel_rfl) (by kernel_rfl) xs w
theorem later_class (b a : Ev) {w W : World} (hC : Grw w W) : Calls Try.prog 37 #[.agg (evc b), .agg (evc a)] W fun e w'' => e = .returned (.bool (laterE b a)) ∧ Grw w w'' := (later_grow b a W).mono fun e w' ⟨h1, h2⟩ => ⟨h1, hC.trans ⟨⟨0, #[.cells (evc b) 41, .cells (evc a) 41]⟩, by rw [h2, alloc_eq_grow, alloc_eq_grow, grow_grow]; rfl⟩⟩
theorem load_sl {w : World} {ad : Addr} {v : Value} (h : w.cell? ad = some v) : (loadVar 22 ad).run Try.prog w = .ok v w := by
  have := Try.isAgg22 w
  go_simp
theorem load_sli {w : World} {ad : Addr} {v : Value} (h : w.cell? ad = some v) : (loadVar 50 ad).run Try.prog w = .ok v w := by
  have := Try.isAgg50 w
  go_simp
set_option maxHeartbeats 4000000 in
theorem icmp_any (N : List Ev) (ao : Option Addr) (m c g i j : Nat) (hi : i < m) (hj : j < m) (w : World) (hc : w.cell? ⟨g, 0, none⟩ = some (.slice ao m c)) (hE : Evs w ao m c N) :
    Calls Try.prog 39 #[.int .i64 (i : Int), .int .i64 (j : Int), .pointer (some ⟨g, 0, none⟩)] w fun e w' => e = .returned (.int .i64 (cfI N i j)) ∧ ∃ q os', w' = grow (w.drewN q) os' := by
  obtain ⟨b, off, u, rfl, hui, hu, hru, hbl⟩ := hE.at hi
  obtain ⟨b', off', x, hao, hxj, hx, hrx, -⟩ := hE.at hj
  obtain ⟨rfl, rfl⟩ : b = b' ∧ off = off' := by simpa using hao
  have hgl : g < w.heap.size := World.block_lt_of_cell? w _ hc
  have HK : Hid (∀ W, Grw w W → W.cell? ⟨g, 0, none⟩ = some (.slice (some ⟨b, off, none⟩) m c) ∧ W.rangeAt b (off + i * 26) (evl u) ∧ W.rangeAt b (off + j * 26) (evl x)) := fun W hC => ⟨(hC.below.cell (p := ⟨g, 0, none⟩) hgl).trans hc, range_below hru hC.below hbl, range_below hrx hC.below hbl⟩
  have hcf : Hid (cfI N i j = if laterE u x then -1 else if laterE x u then 1 else 0) := by show _ = _; unfold cfI; rw [atN_get hui, atN_get hxj]
  clear hE hru hrx hui hxj hc hbl hgl hao
  go_enter Try.func39, Try.ntmps39
  go_wp2_with fail
  have hB := HK.out
  refine wp_region_quiet_grown (by kernel_rfl) (by kernel_rfl) ?_
  refine wpQuiet_do (v := .slice (some ⟨b, off, none⟩) m c) rfl (fun W hC => exec_load (ad := ⟨g, 0, none⟩) rfl rfl (load_sl ((hB W hC).1))) ?_
  simp only [Act.put, List.setIfInBounds_toArray, List.set_cons_zero, List.set_cons_succ]
  refine wpQuiet_do (v := .int .i64 (i : Int)) rfl (fun W hC => exec_move rfl rfl) ?_
  simp only [Act.put, List.setIfInBounds_toArray, List.set_cons_zero, List.set_cons_succ]
  refine wpQuiet_do (v := .pointer (some ⟨b, off + i * 26, none⟩)) rfl (fun W hC => exec_index rfl rfl rfl (index_ev W hi)) ?_
  simp only [Act.put, List.setIfInBounds_toArray, List.set_cons_zero, List.set_cons_succ]
  refine wpQuiet_do (v := .agg (evc u)) rfl (fun W hC => exec_load (ad := ⟨b, off + i * 26, none⟩) rfl rfl (load_part ((hB W hC).2.1) hu.1)) ?_
  simp only [Act.put, List.setIfInBounds_toArray, List.set_cons_zero, List.set_cons_succ]
  refine wpQuiet_do (v := .slice (some ⟨b, off, none⟩) m c) rfl (fun W hC => exec_load (ad := ⟨g, 0, none⟩) rfl rfl (load_sl ((hB W hC).1))) ?_
  simp only [Act.put, List.setIfInBounds_toArray, List.set_cons_zero, List.set_cons_succ]
  refine wpQuiet_do (v := .int .i64 (j : Int)) rfl (fun W hC => exec_move rfl rfl) ?_
  simp only [Act.put, List.setIfInBounds_toArray, List.set_cons_zero, List.set_cons_succ]
  refine wpQuiet_do (v := .pointer (some ⟨b, off + j * 26, none⟩)) rfl (fun W hC => exec_index rfl rfl rfl (index_ev W hj)) ?_
  simp only [Act.put, List.setIfInBounds_toArray, List.set_cons_zero, List.set_cons_succ]
  refine wpQuiet_do (v := .agg (evc x)) rfl (fun W hC => exec_load (ad := ⟨b, off + j * 26, none⟩) rfl rfl (load_part ((hB W hC).2.2) hx.1)) ?_
  simp only [Act.put, List.setIfInBounds_toArray, List.set_cons_zero, List.set_cons_succ]
  refine wpQuiet_call (v := .bool (laterE u x)) rfl (fun W hC => quiet_call (xs := [.tmp 10, .tmp 14]) (vs := [.agg (evc u), .agg (evc x)]) rfl rfl (enters_later _ _) (later_class u x hC)) ?_
  simp only [Act.put, List.setIfInBounds_toArray, List.set_cons_zero, List.set_cons_succ]
  refine wpQuiet_do (v := .bool (laterE u x)) rfl (fun W hC => exec_assign rfl rfl) ?_
  simp only [Act.put, List.setIfInBounds_toArray, List.set_cons_zero, List.set_cons_succ]
  refine wpQuiet_nil ?_
  intro W1 hC1
  clear hB
  have HC1 : Hid (Grw w W1) := hC1
  clear hC1
  rcases Bool.eq_false_or_eq_true (laterE u x) with h1 | h1
  · rw [h1]
    have HC : Hid (cfI N i j = -1) := by show _ = _; rw [hcf.out, h1]; rfl
    clear hcf HK h1
    go_wp2
    go_ret
    obtain ⟨p, hp⟩ := HC1.out
    exact ⟨by rw [HC.out]; rfl, p.n, p.os, hp⟩
  · rw [h1]
    go_wp2_with fail
    have hB : ∀ W, Grw W1 W → W.cell? ⟨g, 0, none⟩ = some (.slice (some ⟨b, off, none⟩) m c) ∧ W.rangeAt b (off + i * 26) (evl u) ∧ W.rangeAt b (off + j * 26) (evl x) := fun W hC => HK.out W (HC1.out.trans hC)
    refine wp_region_quiet_grown (by kernel_rfl) (by kernel_rfl) ?_
    refine wpQuiet_do (v := .slice (some ⟨b, off, none⟩) m c) rfl (fun W hC => exec_load (ad := ⟨g, 0, none⟩) rfl rfl (load_sl ((hB W hC).1))) ?_
    simp only [Act.put, List.setIfInBounds_toArray, List.set_cons_zero, List.set_cons_succ]
    refine wpQuiet_do (v := .int .i64 (j : Int)) rfl (fun W hC => exec_move rfl rfl) ?_
    simp only [Act.put, List.setIfInBounds_toArray, List.set_cons_zero, List.set_cons_succ]
    refine wpQuiet_do (v := .pointer (some ⟨b, off + j * 26, none⟩)) rfl (fun W hC => exec_index rfl rfl rfl (index_ev W hj)) ?_
    simp only [Act.put, List.setIfInBounds_toArray, List.set_cons_zero, List.set_cons_succ]
    refine wpQuiet_do (v := .agg (evc x)) rfl (fun W hC => exec_load (ad := ⟨b, off + j * 26, none⟩) rfl rfl (load_part ((hB W hC).2.2) hx.1)) ?_
    simp only [Act.put, List.setIfInBounds_toArray, List.set_cons_zero, List.set_cons_succ]
    refine wpQuiet_do (v := .slice (some ⟨b, off, none⟩) m c) rfl (fun W hC => exec_load (ad := ⟨g, 0, none⟩) rfl rfl (load_sl ((hB W hC).1))) ?_
    simp only [Act.put, List.setIfInBounds_toArray, List.set_cons_zero, List.set_cons_succ]
    refine wpQuiet_do (v := .int .i64 (i : Int)) rfl (fun W hC => exec_move rfl rfl) ?_
    simp only [Act.put, List.setIfInBounds_toArray, List.set_cons_zero, List.set_cons_succ]
    refine wpQuiet_do (v := .pointer (some ⟨b, off + i * 26, none⟩)) rfl (fun W hC => exec_index rfl rfl rfl (index_ev W hi)) ?_
    simp only [Act.put, List.setIfInBounds_toArray, List.set_cons_zero, List.set_cons_succ]
    refine wpQuiet_do (v := .agg (evc u)) rfl (fun W hC => exec_load (ad := ⟨b, off + i * 26, none⟩) rfl rfl (load_part ((hB W hC).2.1) hu.1)) ?_
    simp only [Act.put, List.setIfInBounds_toArray, List.set_cons_zero, List.set_cons_succ]
    refine wpQuiet_call (v := .bool (laterE x u)) rfl (fun W hC => quiet_call (xs := [.tmp 20, .tmp 24]) (vs := [.agg (evc x), .agg (evc u)]) rfl rfl (enters_later _ _) (later_class x u hC)) ?_
    simp only [Act.put, List.setIfInBounds_toArray, List.set_cons_zero, List.set_cons_succ]
    refine wpQuiet_do (v := .bool (laterE x u)) rfl (fun W hC => exec_assign rfl rfl) ?_
    simp only [Act.put, List.setIfInBounds_toArray, List.set_cons_zero, List.set_cons_succ]
    refine wpQuiet_nil ?_
    intro W2 hC2
    have HC2 : Hid (Grw w W2) := HC1.out.trans hC2
    clear hB hC2 HK HC1
    rcases Bool.eq_false_or_eq_true (laterE x u) with h2 | h2
    · rw [h2]
      have HC : Hid (cfI N i j = 1) := by show _ = _; rw [hcf.out, h1, h2]; rfl
      clear hcf h1 h2
      go_wp2
      go_ret
      obtain ⟨p, hp⟩ := HC2.out
      exact ⟨by rw [HC.out]; rfl, p.n, p.os, hp⟩
    · rw [h2]
      have HC : Hid (cfI N i j = 0) := by show _ = _; rw [hcf.out, h1, h2]; rfl
      clear hcf h1 h2
      go_wp2
      go_ret
      obtain ⟨p, hp⟩ := HC2.out
      exact ⟨by rw [HC.out]; rfl, p.n, p.os, hp⟩
end Go.Proofs.Ytagjgamigldjnaa
