/-
  What inTurn comes to.
-/
import Derived.Test.YthpkpmcccpfabaaQdl
namespace Go.Proofs.Ythpkpmcccpfabaa
set_option maxRecDepth 100000
open Go.RowKit

def lenV : Value → Nat
  | .slice _ n _ => n
  | _ => 0
theorem evc_size' {e : Ev} (he : e.deps.length = 16) : (evc e).size = 26 := by rw [evc, List.size_toArray, evl_length e he]
theorem zx0_size : (#[Value.int IntKind.i64 0, Value.int IntKind.i64 0, Value.int IntKind.i64 0, Value.int IntKind.i64 0, Value.int IntKind.i64 0, Value.int IntKind.i64 0, Value.int IntKind.i64 0, Value.int IntKind.i64 0, Value.int IntKind.i64 0, Value.int IntKind.i64 0, Value.int IntKind.i64 0, Value.int IntKind.i64 0, Value.int IntKind.i64 0, Value.int IntKind.i64 0, Value.int IntKind.i64 0, Value.int IntKind.i64 0, Value.int IntKind.i64 0, Value.int IntKind.i64 0, Value.int IntKind.i64 0, Value.int IntKind.i64 0, Value.string { data := #[] }, Value.string { data := #[] }, Value.string { data := #[] }, Value.int IntKind.i64 0, Value.int IntKind.i64 0, Value.int IntKind.i64 0] : Array Value).size = 26 := rfl
theorem st_ev (w : World) (e : Ev) (he : e.deps.length = 16) : (storeVar 44 ⟨w.heap.size, 0, none⟩ (.agg (evc e))).run Try.prog (w.alloc (.cells #[Value.int IntKind.i64 0, Value.int IntKind.i64 0, Value.int IntKind.i64 0, Value.int IntKind.i64 0, Value.int IntKind.i64 0, Value.int IntKind.i64 0, Value.int IntKind.i64 0, Value.int IntKind.i64 0, Value.int IntKind.i64 0, Value.int IntKind.i64 0, Value.int IntKind.i64 0, Value.int IntKind.i64 0, Value.int IntKind.i64 0, Value.int IntKind.i64 0, Value.int IntKind.i64 0, Value.int IntKind.i64 0, Value.int IntKind.i64 0, Value.int IntKind.i64 0, Value.int IntKind.i64 0, Value.int IntKind.i64 0, Value.string { data := #[] }, Value.string { data := #[] }, Value.string { data := #[] }, Value.int IntKind.i64 0, Value.int IntKind.i64 0, Value.int IntKind.i64 0] 44)) = .ok () (w.alloc (.cells (evc e) 44)) := by
  rw [run_storeVar_row (P := Try.prog) (w.alloc (.cells #[Value.int IntKind.i64 0, Value.int IntKind.i64 0, Value.int IntKind.i64 0, Value.int IntKind.i64 0, Value.int IntKind.i64 0, Value.int IntKind.i64 0, Value.int IntKind.i64 0, Value.int IntKind.i64 0, Value.int IntKind.i64 0, Value.int IntKind.i64 0, Value.int IntKind.i64 0, Value.int IntKind.i64 0, Value.int IntKind.i64 0, Value.int IntKind.i64 0, Value.int IntKind.i64 0, Value.int IntKind.i64 0, Value.int IntKind.i64 0, Value.int IntKind.i64 0, Value.int IntKind.i64 0, Value.int IntKind.i64 0, Value.string { data := #[] }, Value.string { data := #[] }, Value.string { data := #[] }, Value.int IntKind.i64 0, Value.int IntKind.i64 0, Value.int IntKind.i64 0] 44)) w.heap.size 44 44 #[Value.int IntKind.i64 0, Value.int IntKind.i64 0, Value.int IntKind.i64 0, Value.int IntKind.i64 0, Value.int IntKind.i64 0, Value.int IntKind.i64 0, Value.int IntKind.i64 0, Value.int IntKind.i64 0, Value.int IntKind.i64 0, Value.int IntKind.i64 0, Value.int IntKind.i64 0, Value.int IntKind.i64 0, Value.int IntKind.i64 0, Value.int IntKind.i64 0, Value.int IntKind.i64 0, Value.int IntKind.i64 0, Value.int IntKind.i64 0, Value.int IntKind.i64 0, Value.int IntKind.i64 0, Value.int IntKind.i64 0, Value.string { data := #[] }, Value.string { data := #[] }, Value.string { data := #[] }, Value.int IntKind.i64 0, Value.int IntKind.i64 0, Value.int IntKind.i64 0] (evc e) (heap_alloc_new w _) (by rw [evc, List.size_toArray]; exact size26 e he) (zx0_size.trans (evc_size' he).symm) (evc_one e), setRow_new]
theorem results_tmp_cell {fn : Func} {p u : Tmp} {ty : TypeId} (h : fn.results = #[.tmp u, .cell p ty]) (tmps : Array Value) (P : Program) (w : World) :
    (results fn tmps).run P w = ((asAddr (tmps.getD p undef)).run P w).andThen fun a w₁ => ((loadVar ty a).run P w₁).andThen fun v w₂ => .ok (.tuple #[tmps.getD u undef, v]) w₂ := by
  simp only [results, h]
  simp [Sem.run_bind, Result.andThen]
theorem ret_turn {fn : Func} {R : Ending → World → Prop} {a : Act} {w : World} {p u : Tmp} {g : Nat} {l : List Int} {v : Value} (h : fn.results = #[.tmp u, .cell p 40]) (hp : a.tmps.getD p undef = .pointer (some ⟨g, 0, none⟩))
    (hu : a.tmps.getD u undef = v) (hd : a.defers = []) (hg : Lies w g l) (hl : l.length = 16) (hR : R (.returned (.tuple #[v, .agg (vals l)])) w) : bodyPost Try.prog fn R .ret a w := by
  refine bodyPost_ret ?_ hd hR
  rw [results_tmp_cell h, hp, hu]
  simp only [asAddr, Sem.run_pure, Result.andThen_ok, load_v hg hl]
theorem grown_below' {a b : World} (h : Below a.heap.size a b) (r : Option Nat) : a.grownBy b r := ⟨h.os, h.tape, h.output, h.size, fun k hk _ => h.block k hk⟩
theorem grown_tr {a b c : World} {r : Option Nat} (h : a.grownBy b r) (k : b.grownBy c r) : a.grownBy c r :=
  ⟨k.os.trans h.os, k.tape.trans h.tape, k.output.trans h.output, Nat.le_trans h.size k.size, fun j hj hne => (k.block j (Nat.lt_of_lt_of_le hj h.size) hne).trans (h.block j hj hne)⟩
theorem run_ok (S : List Ev) (v : List Int) (n : Nat) : (∀ e ∈ (runQ n S v).2.1, e ∈ S) ∧ (∀ e ∈ (runQ n S v).1, e ∈ S) := by
  have := run_perm S v n
  exact ⟨fun e he => this.mem_iff.1 (List.mem_append_right _ he), fun e he => this.mem_iff.1 (List.mem_append_left _ he)⟩
theorem run_next {S : List Ev} {v : List Int} {n k : Nat} {T L : List Ev} {u : List Int} {e : Ev} (h : runQ n S v = (T, L, u)) (hf : L.findIdx? (fun e => mayE e u) = some k) (he : L[k]? = some e) : runQ (n + 1) S v = (T ++ [e], L.eraseIdx k, seeV u e) := by
  rw [runQ, h]
  simp only [stepQ, hf, he]
/-- What inTurn's loop keeps: what lies in its cells. -/
structure Tu (w : World) (B base : Nat) (r : Option Nat) (c0 c6 : Value) (T L : List Ev) (u : List Int) (wr : World) : Prop where
  wait : Ws wr base c0 L
  told : Row wr (B + 2) c6 T
  vec : Lies wr B u
  res : Lies wr (B + 1) zeros
  grown : w.grownBy wr r
  own : c0.ownBlock = r
theorem keepR {w w' : World} {base : Nat} {v : Value} {E : List Ev} (h : Row w base v E) (hk : ∀ k, v.ownBlock = some k → w'.heap[k]? = w.heap[k]?) : Row w' base v E := by
  refine ⟨h.1, ?_⟩
  rcases h.2 with hn | ⟨g, cap, cur, rfl, hbg, hg, rest⟩
  · exact .inl hn
  · exact .inr ⟨g, cap, cur, rfl, hbg, by rw [hk g rfl]; exact hg, rest⟩
theorem idx_someQ {S : List Ev} {v : List Int} {k : Nat} (h : S.findIdx? (fun e => mayE e v) = some k) : k < S.length ∧ ∀ e, S[k]? = some e → mayE e v = true := by
  rw [List.findIdx?_eq_some_iff_getElem] at h
  obtain ⟨h1, h2, -⟩ := h
  refine ⟨h1, fun e he => ?_⟩
  rw [List.getElem?_eq_getElem h1] at he
  rw [← Option.some.inj he]
  exact h2
theorem own_none_or {w : World} {base : Nat} {v : Value} {S : List (It (Cx 26))} (h : E.Rw 74 w base v S) : ∀ k, v.ownBlock = some k → k < w.heap.size := fun k hk => (h.lt k hk).2
theorem Tu.below {w : World} {B base : Nat} {r : Option Nat} {c0 c6 : Value} {T L : List Ev} {u : List Int} {wr w' : World} (h : Tu w B base r c0 c6 T L u wr) (hb : Below wr.heap.size wr w') : Tu w B base r c0 c6 T L u w' :=
  ⟨E.Rw.below h.wait hb (Nat.le_refl _), h.told.below hb (Nat.le_refl _), h.vec.below hb h.vec.lt, h.res.below hb h.res.lt, grown_tr h.grown (grown_below' hb r), h.own⟩
theorem Tu.app {w : World} {B base : Nat} {r : Option Nat} {c0 c6 vt : Value} {T T' L : List Ev} {u : List Int} {wr w' : World} (h : Tu w B base r c0 c6 T L u wr) (hB : w.heap.size = B) (hr : ∀ k, r = some k → k < B) (ht : Row w' (B + 2) vt T') (hg : wr.grownBy w' c6.ownBlock) : Tu w B base r c0 vt T' L u w' := by
  have ho : ∀ k, k < B + 2 → some k ≠ c6.ownBlock := fun k hk e => by have := Row.own h.told k e.symm; omega
  have hs := h.res.lt
  refine ⟨E.Rw.keep h.wait fun k hk => ?_, ht, ?_, ?_, ?_, h.own⟩
  · have := hr k (h.own.symm.trans hk)
    exact hg.block k (by omega) (ho k (by omega))
  · rw [Lies, hg.block B h.vec.lt (ho B (by omega))]; exact h.vec
  · rw [Lies, hg.block (B + 1) h.res.lt (ho (B + 1) (by omega))]; exact h.res
  · have h0 := h.grown
    exact ⟨hg.os.trans h0.os, hg.tape.trans h0.tape, hg.output.trans h0.output, Nat.le_trans h0.size hg.size, fun j hj hne => (hg.block j (Nat.lt_of_lt_of_le hj h0.size) (ho j (by omega))).trans (h0.block j hj hne)⟩
theorem Tu.set {w : World} {B base : Nat} {r : Option Nat} {c0 c6 : Value} {T L : List Ev} {u : List Int} {wr : World} (h : Tu w B base r c0 c6 T L u wr) (hB : w.heap.size = B) (hr : ∀ k, r = some k → k < B) (j : Nat) (x : Int) : Tu w B base r c0 c6 T L (u.set j x) (wr.setCell ⟨B, j, none⟩ (.int .i64 x)) := by
  have ho : ∀ k, k ≠ B → (wr.setCell ⟨B, j, none⟩ (.int .i64 x)).heap[k]? = wr.heap[k]? := fun k hk => Below.heap_setCell _ _ _ k hk
  refine ⟨E.Rw.keep h.wait fun k hk => ho k ?_, keepR h.told fun k hk => ho k ?_, h.vec.set x, ?_, ?_, h.own⟩
  · have := hr k (h.own.symm.trans hk); omega
  · have := Row.own h.told k hk; omega
  · rw [Lies, ho (B + 1) (by omega)]; exact h.res
  · have h0 := h.grown
    exact ⟨h0.os, h0.tape, h0.output, by simp [World.setCell]; exact h0.size, fun i hi hne => (ho i (by omega)).trans (h0.block i hi hne)⟩
theorem Tu.cutAt {w : World} {B base : Nat} {r : Option Nat} {c0 c0' c6 : Value} {T L L' : List Ev} {u : List Int} {wr w' : World} (h : Tu w B base r c0 c6 T L u wr) (hr : ∀ k, r = some k → k < B) (hw : Ws w' base c0' L') (hg : wr.grownBy w' c0.ownBlock) (hc : c0'.ownBlock = c0.ownBlock) : Tu w B base r c0' c6 T L' u w' := by
  rw [h.own] at hg hc
  have ho : ∀ k, B ≤ k → some k ≠ r := fun k hk e => by have := hr k e.symm; omega
  refine ⟨hw, keepR h.told fun k hk => ?_, ?_, ?_, grown_tr h.grown hg, hc⟩
  · have := Row.own h.told k hk
    exact hg.block k (World.ownsRow.lt h.told k hk).2 (ho k (by omega))
  · rw [Lies, hg.block B h.vec.lt (ho B (Nat.le_refl _))]; exact h.vec
  · rw [Lies, hg.block (B + 1) h.res.lt (ho (B + 1) (by omega))]; exact h.res
theorem map_eraseQ (L : List Ev) (k : Nat) : (L.map eit).eraseIdx k = (L.eraseIdx k).map eit := by
  rw [List.eraseIdx_eq_take_drop_succ, List.eraseIdx_eq_take_drop_succ, List.map_append, List.map_take, List.map_drop]
set_option maxHeartbeats 2000000 in
theorem inturn_any (S : List Ev) (v : List Int) (hS : ∀ e ∈ S, Wide e ∧ okdot e.r e.n = true) (hl : S.length ≤ 1048576) (hv : v.length = 16) (base : Nat) (vw : Value) (w : World) (hrow : Ws w base vw S) :
    Calls Try.prog 19 #[vw, .agg (vals v)] w fun ex w' => ∃ vt T L u, ex = .returned (.tuple #[vt, .agg (vals u)]) ∧ Told S v T L u ∧ u.length = 16 ∧ Row w' w.heap.size vt T ∧ w.grownBy w' vw.ownBlock := by
  obtain ⟨B, hB⟩ : ∃ B, w.heap.size = B := ⟨_, rfl⟩
  have hb0 : Below w.heap.size w ((w.alloc (.cells (vals v) 40)).alloc (.cells (vals zeros) 40)) := ((Below.refl _ w).alloc (Nat.le_refl _) _).alloc (by simp) _
  have hT0 : Tu w B base vw.ownBlock vw (.slice none 0 0) [] S v ((w.alloc (.cells (vals v) 40)).alloc (.cells (vals zeros) 40)) := by
    refine ⟨E.Rw.below hrow hb0 (Nat.le_refl _), World.ownsRow_nil _ _ _ _, ?_, ?_, grown_below' hb0 _, rfl⟩
    · rw [← hB]; exact (lies_new w v).alloc _
    · have := lies_new (w.alloc (.cells (vals v) 40)) zeros
      rw [World.size_alloc, hB] at this
      exact this
  have hzv : (w.alloc (.cells (vals v) 40)).alloc (.cells (vals zeros) 40) = (w.alloc (.cells (vals v) 40)).alloc (.cells #[.int .i64 0, .int .i64 0, .int .i64 0, .int .i64 0, .int .i64 0, .int .i64 0, .int .i64 0, .int .i64 0, .int .i64 0, .int .i64 0, .int .i64 0, .int .i64 0, .int .i64 0, .int .i64 0, .int .i64 0, .int .i64 0] 40) := by rw [zeros_vals]
  generalize hW0 : (w.alloc (.cells (vals v) 40)).alloc (.cells (vals zeros) 40) = W0 at *
  have hW1 := hzv.symm
  clear hzv hW0 hb0
  have hsz : W0.heap.size = B + 2 := by rw [← hW1]; simp [hB]
  have hrel0 : Hid (∃ n T L u, runQ n S v = (T, L, u) ∧ Tu w B base vw.ownBlock vw (.slice none 0 0) T L u W0 ∧ B + 2 ≤ W0.heap.size) := ⟨0, [], S, v, rfl, hT0, by omega⟩
  obtain ⟨ao, cap, hvv, -, -⟩ := E.Rw.val hrow
  obtain ⟨r, hr⟩ : ∃ r, vw.ownBlock = r := ⟨_, rfl⟩
  rw [hr] at hrel0 ⊢
  have HRB : Hid (∀ k, r = some k → k < B) := fun k hk => by rw [← hB]; exact own_none_or hrow k (hr.trans hk)
  clear hT0 hrow hr
  subst hvv
  go_enter Try.func19, Try.ntmps19
  go_wp2_with fail
  go_loopw [0, 6] (fun c0 c6 wr => ∃ n T L u, runQ n S v = (T, L, u) ∧ Tu w B base r c0 c6 T L u wr ∧ B + 2 ≤ wr.heap.size) (fun c0 _ _ => lenV c0)
  case atStart => exact hrel0.out
  case round =>
    clear hrel0 hW1
    obtain ⟨n, T, L, u, hrun, hT, hsz2⟩ := hrel
    have hso := run_ok S v n
    have hvu := run_vs S v n
    rw [hrun] at hso hvu
    simp only at hso hvu
    have hu16 : u.length = 16 := by rw [hvu, vs_length, hv]
    have hLS : ∀ e ∈ L, Wide e ∧ okdot e.r e.n = true := fun e he => hS e (hso.1 e he)
    have hpl := (run_perm S v n).length_eq
    rw [hrun, List.length_append] at hpl
    simp only at hpl
    have hTl : T.length ≤ 1048576 := by omega
    obtain ⟨a0, cap0, hc0, hnc, hcm⟩ := E.Rw.val hT.wait
    rw [List.length_map] at hc0 hnc
    have hI := qindex_any L u hLS hu16 B base u0 wr hT.wait hT.vec
    have HT : Hid _ := hT
    have HR : Hid _ := hrun
    cases hf : L.findIdx? (fun e => mayE e u) with
    | none =>
      have hq : idxQ L u = -1 := by unfold idxQ; rw [hf]
      rw [hq] at hI
      have HST : Hid (Told S v T L u) := ⟨n, hrun, by unfold stepQ; rw [hf]⟩
      clear hso hvu hLS hpl hT hrun hf hq hS
      subst hc0
      go_wp2_with fail
      refine Calls.mono hI ?_
      rintro ex w1 ⟨rfl, hb1⟩
      have hT1 := HT.out.below hb1
      have HT1 : Hid _ := hT1
      have hv1 := hT1.vec
      have hS1 : Lies w1.drew B u := hT1.vec
      have hS2 : Lies (w1.drew.setRow (B + 1) (vals u)) B u := (hT1.vec : Lies w1.drew B u).rowOther _ (by omega)
      have hst := store_vv (v := u) (w := w1.drew) hT1.res rfl hu16
      have hFr : Lies (w1.drew.setRow (B + 1) (vals u)) (B + 1) u := HT1.out.res.row (w := w1.drew) u
      have hFg : Hid (w.grownBy (w1.drew.setRow (B + 1) (vals u)) r) := by
        have h0 := HT1.out.grown
        refine ⟨h0.os, h0.tape, h0.output, by simp [World.setRow]; exact h0.size, fun j hj hne => ?_⟩
        rw [setRow_other _ _ _ _ (by omega)]
        exact h0.block j hj hne
      have hFt : Hid (Row (w1.drew.setRow (B + 1) (vals u)) (B + 2) u6 T) := keepR HT1.out.told fun k hk => setRow_other _ _ _ _ (by
        have := Row.own HT1.out.told k hk; omega)
      generalize w1.drew.setRow (B + 1) (vals u) = WF at *
      clear hI hb1 hT1
      go_wp2_with fail
      refine wp_region_noPanic ?_
      refine wp_region_held_drew (S := fun W' : World => Lies W' B u) (by kernel_rfl) hS1 (fun hHeld => ?_)
      refine wpAnyH_take (i := 0) (oi := { dst := some 14, op := _, type := _, pos := _, after := _, guard := _ }) (v := u6) rfl (by kernel_rfl) (by kernel_rfl) (by kernel_rfl) (fun _ _ _ h => h) (Or.inl ⟨by rfl, ?_⟩) (by assumption) ?_
      · intro w9 hSw
        exact y_move rfl rfl
      simp only [Act.put, List.setIfInBounds_toArray, List.set_cons_zero, List.set_cons_succ]
      refine wpAnyH_take (i := 1) (oi := { dst := some 15, op := _, type := _, pos := _, after := _, guard := _ }) (v := .agg (vals u)) rfl (by kernel_rfl) (by kernel_rfl) (by kernel_rfl) (fun _ _ _ h => h) (Or.inl ⟨by rfl, ?_⟩) (by assumption) ?_
      · intro w9 hSw
        exact y_load rfl rfl (load_v hSw hu16)
      simp only [Act.put, List.setIfInBounds_toArray, List.set_cons_zero, List.set_cons_succ]
      refine wpAnyH_take (i := 2) (oi := { dst := some 4, op := _, type := _, pos := _, after := _, guard := _ }) (v := u6) rfl (by kernel_rfl) (by kernel_rfl) (by kernel_rfl) (fun _ _ _ h => h) (Or.inl ⟨by rfl, ?_⟩) (by assumption) ?_
      · intro w9 hSw
        exact y_assign rfl rfl
      simp only [Act.put, List.setIfInBounds_toArray, List.set_cons_zero, List.set_cons_succ]
      clear hHeld
      refine wpAnyH_ready (rs := [3]) (by kernel_rfl) (by simp) ?_
      refine AllReadyH.cons (o := { dst := none, op := _, type := _, pos := _, after := _, guard := _ }) rfl (fun K hK => ?_) AllReadyH.nil
      rw [if_pos (by rfl)]
      refine y_store (ty := 40) (x := .tmp 5) (y := .tmp 15) (ad := ⟨B + 1, 0, none⟩) (v := .agg (vals u)) (w' := WF) rfl rfl rfl hst ?_
      refine hK.out _ _ hS2 (fun hHeld => ?_)
      clear hK K
      simp only [Act.put]
      refine wpAnyH_done (by kernel_rfl) ?_ _
      refine NoPanic.normal ?_
      clear hHeld
      go_wp2_with fail
      refine ret_turn rfl rfl rfl rfl hFr hu16 ?_
      exact ⟨_, T, L, u, rfl, HST.out, hu16, hFt.out.lower (by omega), hFg.out⟩
    | some k =>
      have hq : idxQ L u = (k : Int) := by unfold idxQ; rw [hf]
      rw [hq] at hI
      obtain ⟨hkl, hmk⟩ := idx_someQ hf
      obtain ⟨g, cap', e, hv', -, he, hbg, hgl, hrg, -⟩ := hT.wait.atq (k := k) hkl
      rw [hc0] at hv'
      simp only [Value.slice.injEq] at hv'
      obtain ⟨rfl, -, rfl⟩ := hv'
      obtain ⟨hwe, hde⟩ := hLS e (List.mem_of_getElem? he)
      have he16 := hwe.1
      have hnext := run_next hrun hf he
      have HN : Hid _ := hnext
      have hd2 := hde
      simp only [okdot, decide_eq_true_eq] at hd2
      obtain ⟨j, hj⟩ : ∃ j : Nat, e.r = (j : Int) := ⟨e.r.toNat, by omega⟩
      have hj16 : j < 16 := by omega
      have hkl' : (k : Int) < (L.length : Int) := by omega
      have hk0 : ¬ (k : Int) < 0 := by omega
      have hLc : L.length ≤ 1048576 := by omega
      have hT1l : T.length + 1 ≤ 1048576 := by omega
      clear hso hvu hpl hT hrun hf hq hS hLS hnext
      subst hc0
      go_wp2_with fail
      refine Calls.mono hI ?_
      rintro ex w1 ⟨rfl, hb1⟩
      have hT1 := HT.out.below hb1
      have HT1 : Hid _ := hT1
      obtain ⟨g', cap', e', hv', hnc', he', -, hgl1, hrg1, -⟩ := hT1.wait.atq (k := k) hkl
      simp only [Value.slice.injEq, Option.some.injEq, Addr.mk.injEq, and_true] at hv'
      obtain ⟨rfl, -, rfl⟩ := hv'
      rw [he] at he'
      obtain rfl := Option.some.inj he'
      have hix := index_it w1 (b := g) (c := cap0) hkl
      have hfl := field_it1 w1 g (k * 28)
      have hld := load_it2 hrg1 he16
      have hst := st_ev w1 e he16
      have hE2 := liesE_new w1 e
      have hb2 : Below w1.heap.size w1 (w1.alloc (.cells (evc e) 44)) := (Below.refl _ _).alloc (Nat.le_refl _) _
      have hT2 := hT1.below hb2
      have hs12 := World.size_alloc w1 (.cells (evc e) 44)
      generalize w1.alloc (.cells (evc e) 44) = W2 at *
      have hF : Evs (W2.alloc (.cells (evc e) 44)) (some ⟨W2.heap.size, 0, none⟩) 1 1 [e] := evs_single _ _ e hwe (liesE_new W2 e)
      have hb3 : Below W2.heap.size W2 (W2.alloc (.cells (evc e) 44)) := (Below.refl _ _).alloc (Nat.le_refl _) _
      have hT3 := hT2.below hb3
      have hE3 := hE2.alloc (.cells (evc e) 44)
      have hsz3 : B + 2 ≤ (W2.alloc (.cells (evc e) 44)).heap.size := by have := hb3.size; have := hb2.size; have := hb1.size; omega
      have hRow3 := hT3.told
      have HT3 : Hid _ := hT3
      clear hI hb1 hT1 hT2 hT3 hrg1
      go_wp2_with (first
        | (refine wpList_loadR (ty := 44) (x := .tmp 19) (ad := ⟨g, k * 28 + 2, none⟩) (v := .agg (evc e)) rfl rfl rfl hld ?_)
        | (refine wpList_storeR (ty := 44) (x := .tmp 8) (y := .tmp 20) (ad := ⟨w1.heap.size, 0, none⟩) (v := .agg (evc e)) (w' := W2) rfl rfl rfl rfl hst ?_)
        | refine load_ev rfl rfl rfl hE2 he16 ?_
        | refine build_ev1 rfl rfl rfl he16 ?_
        | refine wpList_appE rfl _ _ rfl (B + 2) _ T rfl hRow3 _ 1 1 [e] rfl hF hT1l hsz3 ?_)
      intro vt wt hrt hgt hnt
      have hT4 := HT3.out.app hB HRB.out hrt hgt
      have hEt : LiesE wt w1.heap.size e := by
        have hne : some w1.heap.size ≠ u6.ownBlock := fun e1 => by have := (World.ownsRow.lt HT1.out.told _ e1.symm).2; omega
        rw [LiesE, hgt.block _ hE3.lt hne]; exact hE3
      have hc0 : wt.cell? ⟨w1.heap.size, 0, none⟩ = some (.int .i64 (j : Int)) := by rw [hEt.c0, hj]
      have hc1 := hEt.c1
      have hcu := hT4.vec.cell (k := j) (by omega)
      have hfu := hT4.vec.frozen (k := j)
      have hT5 := hT4.set hB HRB.out j e.n
      have hse : u.set j e.n = seeV u e := by unfold seeV; rw [hj]; rfl
      rw [hse] at hT5
      have HT5 : Hid _ := hT5
      have hsz5 : Hid (B + 2 ≤ (wt.setCell ⟨B, j, none⟩ (.int .i64 e.n)).heap.size) := by
        show _ ≤ _
        have := hgt.size
        simp [World.setCell]; omega
      have hD := E.qdelete_any (L.map eit) k (by rw [List.length_map]; exact hkl) base (.slice (some ⟨g, 0, none⟩) L.length cap0) (wt.setCell ⟨B, j, none⟩ (.int .i64 e.n)) hT5.wait
      rw [map_eraseQ] at hD
      have hjj : (j : Int) < 16 := by omega
      clear hT5 hT4 hrt hgt hnt hEt hF hRow3 HT3 HT1 HT hse hst hld hfl hix hE2 hE3 hb2 hb3 hrg
      go_wp2_with fail
      refine Calls.mono hD ?_
      rintro ex w5 ⟨v5, rfl, hr5, hg5, ho5⟩
      have HT6 : Hid (Tu w B base r v5 vt (T ++ [e]) (L.eraseIdx k) (seeV u e) w5) := HT5.out.cutAt HRB.out hr5 hg5 ho5
      have HS6 : Hid (B + 2 ≤ w5.heap.size) := Nat.le_trans hsz5.out hg5.size
      obtain ⟨a5, cap5, hv5, -, -⟩ := E.Rw.val hr5
      have hl5 : lenV v5 = L.length - 1 := by
        rw [hv5, List.length_map, List.length_eraseIdx_of_lt hkl]; rfl
      clear hD hr5 hg5 ho5 hv5 HT5 hsz5
      go_wp2_with fail
      go_roundw
      case rel => exact ⟨n + 1, T ++ [e], L.eraseIdx k, seeV u e, HN.out, HT6.out, HS6.out⟩
      case measure => simp only [lenV] at hl5 ⊢; simp [hl5]; omega
end Go.Proofs.Ythpkpmcccpfabaa
