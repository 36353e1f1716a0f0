/-
  The reference's buffer in memory; what its keep comes to.
-/
import Derived.Test.YthpkpmcccpfabaaQonH
namespace Go.Proofs.Ythpkpmcccpfabaa
set_option maxRecDepth 100000
open Go.RowKit

/-- Which stands ahead? -/
theorem before_any (r n r' n' : Int) (w : World) : Calls Try.prog 43 #[.agg (dotc r n), .agg (dotc r' n')] w fun e w' => e = .returned (.bool (decide (r < r' ∨ (r = r' ∧ n < n')))) ∧ Below w.heap.size w w' := by
  have hb0 : Below w.heap.size w ((w.alloc (.cells (dotc r n) 38)).alloc (.cells (dotc r' n') 38)) := ((Below.refl _ _).alloc (Nat.le_refl _) _).alloc (by simp) _
  have hD : LiesD ((w.alloc (.cells (dotc r n) 38)).alloc (.cells (dotc r' n') 38)) w.heap.size r n := (liesD_new w r n).alloc _
  have hD' : LiesD ((w.alloc (.cells (dotc r n) 38)).alloc (.cells (dotc r' n') 38)) (w.heap.size + 1) r' n' := by
    have := liesD_new (w.alloc (.cells (dotc r n) 38)) r' n'
    rwa [World.size_alloc] at this
  obtain ⟨W, hW⟩ : ∃ W, (w.alloc (.cells (dotc r n) 38)).alloc (.cells (dotc r' n') 38) = W := ⟨_, rfl⟩
  rw [hW] at hb0 hD hD'
  have d0 := hD.cell0
  have d1 := hD.cell1
  have e0 := hD'.cell0
  have e1 := hD'.cell1
  clear hD hD'
  have key : (r < r' ∧ decide (r < r' ∨ (r = r' ∧ n < n')) = true) ∨ (¬ r < r' ∧ ¬ r = r' ∧ decide (r < r' ∨ (r = r' ∧ n < n')) = false) ∨ (¬ r < r' ∧ r = r' ∧ n < n' ∧ decide (r < r' ∨ (r = r' ∧ n < n')) = true) ∨ (¬ r < r' ∧ r = r' ∧ ¬ n < n' ∧ decide (r < r' ∨ (r = r' ∧ n < n')) = false) := by
    simp only [decide_eq_true_eq, decide_eq_false_iff_not]
    omega
  generalize decide (r < r' ∨ (r = r' ∧ n < n')) = q at *
  rcases key with ⟨h1, rfl⟩ | ⟨h1, h2, rfl⟩ | ⟨h1, rfl, h3, rfl⟩ | ⟨h1, rfl, h3, rfl⟩
  all_goals
    go_enter Try.func43, Try.ntmps43
    go_wp2
    go_ret
    exact ⟨rfl, hb0⟩
theorem enters_before (xs : Array Value) (w : World) : (callFunc 43 xs).run Try.prog w = .ok (.enter 43 xs) w := enters Try.func43 (by kernel_rfl) (by kernel_rfl) xs w
/-- The reference's buffer: a block with a list. -/
structure Rf (w : World) (g : Nat) (c : Value) (L : List Ev) : Prop where
  blk : w.heap[g]? = some (.cells #[c] 29 (0, 0))
  row : Row w 0 c L
theorem Rf.lt {w : World} {g : Nat} {c : Value} {L : List Ev} (h : Rf w g c L) : g < w.heap.size := (Array.getElem?_eq_some_iff.1 h.blk).1
theorem Rf.ne {w : World} {g : Nat} {c : Value} {L : List Ev} (h : Rf w g c L) : ∀ k, c.ownBlock = some k → k ≠ g := fun k hk e => by
  subst e
  rcases h.row.2 with ⟨rfl, -⟩ | ⟨g', cap, cur, rfl, -, hg', -⟩
  · cases hk
  · obtain rfl : g' = k := by simpa [Value.ownBlock] using hk
    rw [h.blk] at hg'
    simp only [Option.some.injEq, Obj.cells.injEq] at hg'
    exact absurd hg'.2.1 (by decide)
theorem Rf.below {w w' : World} {g : Nat} {c : Value} {L : List Ev} (h : Rf w g c L) (hb : Below w.heap.size w w') : Rf w' g c L :=
  ⟨(hb.block g h.lt).trans h.blk, h.row.below hb (Nat.le_refl _)⟩
/-- Other blocks turn. -/
theorem Rf.grow {w w' : World} {g : Nat} {c : Value} {L : List Ev} (h : Rf w g c L) {r : Option Nat} (hg : w.grownBy w' r) (hr : ∀ k, r = some k → k ≠ g ∧ c.ownBlock ≠ some k) : Rf w' g c L :=
  ⟨(hg.block g h.lt (fun e => (hr g e.symm).1 rfl)).trans h.blk, keepR h.row fun k hk => hg.block k (World.ownsRow.lt h.row k hk).2 (fun e => (hr k e.symm).2 hk)⟩
theorem load_rl {w : World} {g : Nat} {c : Value} (h : w.heap[g]? = some (.cells #[c] 29 (0, 0))) (hc : ∃ ao n k, c = .slice ao n k) : (loadVar 27 ⟨g, 0, none⟩).run Try.prog w = .ok c w := by
  obtain ⟨ao, n, k, rfl⟩ := hc
  have hcell : w.cell? ⟨g, 0, none⟩ = some (.slice ao n k) := by rw [cell_of_row w g 0 _ _ _ h]; rfl
  have ht : Try.prog.underlying 27 = some (.slice 44) := Try.underlying27
  go_simp
theorem field_r (w : World) (g : Nat) : (Instr.fieldAt 29 (.pointer (some ⟨g, 0, none⟩)) 0).run Try.prog w = .ok (.pointer (some ⟨g, 0, none⟩)) w := by kernel_rfl
/-- What keep makes. -/
def keepE (L : List Ev) (e : Ev) : List Ev := if hasE L e then L else putE L e
/-- The list that keep lays so far. -/
def KeepP (L : List Ev) (e : Ev) (i : Nat) (d : Bool) (T : List Ev) : Prop :=
  (∀ x ∈ L.take i, ¬ (x.r = e.r ∧ x.n = e.n)) ∧ (d = false → T = L.take i ∧ ∀ x ∈ L.take i, befE x e = true) ∧ (d = true → T = putE (L.take i) e ∧ ∃ y ∈ L.take i, befE e y = true)
theorem KeepP.start (L : List Ev) (e : Ev) : KeepP L e 0 false [] := ⟨fun _ h => by simp at h, fun _ => ⟨by simp, fun _ h => by simp at h⟩, fun h => by cases h⟩
theorem putE_snoc {L : List Ev} {e x : Ev} (h : befE e x = true) : putE (L ++ [x]) e = putE L e ++ [x] := by
  have h2 : befE x e = false := by
    rw [befE_iff] at h
    cases hh : befE x e
    · rfl
    · rw [befE_iff] at hh; omega
  unfold putE
  simp [List.filter_append, h, h2]
theorem putE_end {L : List Ev} {e : Ev} (h : ∀ x ∈ L, befE x e = true) : putE L e = L ++ [e] := by
  unfold putE
  rw [List.filter_eq_self.2 h, List.filter_eq_nil_iff.2 fun x hx hh => by
    have := h x hx; rw [befE_iff] at *; omega]
theorem sorted_after {L : List Ev} (hs : SrE L) {i : Nat} {x y : Ev} (hx : L[i]? = some x) (hy : y ∈ L.take i) : befE y x = true := by
  obtain ⟨k, hk⟩ := List.getElem?_of_mem hy
  have hki : k < i := by have := (List.getElem?_eq_some_iff.1 hk).1; rw [List.length_take] at this; omega
  rw [List.getElem?_take_of_lt hki] at hk
  obtain ⟨h1, h2⟩ := List.getElem?_eq_some_iff.1 hk
  obtain ⟨h3, h4⟩ := List.getElem?_eq_some_iff.1 hx
  have := List.pairwise_iff_getElem.1 hs k i h1 h3 hki
  rw [h2, h4] at this
  exact this
theorem KeepP.old {L T : List Ev} {e x : Ev} {i : Nat} (h : KeepP L e i true T) (hs : SrE L) (hx : L[i]? = some x) (hn : ¬ (x.r = e.r ∧ x.n = e.n)) : KeepP L e (i + 1) true (T ++ [x]) := by
  obtain ⟨h1, -, h3⟩ := h
  obtain ⟨hT, y, hy, hye⟩ := h3 rfl
  have hyx := sorted_after hs hx hy
  have hex : befE e x = true := by rw [befE_iff] at *; omega
  refine ⟨fun z hz => ?_, (fun h => by cases h), fun _ => ⟨?_, y, ?_, hye⟩⟩
  · rw [take_snoc hx] at hz
    rcases List.mem_append.1 hz with hz | hz
    · exact h1 z hz
    · rw [List.mem_singleton.1 hz]; exact hn
  · rw [take_snoc hx, putE_snoc hex, hT]
  · rw [take_snoc hx]; exact List.mem_append_left _ hy
theorem KeepP.skip {L T : List Ev} {e x : Ev} {i : Nat} (h : KeepP L e i false T) (hx : L[i]? = some x) (hn : ¬ (x.r = e.r ∧ x.n = e.n)) (hb : befE e x = false) : KeepP L e (i + 1) false (T ++ [x]) := by
  obtain ⟨h1, h2, -⟩ := h
  obtain ⟨hT, ha⟩ := h2 rfl
  have hxe : befE x e = true := by
    rw [befE_iff]
    have : ¬ (e.r < x.r ∨ (e.r = x.r ∧ e.n < x.n)) := fun hh => by rw [← befE_iff, hb] at hh; cases hh
    omega
  refine ⟨fun z hz => ?_, fun _ => ⟨by rw [take_snoc hx, hT], fun z hz => ?_⟩, (fun h => by cases h)⟩
  · rw [take_snoc hx] at hz
    rcases List.mem_append.1 hz with hz | hz
    · exact h1 z hz
    · rw [List.mem_singleton.1 hz]; exact hn
  · rw [take_snoc hx] at hz
    rcases List.mem_append.1 hz with hz | hz
    · exact ha z hz
    · rw [List.mem_singleton.1 hz]; exact hxe
theorem KeepP.new {L T : List Ev} {e x : Ev} {i : Nat} (h : KeepP L e i false T) (hx : L[i]? = some x) (hb : befE e x = true) : KeepP L e (i + 1) true (T ++ [e] ++ [x]) := by
  obtain ⟨h1, h2, -⟩ := h
  obtain ⟨hT, ha⟩ := h2 rfl
  have hn : ¬ (x.r = e.r ∧ x.n = e.n) := fun hh => by rw [befE_iff] at hb; omega
  refine ⟨fun z hz => ?_, (fun h => by cases h), fun _ => ⟨?_, x, ?_, hb⟩⟩
  · rw [take_snoc hx] at hz
    rcases List.mem_append.1 hz with hz | hz
    · exact h1 z hz
    · rw [List.mem_singleton.1 hz]; exact hn
  · rw [take_snoc hx, putE_snoc hb, putE_end ha, hT]
  · rw [take_snoc hx]; exact List.mem_append_right _ (by simp)
theorem KeepP.done {L T : List Ev} {e : Ev} {i : Nat} {d : Bool} (h : KeepP L e i d T) (hi : L.length ≤ i) : hasE L e = false ∧ (if d then T else T ++ [e]) = keepE L e := by
  obtain ⟨h1, h2, h3⟩ := h
  rw [List.take_of_length_le hi] at *
  have hh : hasE L e = false := by
    cases hq : hasE L e
    · rfl
    · obtain ⟨x, hx, hxx⟩ := List.any_eq_true.1 hq
      simp only [decide_eq_true_eq] at hxx
      exact absurd hxx (h1 x hx)
  refine ⟨hh, ?_⟩
  unfold keepE
  rw [hh]
  cases d
  · obtain ⟨hT, ha⟩ := h2 rfl
    simp [hT, putE_end ha]
  · simp [(h3 rfl).1]
end Go.Proofs.Ythpkpmcccpfabaa

namespace Go.Proofs.Ythpkpmcccpfabaa
set_option maxRecDepth 100000
open Go.RowKit

theorem Rf.val {w : World} {g : Nat} {c : Value} {L : List Ev} (h : Rf w g c L) (hw : ∀ x ∈ L, Wide x) : ∃ ao k, c = .slice ao L.length k ∧ Evs w ao L.length k L := h.row.evs hw
/-- What keep's loop keeps. -/
structure Kp (W0 : World) (c4 : Value) (T : List Ev) (wr : World) : Prop where
  below : Below W0.heap.size W0 wr
  row : Row wr W0.heap.size c4 T
theorem Kp.next {W0 : World} {c4 : Value} {T : List Ev} {wr w' : World} (h : Kp W0 c4 T wr) (hb : Below wr.heap.size wr w') : Kp W0 c4 T w' := ⟨h.below.trans (hb.mono h.below.size), h.row.below hb (Nat.le_refl _)⟩
theorem Kp.app {W0 : World} {c4 v' : Value} {T T' : List Ev} {wr w' : World} (h : Kp W0 c4 T wr) (hr : Row w' W0.heap.size v' T') (hg : wr.grownBy w' c4.ownBlock) : Kp W0 v' T' w' :=
  ⟨h.below.grown hg h.below.size (fun k hk => Row.own h.row k hk), hr⟩
theorem load_dtm {w : World} {b k : Nat} {e : Ev} (h : w.rangeAt b k (evl e)) : (loadVar 38 ⟨b, k, none⟩).run Try.prog w = .ok (.agg (dotc e.r e.n)) w := by
  have hr : w.rangeAt b k (dotc e.r e.n).toList := fun j u hu => by
    rcases j with _ | _ | j
    · exact h 0 _ (by simpa [dotc, evl] using hu)
    · exact h 1 _ (by simpa [dotc, evl] using hu)
    · simp [dotc] at hu
  exact run_loadVar_mid (P := Try.prog) w b k 38 _ _ hr Try.underlying38 rfl (by kernel_rfl)
theorem wpList_storeC {P : Program} {w w' : World} {ops : Array Oper} {rest : List Oper} {o : Oper} {a : Act} {Q : Exit → Act → World → Prop} {x y : Operand} {ty : TypeId} {ad : Addr} {v : Value} (hg : o.guard = none) (ho : o.op = .store ty x y) (hx : a.eval x = .pointer (some ad)) (hy : a.eval y = v) (hr : (storeVar ty ad v).run P w = .ok () w') (hK : wpList P ops Q rest (a.put o.dst undef) w') : wpList P ops Q (o :: rest) a w := wpList_storeR hg ho hx hy hr hK
theorem keep_store {w : World} {g base : Nat} {c v : Value} {L T : List Ev} (h : Rf w g c L) (hr : Row w base v T) (hb : g < base) : (storeVar 27 ⟨g, 0, none⟩ v).run Try.prog w = .ok () (w.setCell ⟨g, 0, none⟩ v) ∧ Rf (w.setCell ⟨g, 0, none⟩ v) g v T ∧ w.grownBy (w.setCell ⟨g, 0, none⟩ v) (some g) := by
  have hv : ∃ ao n k, v = .slice ao n k := by
    rcases hr.2 with ⟨rfl, -⟩ | ⟨g', cap, cur, rfl, -⟩
    · exact ⟨_, _, _, rfl⟩
    · exact ⟨_, _, _, rfl⟩
  have hcell : w.cell? ⟨g, 0, none⟩ = some c := by rw [cell_of_row w g 0 _ _ _ h.blk]; rfl
  have hf : w.frozen? ⟨g, 0, none⟩ = false := frozen_of_row w g 0 _ _ h.blk
  refine ⟨?_, ⟨heap_setCell_same w g 0 _ _ _ h.blk, (keepR hr fun k hk => Below.heap_setCell _ _ _ k (by have := Row.own hr k hk; show k ≠ g; omega)).lower (Nat.zero_le _)⟩, ⟨rfl, rfl, rfl, by simp [World.setCell], fun k _ hk => Below.heap_setCell _ _ _ k (fun e => hk (by rw [show k = g from e]))⟩⟩
  obtain ⟨ao, n, k, rfl⟩ := hv
  have ht : Try.prog.underlying 27 = some (.slice 44) := Try.underlying27
  go_simp
set_option maxHeartbeats 4000000 in
theorem rkeep_any (g : Nat) (c : Value) (L : List Ev) (e : Ev) (w : World) (h : Rf w g c L) (hs : SrE L) (hwL : ∀ x ∈ L, Wide x) (hw : Wide e) (hl : L.length ≤ 64) :
    Calls Try.prog 23 #[.pointer (some ⟨g, 0, none⟩), .agg (evc e)] w fun ex w' => ex = .returned (.tuple #[]) ∧ ∃ c', Rf w' g c' (keepE L e) ∧ w.grownBy w' (some g) := by
  have he16 := hw.1
  obtain ⟨B, hB⟩ : ∃ B, w.heap.size = B := ⟨_, rfl⟩
  have hb0 : Below w.heap.size w (w.alloc (.cells (evc e) 44)) := (Below.refl _ w).alloc (Nat.le_refl _) _
  have hR0 := h.below hb0
  have hE0 := liesE_new w e
  generalize hW0 : w.alloc (.cells (evc e) 44) = W0 at *
  rw [hB] at hE0
  obtain ⟨ao, kc, hc, hEv⟩ := hR0.val hwL
  have hgB : g < B := by rw [← hB]; exact h.lt
  obtain ⟨n, hn⟩ : ∃ n, L.length = n := ⟨_, rfl⟩
  rw [hn] at hc hEv hl
  have hlr := load_rl hR0.blk ⟨ao, n, kc, hc⟩
  have HR0 : Hid _ := hR0
  have HE0 : Hid (LiesE W0 B e) := hE0
  have HEv : Hid _ := hEv
  have HB0 : Hid _ := hb0
  have hBW : B < W0.heap.size := hE0.lt
  have hrel0 : Hid (∃ (i : Nat) (d : Bool) (T : List Ev), i ≤ n ∧ Value.int .i64 0 = .int .i64 (i : Int) ∧ Value.bool false = .bool d ∧ KeepP L e i d T ∧ T.length ≤ 2 * i + 1 ∧ Kp W0 (.slice none 0 0) T W0) := ⟨0, false, [], Nat.zero_le _, rfl, rfl, KeepP.start L e, by simp, Below.refl _ _, World.ownsRow_nil _ _ _ _⟩
  rw [hc] at hlr
  have hlr' : ∀ W, Below W0.heap.size W0 W → (loadVar 27 ⟨g, 0, none⟩).run Try.prog W = .ok (.slice ao n kc) W := fun W hb => by
    have h1 := (HR0.out.below hb).blk
    rw [hc] at h1
    exact load_rl h1 ⟨ao, n, kc, rfl⟩
  have HLR : Hid _ := hlr'
  clear hb0 hR0 hE0 hEv h hlr'
  go_enter Try.func23, Try.ntmps23
  go_wp2_with (first | (refine wpList_loadR (ty := 27) (x := .tmp 9) (ad := ⟨g, 0, none⟩) (v := .slice ao n kc) rfl rfl rfl hlr ?_))
  clear hlr hW0
  go_loopw [4, 5, 12] (fun c4 c5 c12 wr => ∃ (i : Nat) (d : Bool) (T : List Ev), i ≤ n ∧ c12 = .int .i64 (i : Int) ∧ c5 = .bool d ∧ KeepP L e i d T ∧ T.length ≤ 2 * i + 1 ∧ Kp W0 c4 T wr) (fun _ _ c12 _ => n - (intOf c12).toNat)
  case atStart => exact hrel0.out
  case round =>
    clear hrel0
    obtain ⟨i, d, T, hi, rfl, rfl, hK, hTl, hKp⟩ := hrel
    by_cases hlt : i < n
    · have hlt' : (i : Int) < (n : Int) := by omega
      obtain ⟨b, off, x, hao, hxi, hwx, hrg, hbl⟩ := HEv.out.at hlt
      subst hao
      have hx16 := hwx.1
      have HKp : Hid _ := hKp
      have hBd : Below W0.heap.size W0 wr.drew := hKp.below.drew
      have hix := fun W : World => index_ev W (b := b) (off := off) (c := kc) hlt
      clear hKp
      rcases Bool.eq_false_or_eq_true (decide (x.r = e.r ∧ x.n = e.n)) with hq | hq
      · have hhas : hasE L e = true := List.any_eq_true.2 ⟨x, List.mem_of_getElem? hxi, hq⟩
        go_upto_region 6 with fail
        refine wp_region_noPanic ?_
        refine wp_region_held_drew (S := fun W' : World => Below W0.heap.size W0 W') (by kernel_rfl) hBd (fun hHeld => ?_)
        refine wpAnyH_take (i := 0) (oi := { dst := some 15, op := _, type := _, pos := _, after := _, guard := _ }) (v := .pointer (some ⟨g, 0, none⟩)) rfl (by kernel_rfl) (by kernel_rfl) (by kernel_rfl) (fun _ _ _ h => h) (Or.inl ⟨by rfl, ?_⟩) (by assumption) ?_
        · intro w9 hSw
          exact y_move rfl rfl
        simp only [Act.put, List.setIfInBounds_toArray, List.set_cons_zero, List.set_cons_succ]
        refine wpAnyH_take (i := 1) (oi := { dst := some 16, op := _, type := _, pos := _, after := _, guard := _ }) (v := .pointer (some ⟨g, 0, none⟩)) rfl (by kernel_rfl) (by kernel_rfl) (by kernel_rfl) (fun _ _ _ h => h) (Or.inl ⟨by rfl, ?_⟩) (by assumption) ?_
        · intro w9 hSw
          exact y_nil rfl rfl
        simp only [Act.put, List.setIfInBounds_toArray, List.set_cons_zero, List.set_cons_succ]
        refine wpAnyH_take (i := 2) (oi := { dst := some 17, op := _, type := _, pos := _, after := _, guard := _ }) (v := .pointer (some ⟨g, 0, none⟩)) rfl (by kernel_rfl) (by kernel_rfl) (by kernel_rfl) (fun _ _ _ h => h) (Or.inl ⟨by rfl, ?_⟩) (by assumption) ?_
        · intro w9 hSw
          exact y_field rfl rfl (field_r _ _)
        simp only [Act.put, List.setIfInBounds_toArray, List.set_cons_zero, List.set_cons_succ]
        refine wpAnyH_take (i := 3) (oi := { dst := some 18, op := _, type := _, pos := _, after := _, guard := _ }) (v := .slice (some ⟨b, off, none⟩) n kc) rfl (by kernel_rfl) (by kernel_rfl) (by kernel_rfl) (fun _ _ _ h => h) (Or.inl ⟨by rfl, ?_⟩) (by assumption) ?_
        · intro w9 hSw
          exact y_load rfl rfl (HLR.out _ hSw)
        simp only [Act.put, List.setIfInBounds_toArray, List.set_cons_zero, List.set_cons_succ]
        refine wpAnyH_take (i := 4) (oi := { dst := some 19, op := _, type := _, pos := _, after := _, guard := _ }) (v := .int .i64 (i : Int)) rfl (by kernel_rfl) (by kernel_rfl) (by kernel_rfl) (fun _ _ _ h => h) (Or.inl ⟨by rfl, ?_⟩) (by assumption) ?_
        · intro w9 hSw
          exact y_move rfl rfl
        simp only [Act.put, List.setIfInBounds_toArray, List.set_cons_zero, List.set_cons_succ]
        refine wpAnyH_take (i := 5) (oi := { dst := some 20, op := _, type := _, pos := _, after := _, guard := _ }) (v := .pointer (some ⟨b, off + i * 26, none⟩)) rfl (by kernel_rfl) (by kernel_rfl) (by kernel_rfl) (fun _ _ _ h => h) (Or.inl ⟨by rfl, ?_⟩) (by assumption) ?_
        · intro w9 hSw
          exact y_index rfl rfl rfl (hix _)
        simp only [Act.put, List.setIfInBounds_toArray, List.set_cons_zero, List.set_cons_succ]
        refine wpAnyH_take (i := 6) (oi := { dst := some 21, op := _, type := _, pos := _, after := _, guard := _ }) (v := .pointer (some ⟨b, off + i * 26, none⟩)) rfl (by kernel_rfl) (by kernel_rfl) (by kernel_rfl) (fun _ _ _ h => h) (Or.inl ⟨by rfl, ?_⟩) (by assumption) ?_
        · intro w9 hSw
          exact y_field rfl rfl (field_em0 _ _ _)
        simp only [Act.put, List.setIfInBounds_toArray, List.set_cons_zero, List.set_cons_succ]
        refine wpAnyH_take (i := 7) (oi := { dst := some 22, op := _, type := _, pos := _, after := _, guard := _ }) (v := .agg (dotc x.r x.n)) rfl (by kernel_rfl) (by kernel_rfl) (by kernel_rfl) (fun _ _ _ h => h) (Or.inl ⟨by rfl, ?_⟩) (by assumption) ?_
        · intro w9 hSw
          exact y_load rfl rfl (load_dtm (range_below hrg hSw hbl))
        simp only [Act.put, List.setIfInBounds_toArray, List.set_cons_zero, List.set_cons_succ]
        refine wpAnyH_take (i := 8) (oi := { dst := some 23, op := _, type := _, pos := _, after := _, guard := _ }) (v := .pointer (some ⟨B, 0, none⟩)) rfl (by kernel_rfl) (by kernel_rfl) (by kernel_rfl) (fun _ _ _ h => h) (Or.inl ⟨by rfl, ?_⟩) (by assumption) ?_
        · intro w9 hSw
          exact y_field rfl rfl (field_ev0 _ _)
        simp only [Act.put, List.setIfInBounds_toArray, List.set_cons_zero, List.set_cons_succ]
        refine wpAnyH_take (i := 9) (oi := { dst := some 24, op := _, type := _, pos := _, after := _, guard := _ }) (v := .agg (dotc e.r e.n)) rfl (by kernel_rfl) (by kernel_rfl) (by kernel_rfl) (fun _ _ _ h => h) (Or.inl ⟨by rfl, ?_⟩) (by assumption) ?_
        · intro w9 hSw
          exact y_load rfl rfl (LiesE.dotAt (HE0.out.below hSw hBW))
        simp only [Act.put, List.setIfInBounds_toArray, List.set_cons_zero, List.set_cons_succ]
        refine wpAnyH_take (i := 10) (oi := { dst := some 25, op := _, type := _, pos := _, after := _, guard := _ }) (v := .bool true) rfl (by kernel_rfl) (by kernel_rfl) (by kernel_rfl) (fun _ _ _ h => h) (Or.inl ⟨by rfl, ?_⟩) (by assumption) ?_
        · intro w9 hSw
          exact exec_bin rfl rfl rfl (eqGuard_dt _ _ _ _ _) (eql_dt _ hq)
        simp only [Act.put, List.setIfInBounds_toArray, List.set_cons_zero, List.set_cons_succ]
        refine wpAnyH_done (by kernel_rfl) ?_ _
        refine NoPanic.normal ?_
        clear hHeld
        go_wp2
        refine bodyPost_ret (results_none rfl _ _ _) rfl ?_
        refine ⟨rfl, c, ?_, ?_⟩
        · unfold keepE; rw [hhas, if_pos rfl]; exact HR0.out.below hBd
        · exact grown_tr (grown_below' HB0.out _) (grown_below' hBd _)
      · have hnq : ¬ (x.r = e.r ∧ x.n = e.n) := by simpa using hq
        go_upto_region 6 with fail
        refine wp_region_noPanic ?_
        refine wp_region_held_drew (S := fun W' : World => Below W0.heap.size W0 W') (by kernel_rfl) hBd (fun hHeld => ?_)
        refine wpAnyH_take (i := 0) (oi := { dst := some 15, op := _, type := _, pos := _, after := _, guard := _ }) (v := .pointer (some ⟨g, 0, none⟩)) rfl (by kernel_rfl) (by kernel_rfl) (by kernel_rfl) (fun _ _ _ h => h) (Or.inl ⟨by rfl, ?_⟩) (by assumption) ?_
        · intro w9 hSw
          exact y_move rfl rfl
        simp only [Act.put, List.setIfInBounds_toArray, List.set_cons_zero, List.set_cons_succ]
        refine wpAnyH_take (i := 1) (oi := { dst := some 16, op := _, type := _, pos := _, after := _, guard := _ }) (v := .pointer (some ⟨g, 0, none⟩)) rfl (by kernel_rfl) (by kernel_rfl) (by kernel_rfl) (fun _ _ _ h => h) (Or.inl ⟨by rfl, ?_⟩) (by assumption) ?_
        · intro w9 hSw
          exact y_nil rfl rfl
        simp only [Act.put, List.setIfInBounds_toArray, List.set_cons_zero, List.set_cons_succ]
        refine wpAnyH_take (i := 2) (oi := { dst := some 17, op := _, type := _, pos := _, after := _, guard := _ }) (v := .pointer (some ⟨g, 0, none⟩)) rfl (by kernel_rfl) (by kernel_rfl) (by kernel_rfl) (fun _ _ _ h => h) (Or.inl ⟨by rfl, ?_⟩) (by assumption) ?_
        · intro w9 hSw
          exact y_field rfl rfl (field_r _ _)
        simp only [Act.put, List.setIfInBounds_toArray, List.set_cons_zero, List.set_cons_succ]
        refine wpAnyH_take (i := 3) (oi := { dst := some 18, op := _, type := _, pos := _, after := _, guard := _ }) (v := .slice (some ⟨b, off, none⟩) n kc) rfl (by kernel_rfl) (by kernel_rfl) (by kernel_rfl) (fun _ _ _ h => h) (Or.inl ⟨by rfl, ?_⟩) (by assumption) ?_
        · intro w9 hSw
          exact y_load rfl rfl (HLR.out _ hSw)
        simp only [Act.put, List.setIfInBounds_toArray, List.set_cons_zero, List.set_cons_succ]
        refine wpAnyH_take (i := 4) (oi := { dst := some 19, op := _, type := _, pos := _, after := _, guard := _ }) (v := .int .i64 (i : Int)) rfl (by kernel_rfl) (by kernel_rfl) (by kernel_rfl) (fun _ _ _ h => h) (Or.inl ⟨by rfl, ?_⟩) (by assumption) ?_
        · intro w9 hSw
          exact y_move rfl rfl
        simp only [Act.put, List.setIfInBounds_toArray, List.set_cons_zero, List.set_cons_succ]
        refine wpAnyH_take (i := 5) (oi := { dst := some 20, op := _, type := _, pos := _, after := _, guard := _ }) (v := .pointer (some ⟨b, off + i * 26, none⟩)) rfl (by kernel_rfl) (by kernel_rfl) (by kernel_rfl) (fun _ _ _ h => h) (Or.inl ⟨by rfl, ?_⟩) (by assumption) ?_
        · intro w9 hSw
          exact y_index rfl rfl rfl (hix _)
        simp only [Act.put, List.setIfInBounds_toArray, List.set_cons_zero, List.set_cons_succ]
        refine wpAnyH_take (i := 6) (oi := { dst := some 21, op := _, type := _, pos := _, after := _, guard := _ }) (v := .pointer (some ⟨b, off + i * 26, none⟩)) rfl (by kernel_rfl) (by kernel_rfl) (by kernel_rfl) (fun _ _ _ h => h) (Or.inl ⟨by rfl, ?_⟩) (by assumption) ?_
        · intro w9 hSw
          exact y_field rfl rfl (field_em0 _ _ _)
        simp only [Act.put, List.setIfInBounds_toArray, List.set_cons_zero, List.set_cons_succ]
        refine wpAnyH_take (i := 7) (oi := { dst := some 22, op := _, type := _, pos := _, after := _, guard := _ }) (v := .agg (dotc x.r x.n)) rfl (by kernel_rfl) (by kernel_rfl) (by kernel_rfl) (fun _ _ _ h => h) (Or.inl ⟨by rfl, ?_⟩) (by assumption) ?_
        · intro w9 hSw
          exact y_load rfl rfl (load_dtm (range_below hrg hSw hbl))
        simp only [Act.put, List.setIfInBounds_toArray, List.set_cons_zero, List.set_cons_succ]
        refine wpAnyH_take (i := 8) (oi := { dst := some 23, op := _, type := _, pos := _, after := _, guard := _ }) (v := .pointer (some ⟨B, 0, none⟩)) rfl (by kernel_rfl) (by kernel_rfl) (by kernel_rfl) (fun _ _ _ h => h) (Or.inl ⟨by rfl, ?_⟩) (by assumption) ?_
        · intro w9 hSw
          exact y_field rfl rfl (field_ev0 _ _)
        simp only [Act.put, List.setIfInBounds_toArray, List.set_cons_zero, List.set_cons_succ]
        refine wpAnyH_take (i := 9) (oi := { dst := some 24, op := _, type := _, pos := _, after := _, guard := _ }) (v := .agg (dotc e.r e.n)) rfl (by kernel_rfl) (by kernel_rfl) (by kernel_rfl) (fun _ _ _ h => h) (Or.inl ⟨by rfl, ?_⟩) (by assumption) ?_
        · intro w9 hSw
          exact y_load rfl rfl (LiesE.dotAt (HE0.out.below hSw hBW))
        simp only [Act.put, List.setIfInBounds_toArray, List.set_cons_zero, List.set_cons_succ]
        refine wpAnyH_take (i := 10) (oi := { dst := some 25, op := _, type := _, pos := _, after := _, guard := _ }) (v := .bool false) rfl (by kernel_rfl) (by kernel_rfl) (by kernel_rfl) (fun _ _ _ h => h) (Or.inl ⟨by rfl, ?_⟩) (by assumption) ?_
        · intro w9 hSw
          exact exec_bin rfl rfl rfl (eqGuard_dt _ _ _ _ _) (eql_dt _ hq)
        simp only [Act.put, List.setIfInBounds_toArray, List.set_cons_zero, List.set_cons_succ]
        refine wpAnyH_done (by kernel_rfl) ?_ _
        refine NoPanic.normal ?_
        clear hHeld
        have HKd : Hid (Kp W0 u4 T wr.drew) := HKp.out.next (Below.refl _ _).drew
        cases d
        · have hBe := before_any e.r e.n x.r x.n
          rcases Bool.eq_false_or_eq_true (befE e x) with hbf | hbf
          · have hbf' : decide (e.r < x.r ∨ e.r = x.r ∧ e.n < x.n) = true := hbf
            rw [hbf'] at hBe
            go_upto_region 7 with fail
            have HKdd : Hid (Kp W0 u4 T wr.drew.drew) := HKd.out.next (Below.refl _ _).drew
            have hBdd := HKdd.out.below
            refine wp_region_noPanic ?_
            refine wp_region_held_drew (S := fun W' : World => Below W0.heap.size W0 W') (by kernel_rfl) hBdd (fun hHeld => ?_)
            refine wpAnyH_take (i := 0) (oi := { dst := some 26, op := _, type := _, pos := _, after := _, guard := _ }) (v := .bool false) rfl (by kernel_rfl) (by kernel_rfl) (by kernel_rfl) (fun _ _ _ h => h) (Or.inl ⟨by rfl, ?_⟩) (by assumption) ?_
            · intro w9 hSw
              exact y_move rfl rfl
            simp only [Act.put, List.setIfInBounds_toArray, List.set_cons_zero, List.set_cons_succ]
            refine wpAnyH_take (i := 1) (oi := { dst := some 27, op := _, type := _, pos := _, after := _, guard := _ }) (v := .bool true) rfl (by kernel_rfl) (by kernel_rfl) (by kernel_rfl) (fun _ _ _ h => h) (Or.inl ⟨by rfl, ?_⟩) (by assumption) ?_
            · intro w9 hSw
              exact y_not rfl rfl rfl
            simp only [Act.put, List.setIfInBounds_toArray, List.set_cons_zero, List.set_cons_succ]
            refine wpAnyH_take (i := 2) (oi := { dst := some 28, op := _, type := _, pos := _, after := _, guard := _ }) (v := .bool true) rfl (by kernel_rfl) (by kernel_rfl) (by kernel_rfl) (fun _ _ _ h => h) (Or.inl ⟨by rfl, ?_⟩) (by assumption) ?_
            · intro w9 hSw
              exact y_move rfl rfl
            simp only [Act.put, List.setIfInBounds_toArray, List.set_cons_zero, List.set_cons_succ]
            refine wpAnyH_take (i := 3) (oi := { dst := some 29, op := _, type := _, pos := _, after := _, guard := _ }) (v := .pointer (some ⟨B, 0, none⟩)) rfl (by kernel_rfl) (by kernel_rfl) (by kernel_rfl) (fun _ _ _ h => h) (Or.inl ⟨by rfl, ?_⟩) (by assumption) ?_
            · intro w9 hSw
              exact y_field rfl rfl (field_ev0 _ _)
            simp only [Act.put, List.setIfInBounds_toArray, List.set_cons_zero, List.set_cons_succ]
            refine wpAnyH_take (i := 4) (oi := { dst := some 30, op := _, type := _, pos := _, after := _, guard := _ }) (v := .agg (dotc e.r e.n)) rfl (by kernel_rfl) (by kernel_rfl) (by kernel_rfl) (fun _ _ _ h => h) (Or.inl ⟨by rfl, ?_⟩) (by assumption) ?_
            · intro w9 hSw
              exact y_load rfl rfl (LiesE.dotAt (HE0.out.below hSw hBW))
            simp only [Act.put, List.setIfInBounds_toArray, List.set_cons_zero, List.set_cons_succ]
            refine wpAnyH_take (i := 5) (oi := { dst := some 31, op := _, type := _, pos := _, after := _, guard := _ }) (v := .pointer (some ⟨g, 0, none⟩)) rfl (by kernel_rfl) (by kernel_rfl) (by kernel_rfl) (fun _ _ _ h => h) (Or.inl ⟨by rfl, ?_⟩) (by assumption) ?_
            · intro w9 hSw
              exact y_move rfl rfl
            simp only [Act.put, List.setIfInBounds_toArray, List.set_cons_zero, List.set_cons_succ]
            refine wpAnyH_take (i := 6) (oi := { dst := some 32, op := _, type := _, pos := _, after := _, guard := _ }) (v := .pointer (some ⟨g, 0, none⟩)) rfl (by kernel_rfl) (by kernel_rfl) (by kernel_rfl) (fun _ _ _ h => h) (Or.inl ⟨by rfl, ?_⟩) (by assumption) ?_
            · intro w9 hSw
              exact y_nil rfl rfl
            simp only [Act.put, List.setIfInBounds_toArray, List.set_cons_zero, List.set_cons_succ]
            refine wpAnyH_take (i := 7) (oi := { dst := some 33, op := _, type := _, pos := _, after := _, guard := _ }) (v := .pointer (some ⟨g, 0, none⟩)) rfl (by kernel_rfl) (by kernel_rfl) (by kernel_rfl) (fun _ _ _ h => h) (Or.inl ⟨by rfl, ?_⟩) (by assumption) ?_
            · intro w9 hSw
              exact y_field rfl rfl (field_r _ _)
            simp only [Act.put, List.setIfInBounds_toArray, List.set_cons_zero, List.set_cons_succ]
            refine wpAnyH_take (i := 8) (oi := { dst := some 34, op := _, type := _, pos := _, after := _, guard := _ }) (v := .slice (some ⟨b, off, none⟩) n kc) rfl (by kernel_rfl) (by kernel_rfl) (by kernel_rfl) (fun _ _ _ h => h) (Or.inl ⟨by rfl, ?_⟩) (by assumption) ?_
            · intro w9 hSw
              exact y_load rfl rfl (HLR.out _ hSw)
            simp only [Act.put, List.setIfInBounds_toArray, List.set_cons_zero, List.set_cons_succ]
            refine wpAnyH_take (i := 9) (oi := { dst := some 35, op := _, type := _, pos := _, after := _, guard := _ }) (v := .int .i64 (i : Int)) rfl (by kernel_rfl) (by kernel_rfl) (by kernel_rfl) (fun _ _ _ h => h) (Or.inl ⟨by rfl, ?_⟩) (by assumption) ?_
            · intro w9 hSw
              exact y_move rfl rfl
            simp only [Act.put, List.setIfInBounds_toArray, List.set_cons_zero, List.set_cons_succ]
            refine wpAnyH_take (i := 10) (oi := { dst := some 36, op := _, type := _, pos := _, after := _, guard := _ }) (v := .pointer (some ⟨b, off + i * 26, none⟩)) rfl (by kernel_rfl) (by kernel_rfl) (by kernel_rfl) (fun _ _ _ h => h) (Or.inl ⟨by rfl, ?_⟩) (by assumption) ?_
            · intro w9 hSw
              exact y_index rfl rfl rfl (hix _)
            simp only [Act.put, List.setIfInBounds_toArray, List.set_cons_zero, List.set_cons_succ]
            refine wpAnyH_take (i := 11) (oi := { dst := some 37, op := _, type := _, pos := _, after := _, guard := _ }) (v := .pointer (some ⟨b, off + i * 26, none⟩)) rfl (by kernel_rfl) (by kernel_rfl) (by kernel_rfl) (fun _ _ _ h => h) (Or.inl ⟨by rfl, ?_⟩) (by assumption) ?_
            · intro w9 hSw
              exact y_field rfl rfl (field_em0 _ _ _)
            simp only [Act.put, List.setIfInBounds_toArray, List.set_cons_zero, List.set_cons_succ]
            refine wpAnyH_take (i := 12) (oi := { dst := some 38, op := _, type := _, pos := _, after := _, guard := _ }) (v := .agg (dotc x.r x.n)) rfl (by kernel_rfl) (by kernel_rfl) (by kernel_rfl) (fun _ _ _ h => h) (Or.inl ⟨by rfl, ?_⟩) (by assumption) ?_
            · intro w9 hSw
              exact y_load rfl rfl (load_dtm (range_below hrg hSw hbl))
            simp only [Act.put, List.setIfInBounds_toArray, List.set_cons_zero, List.set_cons_succ]
            clear hHeld
            refine wpAnyH_ready (rs := [13]) (by kernel_rfl) (by simp) ?_
            refine AllReadyH.cons (o := { dst := some 39, op := _, type := _, pos := _, after := _, guard := _ }) rfl (fun K hK => ?_) AllReadyH.nil
            rw [if_pos (by rfl)]
            refine y_call (f := 43) (xs := [.tmp 30, .tmp 38]) (vs := [.agg (dotc e.r e.n), .agg (dotc x.r x.n)]) rfl rfl (enters_before _ _) (hBe _) ?_
            rintro ex wA ⟨rfl, hbA⟩
            refine ⟨_, rfl, ?_⟩
            have HKA : Hid (Kp W0 u4 T wA) := HKdd.out.next hbA
            refine hK.out _ _ HKA.out.below (fun hHeld => ?_)
            clear hK K
            simp only [Act.put, List.setIfInBounds_toArray, List.set_cons_zero, List.set_cons_succ]
            refine wpAnyH_take (i := 14) (oi := { dst := some 40, op := _, type := _, pos := _, after := _, guard := _ }) (v := .bool true) rfl (by kernel_rfl) (by kernel_rfl) (by kernel_rfl) (fun _ _ _ h => h) (Or.inl ⟨by rfl, ?_⟩) (by assumption) ?_
            · intro w9 hSw
              exact exec_pick (b := true) rfl rfl rfl rfl
            simp only [Act.put, List.setIfInBounds_toArray, List.set_cons_zero, List.set_cons_succ]
            refine wpAnyH_done (by kernel_rfl) ?_ _
            refine NoPanic.normal ?_
            clear hHeld
            have HK2 : Hid (KeepP L e (i + 1) true (T ++ [e, x])) := by have := hK.new hxi hbf; rwa [List.append_assoc] at this
            have hEwC : LiesE wA B e := HE0.out.below HKA.out.below hBW
            have hrowwC : Row (wA.alloc (.cells (evc e) 44)) W0.heap.size u4 (T) := HKA.out.row.below ((Below.refl _ _).alloc (Nat.le_refl _) _) (Nat.le_refl _)
            have hFwC : Evs (wA.alloc (.cells (evc e) 44)) (some ⟨wA.heap.size, 0, none⟩) 1 1 [e] := evs_single _ _ e hw (liesE_new wA e)
            have hlewC : W0.heap.size ≤ (wA.alloc (.cells (evc e) 44)).heap.size := by have := HKA.out.below.size; rw [World.size_alloc]; omega
            have hllwC : (T).length + 1 ≤ 1048576 := by simp; omega
            have hlrwC := HLR.out wA HKA.out.below
            have HKxwC : Hid (Kp W0 u4 (T) (wA.alloc (.cells (evc e) 44))) := HKA.out.next ((Below.refl _ _).alloc (Nat.le_refl _) _)
            go_wp2_with (first | (refine wpList_loadR (ty := 27) (x := .tmp 48) (ad := ⟨g, 0, none⟩) (v := .slice ao n kc) rfl rfl rfl hlrwC ?_) | refine load_ev rfl rfl rfl hEwC he16 ?_ | refine build_ev1 rfl rfl rfl he16 ?_ | refine wpList_appE rfl _ _ rfl W0.heap.size _ (T) rfl hrowwC _ 1 1 [e] rfl hFwC hllwC hlewC ?_)
            intro vC wC hrwC hgwC hnwC
            have HKC : Hid (Kp W0 vC (T ++ [e]) wC) := HKxwC.out.app hrwC hgwC
            clear hrwC hgwC hnwC hrowwC hFwC HKxwC hEwC
            have hEwB := range_below hrg HKC.out.below hbl
            have hrowwB : Row (wC.alloc (.cells (evc x) 44)) W0.heap.size vC (T ++ [e]) := HKC.out.row.below ((Below.refl _ _).alloc (Nat.le_refl _) _) (Nat.le_refl _)
            have hFwB : Evs (wC.alloc (.cells (evc x) 44)) (some ⟨wC.heap.size, 0, none⟩) 1 1 [x] := evs_single _ _ x hwx (liesE_new wC x)
            have hlewB : W0.heap.size ≤ (wC.alloc (.cells (evc x) 44)).heap.size := by have := HKC.out.below.size; rw [World.size_alloc]; omega
            have hllwB : (T ++ [e]).length + 1 ≤ 1048576 := by simp; omega
            have hlrwB := HLR.out wC HKC.out.below
            have HKxwB : Hid (Kp W0 vC (T ++ [e]) (wC.alloc (.cells (evc x) 44))) := HKC.out.next ((Below.refl _ _).alloc (Nat.le_refl _) _)
            go_wp2_with (first | (refine wpList_loadR (ty := 27) (x := .tmp 48) (ad := ⟨g, 0, none⟩) (v := .slice (some ⟨b, off, none⟩) n kc) rfl rfl rfl hlrwB ?_) | refine load_ev_mid rfl rfl rfl hEwB hx16 ?_ | refine build_ev1 rfl rfl rfl hx16 ?_ | refine wpList_appE rfl _ _ rfl W0.heap.size _ (T ++ [e]) rfl hrowwB _ 1 1 [x] rfl hFwB hllwB hlewB ?_)
            intro vB wB hrwB hgwB hnwB
            have HKB : Hid (Kp W0 vB (T ++ [e, x]) wB) := HKxwB.out.app hrwB hgwB
            clear hrwB hgwB hnwB hrowwB hFwB HKxwB hEwB
            go_wp2
            go_roundw
            case rel => exact ⟨i + 1, true, T ++ [e, x], by omega, by go_num, rfl, HK2.out, by simp; omega, HKB.out⟩
            case measure => simp [intOf]; omega
          · have hbf' : decide (e.r < x.r ∨ e.r = x.r ∧ e.n < x.n) = false := hbf
            rw [hbf'] at hBe
            go_upto_region 7 with fail
            have HKdd : Hid (Kp W0 u4 T wr.drew.drew) := HKd.out.next (Below.refl _ _).drew
            have hBdd := HKdd.out.below
            refine wp_region_noPanic ?_
            refine wp_region_held_drew (S := fun W' : World => Below W0.heap.size W0 W') (by kernel_rfl) hBdd (fun hHeld => ?_)
            refine wpAnyH_take (i := 0) (oi := { dst := some 26, op := _, type := _, pos := _, after := _, guard := _ }) (v := .bool false) rfl (by kernel_rfl) (by kernel_rfl) (by kernel_rfl) (fun _ _ _ h => h) (Or.inl ⟨by rfl, ?_⟩) (by assumption) ?_
            · intro w9 hSw
              exact y_move rfl rfl
            simp only [Act.put, List.setIfInBounds_toArray, List.set_cons_zero, List.set_cons_succ]
            refine wpAnyH_take (i := 1) (oi := { dst := some 27, op := _, type := _, pos := _, after := _, guard := _ }) (v := .bool true) rfl (by kernel_rfl) (by kernel_rfl) (by kernel_rfl) (fun _ _ _ h => h) (Or.inl ⟨by rfl, ?_⟩) (by assumption) ?_
            · intro w9 hSw
              exact y_not rfl rfl rfl
            simp only [Act.put, List.setIfInBounds_toArray, List.set_cons_zero, List.set_cons_succ]
            refine wpAnyH_take (i := 2) (oi := { dst := some 28, op := _, type := _, pos := _, after := _, guard := _ }) (v := .bool true) rfl (by kernel_rfl) (by kernel_rfl) (by kernel_rfl) (fun _ _ _ h => h) (Or.inl ⟨by rfl, ?_⟩) (by assumption) ?_
            · intro w9 hSw
              exact y_move rfl rfl
            simp only [Act.put, List.setIfInBounds_toArray, List.set_cons_zero, List.set_cons_succ]
            refine wpAnyH_take (i := 3) (oi := { dst := some 29, op := _, type := _, pos := _, after := _, guard := _ }) (v := .pointer (some ⟨B, 0, none⟩)) rfl (by kernel_rfl) (by kernel_rfl) (by kernel_rfl) (fun _ _ _ h => h) (Or.inl ⟨by rfl, ?_⟩) (by assumption) ?_
            · intro w9 hSw
              exact y_field rfl rfl (field_ev0 _ _)
            simp only [Act.put, List.setIfInBounds_toArray, List.set_cons_zero, List.set_cons_succ]
            refine wpAnyH_take (i := 4) (oi := { dst := some 30, op := _, type := _, pos := _, after := _, guard := _ }) (v := .agg (dotc e.r e.n)) rfl (by kernel_rfl) (by kernel_rfl) (by kernel_rfl) (fun _ _ _ h => h) (Or.inl ⟨by rfl, ?_⟩) (by assumption) ?_
            · intro w9 hSw
              exact y_load rfl rfl (LiesE.dotAt (HE0.out.below hSw hBW))
            simp only [Act.put, List.setIfInBounds_toArray, List.set_cons_zero, List.set_cons_succ]
            refine wpAnyH_take (i := 5) (oi := { dst := some 31, op := _, type := _, pos := _, after := _, guard := _ }) (v := .pointer (some ⟨g, 0, none⟩)) rfl (by kernel_rfl) (by kernel_rfl) (by kernel_rfl) (fun _ _ _ h => h) (Or.inl ⟨by rfl, ?_⟩) (by assumption) ?_
            · intro w9 hSw
              exact y_move rfl rfl
            simp only [Act.put, List.setIfInBounds_toArray, List.set_cons_zero, List.set_cons_succ]
            refine wpAnyH_take (i := 6) (oi := { dst := some 32, op := _, type := _, pos := _, after := _, guard := _ }) (v := .pointer (some ⟨g, 0, none⟩)) rfl (by kernel_rfl) (by kernel_rfl) (by kernel_rfl) (fun _ _ _ h => h) (Or.inl ⟨by rfl, ?_⟩) (by assumption) ?_
            · intro w9 hSw
              exact y_nil rfl rfl
            simp only [Act.put, List.setIfInBounds_toArray, List.set_cons_zero, List.set_cons_succ]
            refine wpAnyH_take (i := 7) (oi := { dst := some 33, op := _, type := _, pos := _, after := _, guard := _ }) (v := .pointer (some ⟨g, 0, none⟩)) rfl (by kernel_rfl) (by kernel_rfl) (by kernel_rfl) (fun _ _ _ h => h) (Or.inl ⟨by rfl, ?_⟩) (by assumption) ?_
            · intro w9 hSw
              exact y_field rfl rfl (field_r _ _)
            simp only [Act.put, List.setIfInBounds_toArray, List.set_cons_zero, List.set_cons_succ]
            refine wpAnyH_take (i := 8) (oi := { dst := some 34, op := _, type := _, pos := _, after := _, guard := _ }) (v := .slice (some ⟨b, off, none⟩) n kc) rfl (by kernel_rfl) (by kernel_rfl) (by kernel_rfl) (fun _ _ _ h => h) (Or.inl ⟨by rfl, ?_⟩) (by assumption) ?_
            · intro w9 hSw
              exact y_load rfl rfl (HLR.out _ hSw)
            simp only [Act.put, List.setIfInBounds_toArray, List.set_cons_zero, List.set_cons_succ]
            refine wpAnyH_take (i := 9) (oi := { dst := some 35, op := _, type := _, pos := _, after := _, guard := _ }) (v := .int .i64 (i : Int)) rfl (by kernel_rfl) (by kernel_rfl) (by kernel_rfl) (fun _ _ _ h => h) (Or.inl ⟨by rfl, ?_⟩) (by assumption) ?_
            · intro w9 hSw
              exact y_move rfl rfl
            simp only [Act.put, List.setIfInBounds_toArray, List.set_cons_zero, List.set_cons_succ]
            refine wpAnyH_take (i := 10) (oi := { dst := some 36, op := _, type := _, pos := _, after := _, guard := _ }) (v := .pointer (some ⟨b, off + i * 26, none⟩)) rfl (by kernel_rfl) (by kernel_rfl) (by kernel_rfl) (fun _ _ _ h => h) (Or.inl ⟨by rfl, ?_⟩) (by assumption) ?_
            · intro w9 hSw
              exact y_index rfl rfl rfl (hix _)
            simp only [Act.put, List.setIfInBounds_toArray, List.set_cons_zero, List.set_cons_succ]
            refine wpAnyH_take (i := 11) (oi := { dst := some 37, op := _, type := _, pos := _, after := _, guard := _ }) (v := .pointer (some ⟨b, off + i * 26, none⟩)) rfl (by kernel_rfl) (by kernel_rfl) (by kernel_rfl) (fun _ _ _ h => h) (Or.inl ⟨by rfl, ?_⟩) (by assumption) ?_
            · intro w9 hSw
              exact y_field rfl rfl (field_em0 _ _ _)
            simp only [Act.put, List.setIfInBounds_toArray, List.set_cons_zero, List.set_cons_succ]
            refine wpAnyH_take (i := 12) (oi := { dst := some 38, op := _, type := _, pos := _, after := _, guard := _ }) (v := .agg (dotc x.r x.n)) rfl (by kernel_rfl) (by kernel_rfl) (by kernel_rfl) (fun _ _ _ h => h) (Or.inl ⟨by rfl, ?_⟩) (by assumption) ?_
            · intro w9 hSw
              exact y_load rfl rfl (load_dtm (range_below hrg hSw hbl))
            simp only [Act.put, List.setIfInBounds_toArray, List.set_cons_zero, List.set_cons_succ]
            clear hHeld
            refine wpAnyH_ready (rs := [13]) (by kernel_rfl) (by simp) ?_
            refine AllReadyH.cons (o := { dst := some 39, op := _, type := _, pos := _, after := _, guard := _ }) rfl (fun K hK => ?_) AllReadyH.nil
            rw [if_pos (by rfl)]
            refine y_call (f := 43) (xs := [.tmp 30, .tmp 38]) (vs := [.agg (dotc e.r e.n), .agg (dotc x.r x.n)]) rfl rfl (enters_before _ _) (hBe _) ?_
            rintro ex wA ⟨rfl, hbA⟩
            refine ⟨_, rfl, ?_⟩
            have HKA : Hid (Kp W0 u4 T wA) := HKdd.out.next hbA
            refine hK.out _ _ HKA.out.below (fun hHeld => ?_)
            clear hK K
            simp only [Act.put, List.setIfInBounds_toArray, List.set_cons_zero, List.set_cons_succ]
            refine wpAnyH_take (i := 14) (oi := { dst := some 40, op := _, type := _, pos := _, after := _, guard := _ }) (v := .bool false) rfl (by kernel_rfl) (by kernel_rfl) (by kernel_rfl) (fun _ _ _ h => h) (Or.inl ⟨by rfl, ?_⟩) (by assumption) ?_
            · intro w9 hSw
              exact exec_pick (b := true) rfl rfl rfl rfl
            simp only [Act.put, List.setIfInBounds_toArray, List.set_cons_zero, List.set_cons_succ]
            refine wpAnyH_done (by kernel_rfl) ?_ _
            refine NoPanic.normal ?_
            clear hHeld
            have HK2 : Hid (KeepP L e (i + 1) false (T ++ [x])) := hK.skip hxi hnq hbf
            have hEwB := range_below hrg HKA.out.below hbl
            have hrowwB : Row (wA.alloc (.cells (evc x) 44)) W0.heap.size u4 (T) := HKA.out.row.below ((Below.refl _ _).alloc (Nat.le_refl _) _) (Nat.le_refl _)
            have hFwB : Evs (wA.alloc (.cells (evc x) 44)) (some ⟨wA.heap.size, 0, none⟩) 1 1 [x] := evs_single _ _ x hwx (liesE_new wA x)
            have hlewB : W0.heap.size ≤ (wA.alloc (.cells (evc x) 44)).heap.size := by have := HKA.out.below.size; rw [World.size_alloc]; omega
            have hllwB : (T).length + 1 ≤ 1048576 := by simp; omega
            have hlrwB := HLR.out wA HKA.out.below
            have HKxwB : Hid (Kp W0 u4 (T) (wA.alloc (.cells (evc x) 44))) := HKA.out.next ((Below.refl _ _).alloc (Nat.le_refl _) _)
            go_wp2_with (first | (refine wpList_loadR (ty := 27) (x := .tmp 48) (ad := ⟨g, 0, none⟩) (v := .slice (some ⟨b, off, none⟩) n kc) rfl rfl rfl hlrwB ?_) | refine load_ev_mid rfl rfl rfl hEwB hx16 ?_ | refine build_ev1 rfl rfl rfl hx16 ?_ | refine wpList_appE rfl _ _ rfl W0.heap.size _ (T) rfl hrowwB _ 1 1 [x] rfl hFwB hllwB hlewB ?_)
            intro vB wB hrwB hgwB hnwB
            have HKB : Hid (Kp W0 vB (T ++ [x]) wB) := HKxwB.out.app hrwB hgwB
            clear hrwB hgwB hnwB hrowwB hFwB HKxwB hEwB
            go_wp2
            go_roundw
            case rel => exact ⟨i + 1, false, T ++ [x], by omega, by go_num, rfl, HK2.out, by simp; omega, HKB.out⟩
            case measure => simp [intOf]; omega
        · go_upto_region 7 with fail
          have HKA : Hid (Kp W0 u4 T wr.drew.drew) := HKd.out.next (Below.refl _ _).drew
          have hBdd := HKA.out.below
          refine wp_region_noPanic ?_
          refine wp_region_held_drew (S := fun W' : World => Below W0.heap.size W0 W') (by kernel_rfl) hBdd (fun hHeld => ?_)
          refine wpAnyH_take (i := 0) (oi := { dst := some 26, op := _, type := _, pos := _, after := _, guard := _ }) (v := .bool true) rfl (by kernel_rfl) (by kernel_rfl) (by kernel_rfl) (fun _ _ _ h => h) (Or.inl ⟨by rfl, ?_⟩) (by assumption) ?_
          · intro w9 hSw
            exact y_move rfl rfl
          simp only [Act.put, List.setIfInBounds_toArray, List.set_cons_zero, List.set_cons_succ]
          refine wpAnyH_take (i := 1) (oi := { dst := some 27, op := _, type := _, pos := _, after := _, guard := _ }) (v := .bool false) rfl (by kernel_rfl) (by kernel_rfl) (by kernel_rfl) (fun _ _ _ h => h) (Or.inl ⟨by rfl, ?_⟩) (by assumption) ?_
          · intro w9 hSw
            exact y_not rfl rfl rfl
          simp only [Act.put, List.setIfInBounds_toArray, List.set_cons_zero, List.set_cons_succ]
          refine wpAnyH_take (i := 2) (oi := { dst := some 28, op := _, type := _, pos := _, after := _, guard := _ }) (v := .bool false) rfl (by kernel_rfl) (by kernel_rfl) (by kernel_rfl) (fun _ _ _ h => h) (Or.inl ⟨by rfl, ?_⟩) (by assumption) ?_
          · intro w9 hSw
            exact y_move rfl rfl
          simp only [Act.put, List.setIfInBounds_toArray, List.set_cons_zero, List.set_cons_succ]
          refine wpAnyH_take (i := 3) (oi := { dst := some 29, op := _, type := _, pos := _, after := _, guard := _ }) (v := undef) rfl (by kernel_rfl) (by kernel_rfl) (by kernel_rfl) (fun _ _ _ h => h) (Or.inr ⟨by rfl, rfl⟩) (by assumption) ?_
          simp only [Act.put, List.setIfInBounds_toArray, List.set_cons_zero, List.set_cons_succ]
          refine wpAnyH_take (i := 4) (oi := { dst := some 30, op := _, type := _, pos := _, after := _, guard := _ }) (v := undef) rfl (by kernel_rfl) (by kernel_rfl) (by kernel_rfl) (fun _ _ _ h => h) (Or.inr ⟨by rfl, rfl⟩) (by assumption) ?_
          simp only [Act.put, List.setIfInBounds_toArray, List.set_cons_zero, List.set_cons_succ]
          refine wpAnyH_take (i := 5) (oi := { dst := some 31, op := _, type := _, pos := _, after := _, guard := _ }) (v := undef) rfl (by kernel_rfl) (by kernel_rfl) (by kernel_rfl) (fun _ _ _ h => h) (Or.inr ⟨by rfl, rfl⟩) (by assumption) ?_
          simp only [Act.put, List.setIfInBounds_toArray, List.set_cons_zero, List.set_cons_succ]
          refine wpAnyH_take (i := 6) (oi := { dst := some 32, op := _, type := _, pos := _, after := _, guard := _ }) (v := undef) rfl (by kernel_rfl) (by kernel_rfl) (by kernel_rfl) (fun _ _ _ h => h) (Or.inr ⟨by rfl, rfl⟩) (by assumption) ?_
          simp only [Act.put, List.setIfInBounds_toArray, List.set_cons_zero, List.set_cons_succ]
          refine wpAnyH_take (i := 7) (oi := { dst := some 33, op := _, type := _, pos := _, after := _, guard := _ }) (v := undef) rfl (by kernel_rfl) (by kernel_rfl) (by kernel_rfl) (fun _ _ _ h => h) (Or.inr ⟨by rfl, rfl⟩) (by assumption) ?_
          simp only [Act.put, List.setIfInBounds_toArray, List.set_cons_zero, List.set_cons_succ]
          refine wpAnyH_take (i := 8) (oi := { dst := some 34, op := _, type := _, pos := _, after := _, guard := _ }) (v := undef) rfl (by kernel_rfl) (by kernel_rfl) (by kernel_rfl) (fun _ _ _ h => h) (Or.inr ⟨by rfl, rfl⟩) (by assumption) ?_
          simp only [Act.put, List.setIfInBounds_toArray, List.set_cons_zero, List.set_cons_succ]
          refine wpAnyH_take (i := 9) (oi := { dst := some 35, op := _, type := _, pos := _, after := _, guard := _ }) (v := undef) rfl (by kernel_rfl) (by kernel_rfl) (by kernel_rfl) (fun _ _ _ h => h) (Or.inr ⟨by rfl, rfl⟩) (by assumption) ?_
          simp only [Act.put, List.setIfInBounds_toArray, List.set_cons_zero, List.set_cons_succ]
          refine wpAnyH_take (i := 10) (oi := { dst := some 36, op := _, type := _, pos := _, after := _, guard := _ }) (v := undef) rfl (by kernel_rfl) (by kernel_rfl) (by kernel_rfl) (fun _ _ _ h => h) (Or.inr ⟨by rfl, rfl⟩) (by assumption) ?_
          simp only [Act.put, List.setIfInBounds_toArray, List.set_cons_zero, List.set_cons_succ]
          refine wpAnyH_take (i := 11) (oi := { dst := some 37, op := _, type := _, pos := _, after := _, guard := _ }) (v := undef) rfl (by kernel_rfl) (by kernel_rfl) (by kernel_rfl) (fun _ _ _ h => h) (Or.inr ⟨by rfl, rfl⟩) (by assumption) ?_
          simp only [Act.put, List.setIfInBounds_toArray, List.set_cons_zero, List.set_cons_succ]
          refine wpAnyH_take (i := 12) (oi := { dst := some 38, op := _, type := _, pos := _, after := _, guard := _ }) (v := undef) rfl (by kernel_rfl) (by kernel_rfl) (by kernel_rfl) (fun _ _ _ h => h) (Or.inr ⟨by rfl, rfl⟩) (by assumption) ?_
          simp only [Act.put, List.setIfInBounds_toArray, List.set_cons_zero, List.set_cons_succ]
          refine wpAnyH_take (i := 13) (oi := { dst := some 39, op := _, type := _, pos := _, after := _, guard := _ }) (v := undef) rfl (by kernel_rfl) (by kernel_rfl) (by kernel_rfl) (fun _ _ _ h => h) (Or.inr ⟨by rfl, rfl⟩) (by assumption) ?_
          simp only [Act.put, List.setIfInBounds_toArray, List.set_cons_zero, List.set_cons_succ]
          refine wpAnyH_take (i := 14) (oi := { dst := some 40, op := _, type := _, pos := _, after := _, guard := _ }) (v := .bool false) rfl (by kernel_rfl) (by kernel_rfl) (by kernel_rfl) (fun _ _ _ h => h) (Or.inl ⟨by rfl, ?_⟩) (by assumption) ?_
          · intro w9 hSw
            exact exec_pick (b := false) rfl rfl rfl rfl
          simp only [Act.put, List.setIfInBounds_toArray, List.set_cons_zero, List.set_cons_succ]
          refine wpAnyH_done (by kernel_rfl) ?_ _
          refine NoPanic.normal ?_
          clear hHeld
          have HK2 : Hid (KeepP L e (i + 1) true (T ++ [x])) := hK.old hs hxi hnq
          have hEwB := range_below hrg HKA.out.below hbl
          have hrowwB : Row (wr.drew.drew.alloc (.cells (evc x) 44)) W0.heap.size u4 (T) := HKA.out.row.below ((Below.refl _ _).alloc (Nat.le_refl _) _) (Nat.le_refl _)
          have hFwB : Evs (wr.drew.drew.alloc (.cells (evc x) 44)) (some ⟨wr.drew.drew.heap.size, 0, none⟩) 1 1 [x] := evs_single _ _ x hwx (liesE_new wr.drew.drew x)
          have hlewB : W0.heap.size ≤ (wr.drew.drew.alloc (.cells (evc x) 44)).heap.size := by have := HKA.out.below.size; rw [World.size_alloc]; omega
          have hllwB : (T).length + 1 ≤ 1048576 := by simp; omega
          have hlrwB := HLR.out wr.drew.drew HKA.out.below
          have HKxwB : Hid (Kp W0 u4 (T) (wr.drew.drew.alloc (.cells (evc x) 44))) := HKA.out.next ((Below.refl _ _).alloc (Nat.le_refl _) _)
          go_wp2_with (first | (refine wpList_loadR (ty := 27) (x := .tmp 48) (ad := ⟨g, 0, none⟩) (v := .slice (some ⟨b, off, none⟩) n kc) rfl rfl rfl hlrwB ?_) | refine load_ev_mid rfl rfl rfl hEwB hx16 ?_ | refine build_ev1 rfl rfl rfl hx16 ?_ | refine wpList_appE rfl _ _ rfl W0.heap.size _ (T) rfl hrowwB _ 1 1 [x] rfl hFwB hllwB hlewB ?_)
          intro vB wB hrwB hgwB hnwB
          have HKB : Hid (Kp W0 vB (T ++ [x]) wB) := HKxwB.out.app hrwB hgwB
          clear hrwB hgwB hnwB hrowwB hFwB HKxwB hEwB
          go_wp2
          go_roundw
          case rel => exact ⟨i + 1, true, T ++ [x], by omega, by go_num, rfl, HK2.out, by simp; omega, HKB.out⟩
          case measure => simp [intOf]; omega
    · have hlt' : ¬ (i : Int) < (n : Int) := by omega
      obtain ⟨hno, hfin⟩ := hK.done (by omega)
      have hEr : LiesE wr B e := HE0.out.below hKp.below hBW
      have HKp : Hid _ := hKp
      cases d
      · have HFIN : Hid (T ++ [e] = keepE L e) := show T ++ [e] = keepE L e from (by simpa using hfin)
        clear hfin hno
        have hEwB : LiesE wr B e := HE0.out.below HKp.out.below hBW
        have hrowwB : Row (wr.alloc (.cells (evc e) 44)) W0.heap.size u4 (T) := HKp.out.row.below ((Below.refl _ _).alloc (Nat.le_refl _) _) (Nat.le_refl _)
        have hFwB : Evs (wr.alloc (.cells (evc e) 44)) (some ⟨wr.heap.size, 0, none⟩) 1 1 [e] := evs_single _ _ e hw (liesE_new wr e)
        have hlewB : W0.heap.size ≤ (wr.alloc (.cells (evc e) 44)).heap.size := by have := HKp.out.below.size; rw [World.size_alloc]; omega
        have hllwB : (T).length + 1 ≤ 1048576 := by simp; omega
        have hlrwB := HLR.out wr HKp.out.below
        have HKxwB : Hid (Kp W0 u4 (T) (wr.alloc (.cells (evc e) 44))) := HKp.out.next ((Below.refl _ _).alloc (Nat.le_refl _) _)
        go_wp2_with (first | (refine wpList_loadR (ty := 27) (x := .tmp 48) (ad := ⟨g, 0, none⟩) (v := .slice ao n kc) rfl rfl rfl hlrwB ?_) | refine load_ev rfl rfl rfl hEwB he16 ?_ | refine build_ev1 rfl rfl rfl he16 ?_ | refine wpList_appE rfl _ _ rfl W0.heap.size _ (T) rfl hrowwB _ 1 1 [e] rfl hFwB hllwB hlewB ?_)
        intro vB wB hrwB hgwB hnwB
        have HKB : Hid (Kp W0 vB (T ++ [e]) wB) := HKxwB.out.app hrwB hgwB
        clear hrwB hgwB hnwB hrowwB hFwB HKxwB hEwB
        have hfz : wB.frozen? ⟨g, 0, none⟩ = false := frozen_of_row wB g 0 _ _ (HR0.out.below HKB.out.below).blk
        have hcl : wB.cell? ⟨g, 0, none⟩ = some c := by rw [cell_of_row wB g 0 _ _ _ (HR0.out.below HKB.out.below).blk]; rfl
        have FIN := keep_store (v := vB) (HR0.out.below HKB.out.below) HKB.out.row (by have := HR0.out.lt; omega)
        go_wp2_with (first | (refine wpList_storeC rfl rfl rfl rfl (FIN.1) ?_))
        go_end0
        refine ⟨rfl, ⟨vB, by rw [← HFIN.out]; exact FIN.2.1⟩, grown_tr (grown_tr (grown_below' HB0.out _) (grown_below' HKB.out.below _)) FIN.2.2⟩
      · have HFIN : Hid (T = keepE L e) := show T = keepE L e from (by simpa using hfin)
        clear hfin hno
        have FIN := keep_store (v := u4) (HR0.out.below HKp.out.below) HKp.out.row (by have := HR0.out.lt; omega)
        go_wp2_with (first | (refine wpList_storeC rfl rfl rfl rfl (FIN.1) ?_))
        go_end0
        refine ⟨rfl, ⟨u4, by rw [← HFIN.out]; exact FIN.2.1⟩, grown_tr (grown_tr (grown_below' HB0.out _) (grown_below' HKp.out.below _)) FIN.2.2⟩
end Go.Proofs.Ythpkpmcccpfabaa

namespace Go.Proofs.Ythpkpmcccpfabaa
set_option maxRecDepth 100000
open Go.RowKit

def condE (L : List Ev) (e : Ev) (v : List Int) : Bool := okev e && (!hasv v e.r e.n && decide (L.length < 64))
theorem cond_yes {L : List Ev} {e : Ev} {v : List Int} (h : condE L e v = true) : keepE L e = offS L e v := by
  simp only [condE, Bool.and_eq_true, Bool.not_eq_true', decide_eq_true_eq] at h
  unfold keepE offS takesE
  rw [h.1, h.2.1, decide_eq_true h.2.2]
  cases hasE L e <;> simp
theorem cond_no {L : List Ev} {e : Ev} {v : List Int} (h : condE L e v = false) : offS L e v = L := by
  unfold offS
  rw [if_neg]
  intro ht
  simp only [takesE, Bool.and_eq_true] at ht
  unfold condE at h
  rw [ht.1, ht.2.1, ht.2.2.2] at h
  cases h
/-- What the loop keeps. -/
structure Ro (w : World) (g B : Nat) (S1 : List Ev) (v : List Int) (T M : List Ev) (u : List Int) (c1 c7 : Value) (wr : World) : Prop where
  ref : Ref S1 v T M u
  fit : Fit u
  sub : ∀ x ∈ M, x ∈ S1
  len : M.length ≤ 64
  rf : Rf wr g c1 M
  vec : Lies wr (B + 1) u
  row : Row wr (B + 2) c7 T
  grown : w.grownBy wr (some g)
theorem Ref.tl {S T M : List Ev} {v u : List Int} (h : Ref S v T M u) : T.length ≤ S.length := by
  obtain ⟨⟨n, L, h1, -⟩, -, -⟩ := h
  have := (run_perm S v n).length_eq
  rw [h1, List.length_append] at this
  simp only at this
  omega
theorem Ro.told {w : World} {g B : Nat} {S1 : List Ev} {v : List Int} {T M : List Ev} {u : List Int} {c1 c7 : Value} {wr : World} (h : Ro w g B S1 v T M u c1 c7 wr) : ∀ x ∈ T, x ∈ S1 := by
  obtain ⟨⟨n, L, h1, -⟩, -, -⟩ := h.ref
  have := run_perm S1 v n
  rw [h1] at this
  exact fun x hx => this.mem_iff.1 (List.mem_append_left _ hx)
theorem Fit.see {u : List Int} (h : Fit u) {e : Ev} (hd : okdot e.r e.n = true) : Fit (seeV u e) := fun j => by
  simp only [okdot, decide_eq_true_eq] at hd
  rw [seeV_getD]
  split
  · omega
  · exact h j
/-- The first place from q on, or -1. -/
def atQ (F : List Ev) (u : List Int) (q : Nat) : Int := match (F.drop q).findIdx? (fun e => mayE e u) with
  | none => -1
  | some k => ((q + k : Nat) : Int)
theorem atQ_end (F : List Ev) (u : List Int) : atQ F u F.length = -1 := by unfold atQ; simp
theorem atQ_zero (F : List Ev) (u : List Int) : atQ F u 0 = idxQ F u := by
  unfold atQ idxQ
  rw [List.drop_zero]
  cases F.findIdx? (fun e => mayE e u) <;> simp
theorem atQ_yes {F : List Ev} {u : List Int} {q : Nat} {x : Ev} (hx : F[q]? = some x) (hm : mayE x u = true) : atQ F u q = (q : Int) := by
  obtain ⟨h1, h2⟩ := List.getElem?_eq_some_iff.1 hx
  unfold atQ
  rw [List.drop_eq_getElem_cons h1, h2, List.findIdx?_cons, hm]
  simp
theorem atQ_no {F : List Ev} {u : List Int} {q : Nat} {x : Ev} (hx : F[q]? = some x) (hm : mayE x u = false) : atQ F u q = atQ F u (q + 1) := by
  obtain ⟨h1, h2⟩ := List.getElem?_eq_some_iff.1 hx
  unfold atQ
  rw [List.drop_eq_getElem_cons h1, h2, List.findIdx?_cons, hm]
  cases (F.drop (q + 1)).findIdx? (fun e => mayE e u) with
  | none => simp
  | some k => simp; omega
theorem filter_take {M : List Ev} {p : Ev → Bool} {i : Nat} {x : Ev} (hx : M[i]? = some x) : (M.take (i + 1)).filter p = (M.take i).filter p ++ (if p x then [x] else []) := by
  rw [take_snoc hx, List.filter_append]
  cases hp : p x <;> simp [hp]
theorem find_idxQ {F : List Ev} {u : List Int} (h : F.findIdx? (fun e => mayE e u) = none) : F.find? (fun e => mayE e u) = none := by
  rw [List.findIdx?_eq_none_iff] at h
  rw [List.find?_eq_none]
  exact fun x hx => by rw [h x hx]; simp
set_option maxHeartbeats 8000000 in
theorem roffer_any (g : Nat) (c : Value) (L : List Ev) (e : Ev) (v : List Int) (w : World) (h : Rf w g c L) (hB : Buf L) (hwL : ∀ x ∈ L, Wide x) (hw : Wide e) (hv : v.length = 16) (hf : Fit v) :
    Calls Try.prog 12 #[.pointer (some ⟨g, 0, none⟩), .agg (evc e), .agg (vals v)] w fun ex w' => ∃ vt T L' c' u, ex = .returned vt ∧ Off L e v T L' u ∧ Row w' w.heap.size vt T ∧ Rf w' g c' L' ∧ w.grownBy w' (some g) := by
  have he16 := hw.1
  obtain ⟨B, hBs⟩ : ∃ B, w.heap.size = B := ⟨_, rfl⟩
  have hb0 : Below w.heap.size w ((w.alloc (.cells (evc e) 44)).alloc (.cells (vals v) 40)) := ((Below.refl _ w).alloc (Nat.le_refl _) _).alloc (by simp) _
  have hR0 := h.below hb0
  have hE0 : LiesE ((w.alloc (.cells (evc e) 44)).alloc (.cells (vals v) 40)) B e := by rw [← hBs]; exact (liesE_new w e).alloc _
  have hV0 : Lies ((w.alloc (.cells (evc e) 44)).alloc (.cells (vals v) 40)) (B + 1) v := by
    have := lies_new (w.alloc (.cells (evc e) 44)) v
    rw [World.size_alloc, hBs] at this
    exact this
  have hgB : g < B := by rw [← hBs]; exact h.lt
  generalize hW0 : (w.alloc (.cells (evc e) 44)).alloc (.cells (vals v) 40) = W0 at *
  obtain ⟨ao, kc, hc, -⟩ := hR0.val hwL
  have HBO : Hid _ := hB.off e v
  have HWO : Hid _ := Buf.wide (v := v) hwL hw
  have HG0 : Hid (w.grownBy W0 (some g)) := grown_below' hb0 _
  have hRi := reright_any e he16 W0
  have HLl : Hid (L.length ≤ 64) := hB.len
  have HSr : Hid (SrE L) := hB.srt
  have HWL : Hid (∀ x ∈ L, Wide x) := hwL
  have HRf0 : Hid (Rf W0 g c L) := hR0
  have hHa := fun W : World => rhas_any v e.r e.n hv W
  have hlr0 : ∀ W, Below W0.heap.size W0 W → (loadVar 27 ⟨g, 0, none⟩).run Try.prog W = .ok (.slice ao L.length kc) W := fun W hb => by
    have h1 := (HRf0.out.below hb).blk
    rw [hc] at h1
    exact load_rl h1 ⟨ao, L.length, kc, rfl⟩
  have HLR : Hid _ := hlr0
  have HE0 : Hid (LiesE W0 B e) := hE0
  have HV0 : Hid (Lies W0 (B + 1) v) := hV0
  have hB2 : B + 2 ≤ W0.heap.size := by have := hV0.lt; omega
  have hE0' := hE0
  clear hb0 h hB hR0 hV0 hwL hlr0 hE0
  cases hok : okev e
  · rw [hok] at hRi
    have HS1 : Hid (offS L e v = L) := cond_no (by unfold condE; rw [hok]; rfl)
    go_enter Try.func12, Try.ntmps12
    go_wp2_with (first | refine load_ev rfl rfl rfl hE0' he16 ?_)
    refine Calls.mono hRi ?_
    rintro ex wS ⟨rfl, hbS⟩
    have HRS : Hid (Rf wS g c L) := HRf0.out.below hbS
    have HVS : Hid (Lies wS (B + 1) v) := HV0.out.below hbS HV0.out.lt
    have HGS : Hid (w.grownBy wS (some g)) := grown_tr HG0.out (grown_below' hbS _)
    have hszS : B + 2 ≤ wS.heap.size := Nat.le_trans hB2 hbS.size
    obtain ⟨cS, hcS⟩ : ∃ cS, c = cS := ⟨_, rfl⟩
    obtain ⟨S1, hS1⟩ : ∃ S1, offS L e v = S1 := ⟨_, rfl⟩
    have HRS : Hid (Rf wS g cS S1) := by rw [← hS1, HS1.out, ← hcS]; exact HRS.out
    have HB1 : Hid (Buf S1) := by rw [← hS1]; exact HBO.out
    have HW1 : Hid (∀ x ∈ S1, Wide x) := by rw [← hS1]; exact HWO.out
    have HSE : Hid (offS L e v = S1) := hS1
    clear hRi hbS hE0' hcS hS1 HS1 HLR HRf0 HG0 HV0
    have hdS : ∀ x ∈ S1, okdot x.r x.n = true := fun x hx => okev_dot (HB1.out.ok x hx)
    have hrel0 : Hid (∃ T M u c1, Ro w g B S1 v T M u c1 (.slice none 0 0) wS) := ⟨[], S1, v, cS, Ref.start hv, hf, fun _ h => h, HB1.out.len, HRS.out, HVS.out, World.ownsRow_nil _ _ _ _, HGS.out⟩
    clear HRS HVS HGS
    go_wp2_with fail
    go_loopw [7] (fun c7 wr => ∃ T M u c1, Ro w g B S1 v T M u c1 c7 wr) (fun c7 _ => 65 - lenV c7)
    case atStart => exact hrel0.out
    case round =>
      clear hrel0
      obtain ⟨T, M, u, c1, hRo⟩ := hrel
      have hu16 : u.length = 16 := hRo.ref.len
      have hwM : ∀ x ∈ M, Wide x := fun x hx => HW1.out x (hRo.sub x hx)
      obtain ⟨am, km, hcm, hEm⟩ := hRo.rf.val hwM
      have hT64 : T.length ≤ 64 := Nat.le_trans hRo.ref.tl HB1.out.len
      obtain ⟨n, hn⟩ : ∃ n, M.length = n := ⟨_, rfl⟩
      rw [hn] at hcm hEm
      have hn64 : n ≤ 64 := by rw [← hn]; exact hRo.len
      have HRo : Hid _ := hRo
      have HEm : Hid (Evs wr am n km M) := hEm
      have hlr := load_rl hRo.rf.blk ⟨am, n, km, hcm⟩
      rw [hcm] at hlr
      have hlr' : ∀ W, Below wr.heap.size wr W → (loadVar 27 ⟨g, 0, none⟩).run Try.prog W = .ok (.slice am n km) W := fun W hb => by
        have h1 := (HRo.out.rf.below hb).blk
        rw [hcm] at h1
        exact load_rl h1 ⟨am, n, km, rfl⟩
      have HLR2 : Hid _ := hlr'
      obtain ⟨aT, cT, hvT, -⟩ := hRo.row.evs (fun x hx => HW1.out x (hRo.told x hx))
      have HvT : Hid (u7 = .slice aT T.length cT) := hvT
      clear hvT
      obtain ⟨W, hW⟩ : ∃ W, wr = W := ⟨_, rfl⟩
      rw [hW] at HRo HEm HLR2 hlr
      have hBW1 : B + 2 ≤ W.heap.size := by rw [← hW]; have := hRo.vec.lt; omega
      have hrel2 : Hid (∃ i : Nat, i ≤ n ∧ Value.int .i64 0 = .int .i64 (i : Int) ∧ Kp W (.slice none 0 0) ((M.take i).filter fun x => !hasv u x.r x.n) W) := ⟨0, Nat.zero_le _, rfl, Below.refl _ _, World.ownsRow_nil _ _ _ _⟩
      clear hRo hEm hlr' hcm
      rw [hW]
      go_wp2_with (first | (refine wpList_loadR (ty := 27) (x := .tmp 35) (ad := ⟨g, 0, none⟩) (v := .slice am n km) rfl rfl rfl hlr ?_))
      clear hlr
      go_loopw [8, 38] (fun c8 c38 wz => ∃ i : Nat, i ≤ n ∧ c38 = .int .i64 (i : Int) ∧ Kp W c8 ((M.take i).filter fun x => !hasv u x.r x.n) wz) (fun _ c38 _ => n - (intOf c38).toNat)
      case atStart => exact hrel2.out
      case round =>
        clear hrel2
        obtain ⟨i, hi, rfl, hKp⟩ := hrel
        have hfl : ((M.take i).filter fun x => !hasv u x.r x.n).length ≤ 64 := Nat.le_trans (List.length_filter_le _ _) (by rw [List.length_take]; omega)
        by_cases hlt : i < n
        · have hlt' : (i : Int) < (n : Int) := by omega
          obtain ⟨b, off, x, hao, hxi, hwx, hrg, hbl⟩ := HEm.out.at hlt
          subst hao
          have hx16 := hwx.1
          have HKp : Hid _ := hKp
          have hBd : Below W.heap.size W wr.drew := hKp.below.drew
          have hix := fun W : World => index_ev W (b := b) (off := off) (c := km) hlt
          have hHx := fun W : World => rhas_any u x.r x.n hu16 W
          have HKd : Hid (Kp W u8 ((M.take i).filter fun x => !hasv u x.r x.n) wr.drew) := hKp.next (Below.refl _ _).drew
          have hft := filter_take (p := fun x => !hasv u x.r x.n) hxi
          clear hKp
          cases hhx : hasv u x.r x.n
          · rw [hhx] at hHx hft
            have HFT : Hid ((M.take (i + 1)).filter (fun x => !hasv u x.r x.n) = (M.take i).filter (fun x => !hasv u x.r x.n) ++ [x]) := hft
            clear hft
            obtain ⟨F, hF⟩ : ∃ F, (M.take i).filter (fun x => !hasv u x.r x.n) = F := ⟨_, rfl⟩
            rw [hF] at HFT HKd hfl HKp
            clear hF
            go_upto_region 8 with fail
            refine wp_region_noPanic ?_
            refine wp_region_held_drew (S := fun W' : World => Below W.heap.size W W') (by kernel_rfl) hBd (fun hHeld => ?_)
            refine wpAnyH_take (i := 0) (oi := { dst := some 41, op := _, type := _, pos := _, after := _, guard := _ }) (v := .agg (vals u)) rfl (by kernel_rfl) (by kernel_rfl) (by kernel_rfl) (fun _ _ _ h => h) (Or.inl ⟨by rfl, ?_⟩) (by assumption) ?_
            · intro w9 hSw
              exact y_load rfl rfl (load_v (HRo.out.vec.below hSw HRo.out.vec.lt) hu16)
            simp only [Act.put, List.setIfInBounds_toArray, List.set_cons_zero, List.set_cons_succ]
            refine wpAnyH_take (i := 1) (oi := { dst := some 42, op := _, type := _, pos := _, after := _, guard := _ }) (v := .pointer (some ⟨g, 0, none⟩)) rfl (by kernel_rfl) (by kernel_rfl) (by kernel_rfl) (fun _ _ _ h => h) (Or.inl ⟨by rfl, ?_⟩) (by assumption) ?_
            · intro w9 hSw
              exact y_move rfl rfl
            simp only [Act.put, List.setIfInBounds_toArray, List.set_cons_zero, List.set_cons_succ]
            refine wpAnyH_take (i := 2) (oi := { dst := some 43, op := _, type := _, pos := _, after := _, guard := _ }) (v := .pointer (some ⟨g, 0, none⟩)) rfl (by kernel_rfl) (by kernel_rfl) (by kernel_rfl) (fun _ _ _ h => h) (Or.inl ⟨by rfl, ?_⟩) (by assumption) ?_
            · intro w9 hSw
              exact y_nil rfl rfl
            simp only [Act.put, List.setIfInBounds_toArray, List.set_cons_zero, List.set_cons_succ]
            refine wpAnyH_take (i := 3) (oi := { dst := some 44, op := _, type := _, pos := _, after := _, guard := _ }) (v := .pointer (some ⟨g, 0, none⟩)) rfl (by kernel_rfl) (by kernel_rfl) (by kernel_rfl) (fun _ _ _ h => h) (Or.inl ⟨by rfl, ?_⟩) (by assumption) ?_
            · intro w9 hSw
              exact y_field rfl rfl (field_r _ _)
            simp only [Act.put, List.setIfInBounds_toArray, List.set_cons_zero, List.set_cons_succ]
            refine wpAnyH_take (i := 4) (oi := { dst := some 45, op := _, type := _, pos := _, after := _, guard := _ }) (v := .slice (some ⟨b, off, none⟩) n km) rfl (by kernel_rfl) (by kernel_rfl) (by kernel_rfl) (fun _ _ _ h => h) (Or.inl ⟨by rfl, ?_⟩) (by assumption) ?_
            · intro w9 hSw
              exact y_load rfl rfl (HLR2.out _ hSw)
            simp only [Act.put, List.setIfInBounds_toArray, List.set_cons_zero, List.set_cons_succ]
            refine wpAnyH_take (i := 5) (oi := { dst := some 46, op := _, type := _, pos := _, after := _, guard := _ }) (v := .int .i64 (i : Int)) rfl (by kernel_rfl) (by kernel_rfl) (by kernel_rfl) (fun _ _ _ h => h) (Or.inl ⟨by rfl, ?_⟩) (by assumption) ?_
            · intro w9 hSw
              exact y_move rfl rfl
            simp only [Act.put, List.setIfInBounds_toArray, List.set_cons_zero, List.set_cons_succ]
            refine wpAnyH_take (i := 6) (oi := { dst := some 47, op := _, type := _, pos := _, after := _, guard := _ }) (v := .pointer (some ⟨b, off + i * 26, none⟩)) rfl (by kernel_rfl) (by kernel_rfl) (by kernel_rfl) (fun _ _ _ h => h) (Or.inl ⟨by rfl, ?_⟩) (by assumption) ?_
            · intro w9 hSw
              exact y_index rfl rfl rfl (hix _)
            simp only [Act.put, List.setIfInBounds_toArray, List.set_cons_zero, List.set_cons_succ]
            refine wpAnyH_take (i := 7) (oi := { dst := some 48, op := _, type := _, pos := _, after := _, guard := _ }) (v := .pointer (some ⟨b, off + i * 26, none⟩)) rfl (by kernel_rfl) (by kernel_rfl) (by kernel_rfl) (fun _ _ _ h => h) (Or.inl ⟨by rfl, ?_⟩) (by assumption) ?_
            · intro w9 hSw
              exact y_field rfl rfl (field_em0 _ _ _)
            simp only [Act.put, List.setIfInBounds_toArray, List.set_cons_zero, List.set_cons_succ]
            refine wpAnyH_take (i := 8) (oi := { dst := some 49, op := _, type := _, pos := _, after := _, guard := _ }) (v := .agg (dotc x.r x.n)) rfl (by kernel_rfl) (by kernel_rfl) (by kernel_rfl) (fun _ _ _ h => h) (Or.inl ⟨by rfl, ?_⟩) (by assumption) ?_
            · intro w9 hSw
              exact y_load rfl rfl (load_dtm (range_below hrg hSw hbl))
            simp only [Act.put, List.setIfInBounds_toArray, List.set_cons_zero, List.set_cons_succ]
            clear hHeld
            refine wpAnyH_ready (rs := [9]) (by kernel_rfl) (by simp) ?_
            refine AllReadyH.cons (o := { dst := some 50, op := _, type := _, pos := _, after := _, guard := _ }) rfl (fun K hK => ?_) AllReadyH.nil
            rw [if_pos (by rfl)]
            refine y_call (f := 22) (xs := [.tmp 41, .tmp 49]) (vs := [.agg (vals u), .agg (dotc x.r x.n)]) rfl rfl (enters_rhas _ _) (hHx _) ?_
            rintro ex wA ⟨rfl, hbA⟩
            refine ⟨_, rfl, ?_⟩
            have HKA : Hid (Kp W u8 F wA) := HKd.out.next hbA
            refine hK.out _ _ HKA.out.below (fun hHeld => ?_)
            clear hK K
            simp only [Act.put, List.setIfInBounds_toArray, List.set_cons_zero, List.set_cons_succ]
            refine wpAnyH_take (i := 10) (oi := { dst := some 51, op := _, type := _, pos := _, after := _, guard := _ }) (v := .bool true) rfl (by kernel_rfl) (by kernel_rfl) (by kernel_rfl) (fun _ _ _ h => h) (Or.inl ⟨by rfl, ?_⟩) (by assumption) ?_
            · intro w9 hSw
              exact y_not rfl rfl rfl
            simp only [Act.put, List.setIfInBounds_toArray, List.set_cons_zero, List.set_cons_succ]
            refine wpAnyH_done (by kernel_rfl) ?_ _
            refine NoPanic.normal ?_
            clear hHeld
            have hEwB := range_below hrg HKA.out.below hbl
            have hrowwB : Row (wA.alloc (.cells (evc x) 44)) W.heap.size u8 (F) := HKA.out.row.below ((Below.refl _ _).alloc (Nat.le_refl _) _) (Nat.le_refl _)
            have hFwB : Evs (wA.alloc (.cells (evc x) 44)) (some ⟨wA.heap.size, 0, none⟩) 1 1 [x] := evs_single _ _ x hwx (liesE_new wA x)
            have hlewB : W.heap.size ≤ (wA.alloc (.cells (evc x) 44)).heap.size := by have := HKA.out.below.size; rw [World.size_alloc]; omega
            have hllwB : (F).length + 1 ≤ 1048576 := by simp; omega
            have hlrwB := HLR2.out wA HKA.out.below
            have HKxwB : Hid (Kp W u8 (F) (wA.alloc (.cells (evc x) 44))) := HKA.out.next ((Below.refl _ _).alloc (Nat.le_refl _) _)
            go_wp2_with (first | (refine wpList_loadR (ty := 27) (x := .tmp 55) (ad := ⟨g, 0, none⟩) (v := .slice (some ⟨b, off, none⟩) n km) rfl rfl rfl hlrwB ?_) | refine load_ev_mid rfl rfl rfl hEwB hx16 ?_ | refine build_ev1 rfl rfl rfl hx16 ?_ | refine wpList_appE rfl _ _ rfl W.heap.size _ (F) rfl hrowwB _ 1 1 [x] rfl hFwB hllwB hlewB ?_)
            intro vB wB hrwB hgwB hnwB
            have HKB : Hid (Kp W vB (F ++ [x]) wB) := HKxwB.out.app hrwB hgwB
            clear hrwB hgwB hnwB hrowwB hFwB HKxwB hEwB
            go_wp2
            go_roundw
            case rel => exact ⟨i + 1, by omega, by go_num, by rw [HFT.out]; exact HKB.out⟩
            case measure => simp [intOf]; omega
          · rw [hhx] at hHx hft
            have HFT : Hid ((M.take (i + 1)).filter (fun x => !hasv u x.r x.n) = (M.take i).filter (fun x => !hasv u x.r x.n)) := by
              show _ = _
              rw [hft]
              simp
            clear hft
            obtain ⟨F, hF⟩ : ∃ F, (M.take i).filter (fun x => !hasv u x.r x.n) = F := ⟨_, rfl⟩
            rw [hF] at HFT HKd hfl HKp
            clear hF
            go_upto_region 8 with fail
            refine wp_region_noPanic ?_
            refine wp_region_held_drew (S := fun W' : World => Below W.heap.size W W') (by kernel_rfl) hBd (fun hHeld => ?_)
            refine wpAnyH_take (i := 0) (oi := { dst := some 41, op := _, type := _, pos := _, after := _, guard := _ }) (v := .agg (vals u)) rfl (by kernel_rfl) (by kernel_rfl) (by kernel_rfl) (fun _ _ _ h => h) (Or.inl ⟨by rfl, ?_⟩) (by assumption) ?_
            · intro w9 hSw
              exact y_load rfl rfl (load_v (HRo.out.vec.below hSw HRo.out.vec.lt) hu16)
            simp only [Act.put, List.setIfInBounds_toArray, List.set_cons_zero, List.set_cons_succ]
            refine wpAnyH_take (i := 1) (oi := { dst := some 42, op := _, type := _, pos := _, after := _, guard := _ }) (v := .pointer (some ⟨g, 0, none⟩)) rfl (by kernel_rfl) (by kernel_rfl) (by kernel_rfl) (fun _ _ _ h => h) (Or.inl ⟨by rfl, ?_⟩) (by assumption) ?_
            · intro w9 hSw
              exact y_move rfl rfl
            simp only [Act.put, List.setIfInBounds_toArray, List.set_cons_zero, List.set_cons_succ]
            refine wpAnyH_take (i := 2) (oi := { dst := some 43, op := _, type := _, pos := _, after := _, guard := _ }) (v := .pointer (some ⟨g, 0, none⟩)) rfl (by kernel_rfl) (by kernel_rfl) (by kernel_rfl) (fun _ _ _ h => h) (Or.inl ⟨by rfl, ?_⟩) (by assumption) ?_
            · intro w9 hSw
              exact y_nil rfl rfl
            simp only [Act.put, List.setIfInBounds_toArray, List.set_cons_zero, List.set_cons_succ]
            refine wpAnyH_take (i := 3) (oi := { dst := some 44, op := _, type := _, pos := _, after := _, guard := _ }) (v := .pointer (some ⟨g, 0, none⟩)) rfl (by kernel_rfl) (by kernel_rfl) (by kernel_rfl) (fun _ _ _ h => h) (Or.inl ⟨by rfl, ?_⟩) (by assumption) ?_
            · intro w9 hSw
              exact y_field rfl rfl (field_r _ _)
            simp only [Act.put, List.setIfInBounds_toArray, List.set_cons_zero, List.set_cons_succ]
            refine wpAnyH_take (i := 4) (oi := { dst := some 45, op := _, type := _, pos := _, after := _, guard := _ }) (v := .slice (some ⟨b, off, none⟩) n km) rfl (by kernel_rfl) (by kernel_rfl) (by kernel_rfl) (fun _ _ _ h => h) (Or.inl ⟨by rfl, ?_⟩) (by assumption) ?_
            · intro w9 hSw
              exact y_load rfl rfl (HLR2.out _ hSw)
            simp only [Act.put, List.setIfInBounds_toArray, List.set_cons_zero, List.set_cons_succ]
            refine wpAnyH_take (i := 5) (oi := { dst := some 46, op := _, type := _, pos := _, after := _, guard := _ }) (v := .int .i64 (i : Int)) rfl (by kernel_rfl) (by kernel_rfl) (by kernel_rfl) (fun _ _ _ h => h) (Or.inl ⟨by rfl, ?_⟩) (by assumption) ?_
            · intro w9 hSw
              exact y_move rfl rfl
            simp only [Act.put, List.setIfInBounds_toArray, List.set_cons_zero, List.set_cons_succ]
            refine wpAnyH_take (i := 6) (oi := { dst := some 47, op := _, type := _, pos := _, after := _, guard := _ }) (v := .pointer (some ⟨b, off + i * 26, none⟩)) rfl (by kernel_rfl) (by kernel_rfl) (by kernel_rfl) (fun _ _ _ h => h) (Or.inl ⟨by rfl, ?_⟩) (by assumption) ?_
            · intro w9 hSw
              exact y_index rfl rfl rfl (hix _)
            simp only [Act.put, List.setIfInBounds_toArray, List.set_cons_zero, List.set_cons_succ]
            refine wpAnyH_take (i := 7) (oi := { dst := some 48, op := _, type := _, pos := _, after := _, guard := _ }) (v := .pointer (some ⟨b, off + i * 26, none⟩)) rfl (by kernel_rfl) (by kernel_rfl) (by kernel_rfl) (fun _ _ _ h => h) (Or.inl ⟨by rfl, ?_⟩) (by assumption) ?_
            · intro w9 hSw
              exact y_field rfl rfl (field_em0 _ _ _)
            simp only [Act.put, List.setIfInBounds_toArray, List.set_cons_zero, List.set_cons_succ]
            refine wpAnyH_take (i := 8) (oi := { dst := some 49, op := _, type := _, pos := _, after := _, guard := _ }) (v := .agg (dotc x.r x.n)) rfl (by kernel_rfl) (by kernel_rfl) (by kernel_rfl) (fun _ _ _ h => h) (Or.inl ⟨by rfl, ?_⟩) (by assumption) ?_
            · intro w9 hSw
              exact y_load rfl rfl (load_dtm (range_below hrg hSw hbl))
            simp only [Act.put, List.setIfInBounds_toArray, List.set_cons_zero, List.set_cons_succ]
            clear hHeld
            refine wpAnyH_ready (rs := [9]) (by kernel_rfl) (by simp) ?_
            refine AllReadyH.cons (o := { dst := some 50, op := _, type := _, pos := _, after := _, guard := _ }) rfl (fun K hK => ?_) AllReadyH.nil
            rw [if_pos (by rfl)]
            refine y_call (f := 22) (xs := [.tmp 41, .tmp 49]) (vs := [.agg (vals u), .agg (dotc x.r x.n)]) rfl rfl (enters_rhas _ _) (hHx _) ?_
            rintro ex wA ⟨rfl, hbA⟩
            refine ⟨_, rfl, ?_⟩
            have HKA : Hid (Kp W u8 F wA) := HKd.out.next hbA
            refine hK.out _ _ HKA.out.below (fun hHeld => ?_)
            clear hK K
            simp only [Act.put, List.setIfInBounds_toArray, List.set_cons_zero, List.set_cons_succ]
            refine wpAnyH_take (i := 10) (oi := { dst := some 51, op := _, type := _, pos := _, after := _, guard := _ }) (v := .bool false) rfl (by kernel_rfl) (by kernel_rfl) (by kernel_rfl) (fun _ _ _ h => h) (Or.inl ⟨by rfl, ?_⟩) (by assumption) ?_
            · intro w9 hSw
              exact y_not rfl rfl rfl
            simp only [Act.put, List.setIfInBounds_toArray, List.set_cons_zero, List.set_cons_succ]
            refine wpAnyH_done (by kernel_rfl) ?_ _
            refine NoPanic.normal ?_
            clear hHeld
            go_wp2
            go_roundw
            case rel => exact ⟨i + 1, by omega, by go_num, by rw [HFT.out]; exact HKA.out⟩
            case measure => simp [intOf]; omega
        · have hlt' : ¬ (i : Int) < (n : Int) := by omega
          obtain ⟨F, hF⟩ : ∃ F, M.filter (fun x => !hasv u x.r x.n) = F := ⟨_, rfl⟩
          rw [List.take_of_length_le (by omega), hF] at hKp hfl
          have HF : Hid _ := hF
          have hFS : ∀ x ∈ F, x ∈ S1 := fun x hx => HRo.out.sub x (by rw [← hF] at hx; exact (List.mem_filter.1 hx).1)
          have hwF : ∀ x ∈ F, Wide x := fun x hx => HW1.out x (hFS x hx)
          obtain ⟨aF, cF, hvF, hEF⟩ := hKp.row.evs hwF
          have FIN := keep_store (base := W.heap.size) (v := u8) (HRo.out.rf.below hKp.below) hKp.row (by have := hBW1; omega)
          have hoB : ∀ k, k ≠ g → (wr.setCell ⟨g, 0, none⟩ u8).heap[k]? = wr.heap[k]? := fun k hk => Below.heap_setCell _ _ _ k hk
          have HV7 : Hid (Lies (wr.setCell ⟨g, 0, none⟩ u8) (B + 1) u) := (hoB (B + 1) (by omega)).trans (HRo.out.vec.below hKp.below HRo.out.vec.lt)
          have HT7 : Hid (Row (wr.setCell ⟨g, 0, none⟩ u8) (B + 2) u7 T) := keepR (HRo.out.row.below hKp.below (Nat.le_refl _)) fun k hk => hoB k (by have := Row.own HRo.out.row k hk; omega)
          have HG7 : Hid (w.grownBy (wr.setCell ⟨g, 0, none⟩ u8) (some g)) := grown_tr (grown_tr HRo.out.grown (grown_below' hKp.below _)) FIN.2.2
          have HR7 : Hid (Rf (wr.setCell ⟨g, 0, none⟩ u8) g u8 F) := FIN.2.1
          have hst := FIN.1
          have HE7 : Hid (Evs (wr.setCell ⟨g, 0, none⟩ u8) aF F.length cF F) := by
            obtain ⟨a', k', h1, h2⟩ := FIN.2.1.val hwF
            rw [hvF] at h1
            simp only [Value.slice.injEq, true_and] at h1
            obtain ⟨rfl, rfl⟩ := h1
            exact h2
          have hapart : ∀ q, u7.ownBlock = some q → u8.ownBlock ≠ some q := fun q hq e1 => by
            have h1 := (World.ownsRow.lt HRo.out.row q hq).2
            have h2 := Row.own hKp.row q e1
            omega
          have hFown : ∀ q, u8.ownBlock = some q → B + 2 ≤ q := fun q e1 => by have h2 := Row.own hKp.row q e1; omega
          have HAP : Hid _ := hapart
          have HFO : Hid _ := hFown
          clear FIN hoB hKp hEF hF hapart hFown
          subst hvF
          have hFl : F.length ≤ 64 := hfl
          go_wp2_with (first | (refine wpList_storeC rfl rfl rfl rfl hst ?_))
          clear hst
          generalize wr.setCell ⟨g, 0, none⟩ (.slice aF F.length cF) = w7 at *
          go_loopw [10, 11] (fun c10 c11 wz => ∃ q : Nat, q ≤ F.length ∧ c11 = .int .i64 ((q : Int) - 1) ∧ c10 = .int .i64 (atQ F u q) ∧ Below w7.heap.size w7 wz) (fun _ c11 _ => ((intOf c11) + 1).toNat)
          case atStart => exact ⟨F.length, Nat.le_refl _, rfl, by rw [atQ_end], Below.refl _ _⟩
          case round =>
            obtain ⟨q, hq, rfl, rfl, hb7⟩ := hrel
            rcases q with _ | q
            · rw [atQ_zero]
              cases hfi : F.findIdx? (fun e => mayE e u) with
              | none =>
                have hiq : idxQ F u = -1 := by unfold idxQ; rw [hfi]
                rw [hiq]
                have hst := HRo.out.ref.stop (by rw [HF.out]; exact find_idxQ hfi)
                have HST : Hid _ := hst
                have HAL : Hid (F = S1.filter fun x => !hasv u x.r x.n) := HF.out.symm.trans HRo.out.ref.all
                clear hst hfi hiq
                go_wp2
                go_ret
                obtain ⟨L9, hL9⟩ := HST.out
                exact ⟨_, T, F, _, u, rfl, ⟨L9, by rw [HSE.out]; exact hL9, by rw [HSE.out]; exact HAL.out⟩, (HT7.out.below hb7 (Nat.le_refl _)).lower (show w.heap.size ≤ B + 2 by omega), HR7.out.below hb7, grown_tr HG7.out (grown_below' hb7 _)⟩
              | some k =>
                have hiq : idxQ F u = (k : Int) := by unfold idxQ; rw [hfi]
                rw [hiq]
                obtain ⟨hkl, hmk⟩ := idx_someQ hfi
                obtain ⟨b, off, x, hao, hxk, hwx, hrg, hbl⟩ := HE7.out.at hkl
                have hx16 := hwx.1
                have hmay := hmk x hxk
                have hxS := hFS x (List.mem_of_getElem? hxk)
                have hdx0 := hdS x hxS
                obtain ⟨hRef, -, -⟩ := HRo.out.ref.step hdS (e := x) (by rw [HF.out]; exact find_idx hfi hxk)
                rw [HF.out] at hRef
                have HRef : Hid _ := hRef
                have hdx := hdx0
                simp only [okdot, decide_eq_true_eq] at hdx
                obtain ⟨r, hr⟩ : ∃ r : Nat, x.r = (r : Int) := ⟨x.r.toNat, by omega⟩
                have hr16 : r < 16 := by omega
                have hkl' : (k : Int) < (F.length : Int) := by omega
                have hk0 : ¬ (k : Int) < 0 := by omega
                subst hao
                have hld := load_em (range_below hrg hb7 hbl) hx16
                have hst := st_ev wr x hx16
                have hE2 := liesE_new wr x
                have hb2 : Below wr.heap.size wr (wr.alloc (.cells (evc x) 44)) := (Below.refl _ _).alloc (Nat.le_refl _) _
                have hb72 : Below w7.heap.size w7 (wr.alloc (.cells (evc x) 44)) := hb7.trans (hb2.mono hb7.size)
                generalize hW2 : wr.alloc (.cells (evc x) 44) = W2 at *
                have hF2 : Evs (W2.alloc (.cells (evc x) 44)) (some ⟨W2.heap.size, 0, none⟩) 1 1 [x] := evs_single _ _ x hwx (liesE_new W2 x)
                have hb73 : Below w7.heap.size w7 (W2.alloc (.cells (evc x) 44)) := hb72.alloc hb72.size _
                have hrow3 := HT7.out.below hb73 (Nat.le_refl _)
                have hE3 := hE2.alloc (.cells (evc x) 44)
                have hle3 : B + 2 ≤ (W2.alloc (.cells (evc x) 44)).heap.size := by have := HV7.out.lt; have := hb73.size; omega
                have hT1l : T.length + 1 ≤ 1048576 := by omega
                have hwrE : wr.heap.size < (W2.alloc (.cells (evc x) 44)).heap.size := hE3.lt
                have hown7 : ∀ q, u7.ownBlock = some q → q < wr.heap.size := fun q hq => Nat.lt_of_lt_of_le (World.ownsRow.lt HT7.out q hq).2 hb7.size
                clear hRef hfi hiq hmk
                go_wp2_with (first
                  | (refine wpList_loadR (ty := 44) (x := .tmp 86) (ad := ⟨b, off + k * 26, none⟩) (v := .agg (evc x)) rfl rfl rfl hld ?_)
                  | (refine wpList_storeR (ty := 44) (x := .tmp 12) (y := .tmp 87) (ad := ⟨wr.heap.size, 0, none⟩) (v := .agg (evc x)) (w' := W2) rfl rfl rfl rfl hst ?_)
                  | refine load_ev rfl rfl rfl hE2 hx16 ?_
                  | refine build_ev1 rfl rfl rfl hx16 ?_
                  | refine wpList_appE rfl _ _ rfl (B + 2) _ T rfl hrow3 _ 1 1 [x] rfl hF2 hT1l hle3 ?_)
                intro vt wt hrt hgt hnt
                have hEt : LiesE wt wr.heap.size x := by
                  rw [LiesE, hgt.block _ hE3.lt (fun e1 => by have := hown7 _ e1.symm; omega)]; exact hE3
                have hob : ∀ q, q < B + 2 → q < (W2.alloc (.cells (evc x) 44)).heap.size → wt.heap[q]? = (W2.alloc (.cells (evc x) 44)).heap[q]? := fun q hq hq2 => hgt.block q hq2 (fun e1 => by have := Row.own HT7.out q e1.symm; omega)
                have hVt : Lies wt (B + 1) u := (hob (B + 1) (by omega) (by omega)).trans (HV7.out.below hb73 HV7.out.lt)
                have hRt : Rf wt g (.slice (some ⟨b, off, none⟩) F.length cF) F := (HR7.out.below hb73).grow hgt (fun q hq => ⟨by have := Row.own HT7.out q hq; omega, HAP.out q hq⟩)
                have hGt : w.grownBy wt (some g) := ⟨hgt.os.trans (hb73.os.trans HG7.out.os), hgt.tape.trans (hb73.tape.trans HG7.out.tape), hgt.output.trans (hb73.output.trans HG7.out.output), Nat.le_trans (Nat.le_trans HG7.out.size hb73.size) hgt.size, fun q hq hne => by
                  have h7 : q < w7.heap.size := Nat.lt_of_lt_of_le hq HG7.out.size
                  rw [hob q (by omega) (Nat.lt_of_lt_of_le h7 hb73.size), hb73.block q h7]
                  exact HG7.out.block q hq hne⟩
                have hc0 : wt.cell? ⟨wr.heap.size, 0, none⟩ = some (.int .i64 (r : Int)) := by rw [hEt.c0, hr]
                have hc1 := hEt.c1
                have hcu := hVt.cell (k := r) (by omega)
                have hfu := hVt.frozen (k := r)
                have hos : ∀ q, q ≠ B + 1 → (wt.setCell ⟨B + 1, r, none⟩ (.int .i64 x.n)).heap[q]? = wt.heap[q]? := fun q hq => Below.heap_setCell _ _ _ q hq
                have hgs : wt.grownBy (wt.setCell ⟨B + 1, r, none⟩ (.int .i64 x.n)) (some (B + 1)) := ⟨rfl, rfl, rfl, by simp [World.setCell], fun q _ hq => hos q (fun e1 => hq (by rw [e1]))⟩
                have HFI : Hid (Ro w g B S1 v (T ++ [x]) F (seeV u x) (.slice (some ⟨b, off, none⟩) F.length cF) vt (wt.setCell ⟨B + 1, r, none⟩ (.int .i64 x.n))) := by
                  refine ⟨HRef.out, HRo.out.fit.see hdx0, hFS, hFl, hRt.grow hgs (fun q hq => ?_), ?_, Row.set hrt (by omega) _, ⟨hGt.os, hGt.tape, hGt.output, by simp [World.setCell]; exact hGt.size, fun q hq hne => (hos q (by omega)).trans (hGt.block q hq hne)⟩⟩
                  · cases hq
                    exact ⟨by omega, fun e1 => by have := HFO.out (B + 1) e1; omega⟩
                  · have := hVt.set (k := r) x.n
                    rw [show seeV u x = u.set r x.n by unfold seeV; rw [hr]; rfl]
                    exact this
                have hT1 : lenV vt = T.length + 1 := by
                  obtain ⟨a9, c9, h9, -⟩ := hrt.evs (fun y hy => by
                    rcases List.mem_append.1 hy with hy | hy
                    · exact HW1.out y (HRo.out.told y hy)
                    · rw [List.mem_singleton.1 hy]; exact hwx)
                  rw [h9, List.length_append]; rfl
                have hT0 : lenV u7 = T.length := by rw [HvT.out]; rfl
                have hjj : (r : Int) < 16 := by omega
                clear hrt hgt hnt hEt hRt hGt hVt hob hos hgs hrow3 hF2 hE2 hE3 hld hst hb72 hb73
                go_wp2_with fail
                go_roundw
                case rel => exact ⟨T ++ [x], F, seeV u x, _, HFI.out⟩
                case measure => simp only [lenV] at hT0 hT1 ⊢; simp [hT1, hT0]; omega
            · have hq1 : (((q + 1 : Nat) : Int) - 1) = (q : Int) := by omega
              rw [hq1]
              have hql : q < F.length := by omega
              obtain ⟨b, off, x, hao, hxq, hwx, hrg, hbl⟩ := HE7.out.at hql
              subst hao
              have hx16 := hwx.1
              have hdx0 := hdS x (hFS x (List.mem_of_getElem? hxq))
              have hql' : (q : Int) < (F.length : Int) := by omega
              have hix := fun W : World => index_ev W (b := b) (off := off) (c := cF) hql
              have hMy := fun W : World => rmay_any x u hwx hdx0 hu16 HRo.out.fit W
              have hBd : Below w7.heap.size w7 wr.drew := hb7.drew
              have hq64 : q < 64 := by omega
              cases hmx : mayE x u
              · rw [hmx] at hMy
                have HAT : Hid (atQ F u q = atQ F u (q + 1)) := atQ_no hxq hmx
                go_upto_region 16 with fail
                refine wp_region_noPanic ?_
                refine wp_region_held_drew (S := fun W' : World => Below w7.heap.size w7 W') (by kernel_rfl) hBd (fun hHeld => ?_)
                refine wpAnyH_take (i := 0) (oi := { dst := some 74, op := _, type := _, pos := _, after := _, guard := _ }) (v := .slice (some ⟨b, off, none⟩) F.length cF) rfl (by kernel_rfl) (by kernel_rfl) (by kernel_rfl) (fun _ _ _ h => h) (Or.inl ⟨by rfl, ?_⟩) (by assumption) ?_
                · intro w9 hSw
                  exact y_move rfl rfl
                simp only [Act.put, List.setIfInBounds_toArray, List.set_cons_zero, List.set_cons_succ]
                refine wpAnyH_take (i := 1) (oi := { dst := some 75, op := _, type := _, pos := _, after := _, guard := _ }) (v := .int .i64 (q : Int)) rfl (by kernel_rfl) (by kernel_rfl) (by kernel_rfl) (fun _ _ _ h => h) (Or.inl ⟨by rfl, ?_⟩) (by assumption) ?_
                · intro w9 hSw
                  exact y_move rfl rfl
                simp only [Act.put, List.setIfInBounds_toArray, List.set_cons_zero, List.set_cons_succ]
                refine wpAnyH_take (i := 2) (oi := { dst := some 76, op := _, type := _, pos := _, after := _, guard := _ }) (v := .pointer (some ⟨b, off + q * 26, none⟩)) rfl (by kernel_rfl) (by kernel_rfl) (by kernel_rfl) (fun _ _ _ h => h) (Or.inl ⟨by rfl, ?_⟩) (by assumption) ?_
                · intro w9 hSw
                  exact y_index rfl rfl rfl (hix _)
                simp only [Act.put, List.setIfInBounds_toArray, List.set_cons_zero, List.set_cons_succ]
                refine wpAnyH_take (i := 3) (oi := { dst := some 77, op := _, type := _, pos := _, after := _, guard := _ }) (v := .agg (evc x)) rfl (by kernel_rfl) (by kernel_rfl) (by kernel_rfl) (fun _ _ _ h => h) (Or.inl ⟨by rfl, ?_⟩) (by assumption) ?_
                · intro w9 hSw
                  exact y_load rfl rfl (load_em (range_below hrg hSw hbl) hx16)
                simp only [Act.put, List.setIfInBounds_toArray, List.set_cons_zero, List.set_cons_succ]
                refine wpAnyH_take (i := 4) (oi := { dst := some 78, op := _, type := _, pos := _, after := _, guard := _ }) (v := .agg (vals u)) rfl (by kernel_rfl) (by kernel_rfl) (by kernel_rfl) (fun _ _ _ h => h) (Or.inl ⟨by rfl, ?_⟩) (by assumption) ?_
                · intro w9 hSw
                  exact y_load rfl rfl (load_v (HV7.out.below hSw HV7.out.lt) hu16)
                simp only [Act.put, List.setIfInBounds_toArray, List.set_cons_zero, List.set_cons_succ]
                clear hHeld
                refine wpAnyH_ready (rs := [5]) (by kernel_rfl) (by simp) ?_
                refine AllReadyH.cons (o := { dst := some 79, op := _, type := _, pos := _, after := _, guard := _ }) rfl (fun K hK => ?_) AllReadyH.nil
                rw [if_pos (by rfl)]
                refine y_call (f := 15) (xs := [.tmp 77, .tmp 78]) (vs := [.agg (evc x), .agg (vals u)]) rfl rfl (enters_rmay _ _) (hMy _) ?_
                rintro ex wM ⟨rfl, hbm⟩
                refine ⟨_, rfl, ?_⟩
                have hbM : Below w7.heap.size w7 wM := hBd.trans (hbm.mono hBd.size)
                refine hK.out _ _ hbM (fun hHeld => ?_)
                clear hK K
                simp only [Act.put, List.setIfInBounds_toArray, List.set_cons_zero, List.set_cons_succ]
                refine wpAnyH_done (by kernel_rfl) ?_ _
                refine NoPanic.normal ?_
                clear hHeld
                go_wp2
                go_roundw
                case rel => exact ⟨q, by omega, by go_num, by rw [HAT.out], hbM⟩
                case measure => simp [intOf]
              · rw [hmx] at hMy
                have HAT : Hid (atQ F u q = (q : Int)) := atQ_yes hxq hmx
                go_upto_region 16 with fail
                refine wp_region_noPanic ?_
                refine wp_region_held_drew (S := fun W' : World => Below w7.heap.size w7 W') (by kernel_rfl) hBd (fun hHeld => ?_)
                refine wpAnyH_take (i := 0) (oi := { dst := some 74, op := _, type := _, pos := _, after := _, guard := _ }) (v := .slice (some ⟨b, off, none⟩) F.length cF) rfl (by kernel_rfl) (by kernel_rfl) (by kernel_rfl) (fun _ _ _ h => h) (Or.inl ⟨by rfl, ?_⟩) (by assumption) ?_
                · intro w9 hSw
                  exact y_move rfl rfl
                simp only [Act.put, List.setIfInBounds_toArray, List.set_cons_zero, List.set_cons_succ]
                refine wpAnyH_take (i := 1) (oi := { dst := some 75, op := _, type := _, pos := _, after := _, guard := _ }) (v := .int .i64 (q : Int)) rfl (by kernel_rfl) (by kernel_rfl) (by kernel_rfl) (fun _ _ _ h => h) (Or.inl ⟨by rfl, ?_⟩) (by assumption) ?_
                · intro w9 hSw
                  exact y_move rfl rfl
                simp only [Act.put, List.setIfInBounds_toArray, List.set_cons_zero, List.set_cons_succ]
                refine wpAnyH_take (i := 2) (oi := { dst := some 76, op := _, type := _, pos := _, after := _, guard := _ }) (v := .pointer (some ⟨b, off + q * 26, none⟩)) rfl (by kernel_rfl) (by kernel_rfl) (by kernel_rfl) (fun _ _ _ h => h) (Or.inl ⟨by rfl, ?_⟩) (by assumption) ?_
                · intro w9 hSw
                  exact y_index rfl rfl rfl (hix _)
                simp only [Act.put, List.setIfInBounds_toArray, List.set_cons_zero, List.set_cons_succ]
                refine wpAnyH_take (i := 3) (oi := { dst := some 77, op := _, type := _, pos := _, after := _, guard := _ }) (v := .agg (evc x)) rfl (by kernel_rfl) (by kernel_rfl) (by kernel_rfl) (fun _ _ _ h => h) (Or.inl ⟨by rfl, ?_⟩) (by assumption) ?_
                · intro w9 hSw
                  exact y_load rfl rfl (load_em (range_below hrg hSw hbl) hx16)
                simp only [Act.put, List.setIfInBounds_toArray, List.set_cons_zero, List.set_cons_succ]
                refine wpAnyH_take (i := 4) (oi := { dst := some 78, op := _, type := _, pos := _, after := _, guard := _ }) (v := .agg (vals u)) rfl (by kernel_rfl) (by kernel_rfl) (by kernel_rfl) (fun _ _ _ h => h) (Or.inl ⟨by rfl, ?_⟩) (by assumption) ?_
                · intro w9 hSw
                  exact y_load rfl rfl (load_v (HV7.out.below hSw HV7.out.lt) hu16)
                simp only [Act.put, List.setIfInBounds_toArray, List.set_cons_zero, List.set_cons_succ]
                clear hHeld
                refine wpAnyH_ready (rs := [5]) (by kernel_rfl) (by simp) ?_
                refine AllReadyH.cons (o := { dst := some 79, op := _, type := _, pos := _, after := _, guard := _ }) rfl (fun K hK => ?_) AllReadyH.nil
                rw [if_pos (by rfl)]
                refine y_call (f := 15) (xs := [.tmp 77, .tmp 78]) (vs := [.agg (evc x), .agg (vals u)]) rfl rfl (enters_rmay _ _) (hMy _) ?_
                rintro ex wM ⟨rfl, hbm⟩
                refine ⟨_, rfl, ?_⟩
                have hbM : Below w7.heap.size w7 wM := hBd.trans (hbm.mono hBd.size)
                refine hK.out _ _ hbM (fun hHeld => ?_)
                clear hK K
                simp only [Act.put, List.setIfInBounds_toArray, List.set_cons_zero, List.set_cons_succ]
                refine wpAnyH_done (by kernel_rfl) ?_ _
                refine NoPanic.normal ?_
                clear hHeld
                go_wp2
                go_roundw
                case rel => exact ⟨q, by omega, by go_num, by rw [HAT.out], hbM⟩
                case measure => simp [intOf]
  · rw [hok] at hRi
    cases hhs : hasv v e.r e.n
    · by_cases hll : L.length < 64
      · have hll' : (L.length : Int) < 64 := by omega
        have hco : condE L e v = true := by unfold condE; rw [hok, hhs, decide_eq_true hll]; rfl
        go_enter Try.func12, Try.ntmps12
        go_wp2_with (first | refine load_ev rfl rfl rfl hE0' he16 ?_)
        refine Calls.mono hRi ?_
        rintro ex w1 ⟨rfl, hb1⟩
        have hV1 := HV0.out.below hb1 HV0.out.lt
        have hlv := load_v hV1 hv
        have hE1 := HE0.out.below hb1 HE0.out.lt
        have hld := hE1.dotAt
        have hH1 := hHa w1
        rw [hhs] at hH1
        have hfe := field_ev0 w1 B
        clear hRi hE0'
        go_wp2_with (first
          | (refine wpList_loadW (ty := 40) (x := .tmp 5) (ad := ⟨B + 1, 0, none⟩) (v := .agg (vals v)) rfl rfl rfl hlv ?_)
          | (refine wpList_loadW (ty := 38) (x := .tmp 17) (ad := ⟨B, 0, none⟩) (v := .agg (dotc e.r e.n)) rfl rfl rfl hld ?_))
        refine Calls.mono hH1 ?_
        rintro ex w2 ⟨rfl, hb2⟩
        have hb12 : Below W0.heap.size W0 w2 := hb1.trans (hb2.mono hb1.size)
        have hlr := HLR.out w2 hb12
        have hE2 := HE0.out.below hb12 HE0.out.lt
        have hKe := rkeep_any g c L e w2 (HRf0.out.below hb12) HSr.out HWL.out hw HLl.out
        rw [cond_yes hco] at hKe
        clear hlv hld hH1 hfe hV1 hE1
        go_wp2_with (first
          | (refine wpList_loadW (ty := 27) (x := .tmp 25) (ad := ⟨g, 0, none⟩) (v := .slice ao L.length kc) rfl rfl rfl hlr ?_)
          | refine load_ev rfl rfl rfl hE2 he16 ?_)
        refine Calls.mono hKe ?_
        rintro ex wS ⟨rfl, cS, hRS, hgS⟩
        have hoB : ∀ k, k = B ∨ k = B + 1 → some k ≠ some g := fun k hk e1 => by cases e1; omega
        have HVS : Hid (Lies wS (B + 1) v) := (hgS.block (B + 1) (HV0.out.below hb12 HV0.out.lt).lt (hoB _ (.inr rfl))).trans (HV0.out.below hb12 HV0.out.lt)
        have HGS : Hid (w.grownBy wS (some g)) := grown_tr (grown_tr HG0.out (grown_below' hb12 _)) hgS
        have hszS : B + 2 ≤ wS.heap.size := Nat.le_trans (Nat.le_trans hB2 hb12.size) hgS.size
        obtain ⟨S1, hS1⟩ : ∃ S1, offS L e v = S1 := ⟨_, rfl⟩
        have HRS : Hid (Rf wS g cS S1) := by rw [← hS1]; exact hRS
        have HB1 : Hid (Buf S1) := by rw [← hS1]; exact HBO.out
        have HW1 : Hid (∀ x ∈ S1, Wide x) := by rw [← hS1]; exact HWO.out
        have HSE : Hid (offS L e v = S1) := hS1
        clear hb1 hb2 hb12 hRS hgS hS1 HLR HRf0 HG0 HV0 hKe hlr hE2 hoB
        have hdS : ∀ x ∈ S1, okdot x.r x.n = true := fun x hx => okev_dot (HB1.out.ok x hx)
        have hrel0 : Hid (∃ T M u c1, Ro w g B S1 v T M u c1 (.slice none 0 0) wS) := ⟨[], S1, v, cS, Ref.start hv, hf, fun _ h => h, HB1.out.len, HRS.out, HVS.out, World.ownsRow_nil _ _ _ _, HGS.out⟩
        clear HRS HVS HGS
        go_wp2_with fail
        go_loopw [7] (fun c7 wr => ∃ T M u c1, Ro w g B S1 v T M u c1 c7 wr) (fun c7 _ => 65 - lenV c7)
        case atStart => exact hrel0.out
        case round =>
          clear hrel0
          obtain ⟨T, M, u, c1, hRo⟩ := hrel
          have hu16 : u.length = 16 := hRo.ref.len
          have hwM : ∀ x ∈ M, Wide x := fun x hx => HW1.out x (hRo.sub x hx)
          obtain ⟨am, km, hcm, hEm⟩ := hRo.rf.val hwM
          have hT64 : T.length ≤ 64 := Nat.le_trans hRo.ref.tl HB1.out.len
          obtain ⟨n, hn⟩ : ∃ n, M.length = n := ⟨_, rfl⟩
          rw [hn] at hcm hEm
          have hn64 : n ≤ 64 := by rw [← hn]; exact hRo.len
          have HRo : Hid _ := hRo
          have HEm : Hid (Evs wr am n km M) := hEm
          have hlr := load_rl hRo.rf.blk ⟨am, n, km, hcm⟩
          rw [hcm] at hlr
          have hlr' : ∀ W, Below wr.heap.size wr W → (loadVar 27 ⟨g, 0, none⟩).run Try.prog W = .ok (.slice am n km) W := fun W hb => by
            have h1 := (HRo.out.rf.below hb).blk
            rw [hcm] at h1
            exact load_rl h1 ⟨am, n, km, rfl⟩
          have HLR2 : Hid _ := hlr'
          obtain ⟨aT, cT, hvT, -⟩ := hRo.row.evs (fun x hx => HW1.out x (hRo.told x hx))
          have HvT : Hid (u7 = .slice aT T.length cT) := hvT
          clear hvT
          obtain ⟨W, hW⟩ : ∃ W, wr = W := ⟨_, rfl⟩
          rw [hW] at HRo HEm HLR2 hlr
          have hBW1 : B + 2 ≤ W.heap.size := by rw [← hW]; have := hRo.vec.lt; omega
          have hrel2 : Hid (∃ i : Nat, i ≤ n ∧ Value.int .i64 0 = .int .i64 (i : Int) ∧ Kp W (.slice none 0 0) ((M.take i).filter fun x => !hasv u x.r x.n) W) := ⟨0, Nat.zero_le _, rfl, Below.refl _ _, World.ownsRow_nil _ _ _ _⟩
          clear hRo hEm hlr' hcm
          rw [hW]
          go_wp2_with (first | (refine wpList_loadR (ty := 27) (x := .tmp 35) (ad := ⟨g, 0, none⟩) (v := .slice am n km) rfl rfl rfl hlr ?_))
          clear hlr
          go_loopw [8, 38] (fun c8 c38 wz => ∃ i : Nat, i ≤ n ∧ c38 = .int .i64 (i : Int) ∧ Kp W c8 ((M.take i).filter fun x => !hasv u x.r x.n) wz) (fun _ c38 _ => n - (intOf c38).toNat)
          case atStart => exact hrel2.out
          case round =>
            clear hrel2
            obtain ⟨i, hi, rfl, hKp⟩ := hrel
            have hfl : ((M.take i).filter fun x => !hasv u x.r x.n).length ≤ 64 := Nat.le_trans (List.length_filter_le _ _) (by rw [List.length_take]; omega)
            by_cases hlt : i < n
            · have hlt' : (i : Int) < (n : Int) := by omega
              obtain ⟨b, off, x, hao, hxi, hwx, hrg, hbl⟩ := HEm.out.at hlt
              subst hao
              have hx16 := hwx.1
              have HKp : Hid _ := hKp
              have hBd : Below W.heap.size W wr.drew := hKp.below.drew
              have hix := fun W : World => index_ev W (b := b) (off := off) (c := km) hlt
              have hHx := fun W : World => rhas_any u x.r x.n hu16 W
              have HKd : Hid (Kp W u8 ((M.take i).filter fun x => !hasv u x.r x.n) wr.drew) := hKp.next (Below.refl _ _).drew
              have hft := filter_take (p := fun x => !hasv u x.r x.n) hxi
              clear hKp
              cases hhx : hasv u x.r x.n
              · rw [hhx] at hHx hft
                have HFT : Hid ((M.take (i + 1)).filter (fun x => !hasv u x.r x.n) = (M.take i).filter (fun x => !hasv u x.r x.n) ++ [x]) := hft
                clear hft
                obtain ⟨F, hF⟩ : ∃ F, (M.take i).filter (fun x => !hasv u x.r x.n) = F := ⟨_, rfl⟩
                rw [hF] at HFT HKd hfl HKp
                clear hF
                go_upto_region 8 with fail
                refine wp_region_noPanic ?_
                refine wp_region_held_drew (S := fun W' : World => Below W.heap.size W W') (by kernel_rfl) hBd (fun hHeld => ?_)
                refine wpAnyH_take (i := 0) (oi := { dst := some 41, op := _, type := _, pos := _, after := _, guard := _ }) (v := .agg (vals u)) rfl (by kernel_rfl) (by kernel_rfl) (by kernel_rfl) (fun _ _ _ h => h) (Or.inl ⟨by rfl, ?_⟩) (by assumption) ?_
                · intro w9 hSw
                  exact y_load rfl rfl (load_v (HRo.out.vec.below hSw HRo.out.vec.lt) hu16)
                simp only [Act.put, List.setIfInBounds_toArray, List.set_cons_zero, List.set_cons_succ]
                refine wpAnyH_take (i := 1) (oi := { dst := some 42, op := _, type := _, pos := _, after := _, guard := _ }) (v := .pointer (some ⟨g, 0, none⟩)) rfl (by kernel_rfl) (by kernel_rfl) (by kernel_rfl) (fun _ _ _ h => h) (Or.inl ⟨by rfl, ?_⟩) (by assumption) ?_
                · intro w9 hSw
                  exact y_move rfl rfl
                simp only [Act.put, List.setIfInBounds_toArray, List.set_cons_zero, List.set_cons_succ]
                refine wpAnyH_take (i := 2) (oi := { dst := some 43, op := _, type := _, pos := _, after := _, guard := _ }) (v := .pointer (some ⟨g, 0, none⟩)) rfl (by kernel_rfl) (by kernel_rfl) (by kernel_rfl) (fun _ _ _ h => h) (Or.inl ⟨by rfl, ?_⟩) (by assumption) ?_
                · intro w9 hSw
                  exact y_nil rfl rfl
                simp only [Act.put, List.setIfInBounds_toArray, List.set_cons_zero, List.set_cons_succ]
                refine wpAnyH_take (i := 3) (oi := { dst := some 44, op := _, type := _, pos := _, after := _, guard := _ }) (v := .pointer (some ⟨g, 0, none⟩)) rfl (by kernel_rfl) (by kernel_rfl) (by kernel_rfl) (fun _ _ _ h => h) (Or.inl ⟨by rfl, ?_⟩) (by assumption) ?_
                · intro w9 hSw
                  exact y_field rfl rfl (field_r _ _)
                simp only [Act.put, List.setIfInBounds_toArray, List.set_cons_zero, List.set_cons_succ]
                refine wpAnyH_take (i := 4) (oi := { dst := some 45, op := _, type := _, pos := _, after := _, guard := _ }) (v := .slice (some ⟨b, off, none⟩) n km) rfl (by kernel_rfl) (by kernel_rfl) (by kernel_rfl) (fun _ _ _ h => h) (Or.inl ⟨by rfl, ?_⟩) (by assumption) ?_
                · intro w9 hSw
                  exact y_load rfl rfl (HLR2.out _ hSw)
                simp only [Act.put, List.setIfInBounds_toArray, List.set_cons_zero, List.set_cons_succ]
                refine wpAnyH_take (i := 5) (oi := { dst := some 46, op := _, type := _, pos := _, after := _, guard := _ }) (v := .int .i64 (i : Int)) rfl (by kernel_rfl) (by kernel_rfl) (by kernel_rfl) (fun _ _ _ h => h) (Or.inl ⟨by rfl, ?_⟩) (by assumption) ?_
                · intro w9 hSw
                  exact y_move rfl rfl
                simp only [Act.put, List.setIfInBounds_toArray, List.set_cons_zero, List.set_cons_succ]
                refine wpAnyH_take (i := 6) (oi := { dst := some 47, op := _, type := _, pos := _, after := _, guard := _ }) (v := .pointer (some ⟨b, off + i * 26, none⟩)) rfl (by kernel_rfl) (by kernel_rfl) (by kernel_rfl) (fun _ _ _ h => h) (Or.inl ⟨by rfl, ?_⟩) (by assumption) ?_
                · intro w9 hSw
                  exact y_index rfl rfl rfl (hix _)
                simp only [Act.put, List.setIfInBounds_toArray, List.set_cons_zero, List.set_cons_succ]
                refine wpAnyH_take (i := 7) (oi := { dst := some 48, op := _, type := _, pos := _, after := _, guard := _ }) (v := .pointer (some ⟨b, off + i * 26, none⟩)) rfl (by kernel_rfl) (by kernel_rfl) (by kernel_rfl) (fun _ _ _ h => h) (Or.inl ⟨by rfl, ?_⟩) (by assumption) ?_
                · intro w9 hSw
                  exact y_field rfl rfl (field_em0 _ _ _)
                simp only [Act.put, List.setIfInBounds_toArray, List.set_cons_zero, List.set_cons_succ]
                refine wpAnyH_take (i := 8) (oi := { dst := some 49, op := _, type := _, pos := _, after := _, guard := _ }) (v := .agg (dotc x.r x.n)) rfl (by kernel_rfl) (by kernel_rfl) (by kernel_rfl) (fun _ _ _ h => h) (Or.inl ⟨by rfl, ?_⟩) (by assumption) ?_
                · intro w9 hSw
                  exact y_load rfl rfl (load_dtm (range_below hrg hSw hbl))
                simp only [Act.put, List.setIfInBounds_toArray, List.set_cons_zero, List.set_cons_succ]
                clear hHeld
                refine wpAnyH_ready (rs := [9]) (by kernel_rfl) (by simp) ?_
                refine AllReadyH.cons (o := { dst := some 50, op := _, type := _, pos := _, after := _, guard := _ }) rfl (fun K hK => ?_) AllReadyH.nil
                rw [if_pos (by rfl)]
                refine y_call (f := 22) (xs := [.tmp 41, .tmp 49]) (vs := [.agg (vals u), .agg (dotc x.r x.n)]) rfl rfl (enters_rhas _ _) (hHx _) ?_
                rintro ex wA ⟨rfl, hbA⟩
                refine ⟨_, rfl, ?_⟩
                have HKA : Hid (Kp W u8 F wA) := HKd.out.next hbA
                refine hK.out _ _ HKA.out.below (fun hHeld => ?_)
                clear hK K
                simp only [Act.put, List.setIfInBounds_toArray, List.set_cons_zero, List.set_cons_succ]
                refine wpAnyH_take (i := 10) (oi := { dst := some 51, op := _, type := _, pos := _, after := _, guard := _ }) (v := .bool true) rfl (by kernel_rfl) (by kernel_rfl) (by kernel_rfl) (fun _ _ _ h => h) (Or.inl ⟨by rfl, ?_⟩) (by assumption) ?_
                · intro w9 hSw
                  exact y_not rfl rfl rfl
                simp only [Act.put, List.setIfInBounds_toArray, List.set_cons_zero, List.set_cons_succ]
                refine wpAnyH_done (by kernel_rfl) ?_ _
                refine NoPanic.normal ?_
                clear hHeld
                have hEwB := range_below hrg HKA.out.below hbl
                have hrowwB : Row (wA.alloc (.cells (evc x) 44)) W.heap.size u8 (F) := HKA.out.row.below ((Below.refl _ _).alloc (Nat.le_refl _) _) (Nat.le_refl _)
                have hFwB : Evs (wA.alloc (.cells (evc x) 44)) (some ⟨wA.heap.size, 0, none⟩) 1 1 [x] := evs_single _ _ x hwx (liesE_new wA x)
                have hlewB : W.heap.size ≤ (wA.alloc (.cells (evc x) 44)).heap.size := by have := HKA.out.below.size; rw [World.size_alloc]; omega
                have hllwB : (F).length + 1 ≤ 1048576 := by simp; omega
                have hlrwB := HLR2.out wA HKA.out.below
                have HKxwB : Hid (Kp W u8 (F) (wA.alloc (.cells (evc x) 44))) := HKA.out.next ((Below.refl _ _).alloc (Nat.le_refl _) _)
                go_wp2_with (first | (refine wpList_loadR (ty := 27) (x := .tmp 55) (ad := ⟨g, 0, none⟩) (v := .slice (some ⟨b, off, none⟩) n km) rfl rfl rfl hlrwB ?_) | refine load_ev_mid rfl rfl rfl hEwB hx16 ?_ | refine build_ev1 rfl rfl rfl hx16 ?_ | refine wpList_appE rfl _ _ rfl W.heap.size _ (F) rfl hrowwB _ 1 1 [x] rfl hFwB hllwB hlewB ?_)
                intro vB wB hrwB hgwB hnwB
                have HKB : Hid (Kp W vB (F ++ [x]) wB) := HKxwB.out.app hrwB hgwB
                clear hrwB hgwB hnwB hrowwB hFwB HKxwB hEwB
                go_wp2
                go_roundw
                case rel => exact ⟨i + 1, by omega, by go_num, by rw [HFT.out]; exact HKB.out⟩
                case measure => simp [intOf]; omega
              · rw [hhx] at hHx hft
                have HFT : Hid ((M.take (i + 1)).filter (fun x => !hasv u x.r x.n) = (M.take i).filter (fun x => !hasv u x.r x.n)) := by
                  show _ = _
                  rw [hft]
                  simp
                clear hft
                obtain ⟨F, hF⟩ : ∃ F, (M.take i).filter (fun x => !hasv u x.r x.n) = F := ⟨_, rfl⟩
                rw [hF] at HFT HKd hfl HKp
                clear hF
                go_upto_region 8 with fail
                refine wp_region_noPanic ?_
                refine wp_region_held_drew (S := fun W' : World => Below W.heap.size W W') (by kernel_rfl) hBd (fun hHeld => ?_)
                refine wpAnyH_take (i := 0) (oi := { dst := some 41, op := _, type := _, pos := _, after := _, guard := _ }) (v := .agg (vals u)) rfl (by kernel_rfl) (by kernel_rfl) (by kernel_rfl) (fun _ _ _ h => h) (Or.inl ⟨by rfl, ?_⟩) (by assumption) ?_
                · intro w9 hSw
                  exact y_load rfl rfl (load_v (HRo.out.vec.below hSw HRo.out.vec.lt) hu16)
                simp only [Act.put, List.setIfInBounds_toArray, List.set_cons_zero, List.set_cons_succ]
                refine wpAnyH_take (i := 1) (oi := { dst := some 42, op := _, type := _, pos := _, after := _, guard := _ }) (v := .pointer (some ⟨g, 0, none⟩)) rfl (by kernel_rfl) (by kernel_rfl) (by kernel_rfl) (fun _ _ _ h => h) (Or.inl ⟨by rfl, ?_⟩) (by assumption) ?_
                · intro w9 hSw
                  exact y_move rfl rfl
                simp only [Act.put, List.setIfInBounds_toArray, List.set_cons_zero, List.set_cons_succ]
                refine wpAnyH_take (i := 2) (oi := { dst := some 43, op := _, type := _, pos := _, after := _, guard := _ }) (v := .pointer (some ⟨g, 0, none⟩)) rfl (by kernel_rfl) (by kernel_rfl) (by kernel_rfl) (fun _ _ _ h => h) (Or.inl ⟨by rfl, ?_⟩) (by assumption) ?_
                · intro w9 hSw
                  exact y_nil rfl rfl
                simp only [Act.put, List.setIfInBounds_toArray, List.set_cons_zero, List.set_cons_succ]
                refine wpAnyH_take (i := 3) (oi := { dst := some 44, op := _, type := _, pos := _, after := _, guard := _ }) (v := .pointer (some ⟨g, 0, none⟩)) rfl (by kernel_rfl) (by kernel_rfl) (by kernel_rfl) (fun _ _ _ h => h) (Or.inl ⟨by rfl, ?_⟩) (by assumption) ?_
                · intro w9 hSw
                  exact y_field rfl rfl (field_r _ _)
                simp only [Act.put, List.setIfInBounds_toArray, List.set_cons_zero, List.set_cons_succ]
                refine wpAnyH_take (i := 4) (oi := { dst := some 45, op := _, type := _, pos := _, after := _, guard := _ }) (v := .slice (some ⟨b, off, none⟩) n km) rfl (by kernel_rfl) (by kernel_rfl) (by kernel_rfl) (fun _ _ _ h => h) (Or.inl ⟨by rfl, ?_⟩) (by assumption) ?_
                · intro w9 hSw
                  exact y_load rfl rfl (HLR2.out _ hSw)
                simp only [Act.put, List.setIfInBounds_toArray, List.set_cons_zero, List.set_cons_succ]
                refine wpAnyH_take (i := 5) (oi := { dst := some 46, op := _, type := _, pos := _, after := _, guard := _ }) (v := .int .i64 (i : Int)) rfl (by kernel_rfl) (by kernel_rfl) (by kernel_rfl) (fun _ _ _ h => h) (Or.inl ⟨by rfl, ?_⟩) (by assumption) ?_
                · intro w9 hSw
                  exact y_move rfl rfl
                simp only [Act.put, List.setIfInBounds_toArray, List.set_cons_zero, List.set_cons_succ]
                refine wpAnyH_take (i := 6) (oi := { dst := some 47, op := _, type := _, pos := _, after := _, guard := _ }) (v := .pointer (some ⟨b, off + i * 26, none⟩)) rfl (by kernel_rfl) (by kernel_rfl) (by kernel_rfl) (fun _ _ _ h => h) (Or.inl ⟨by rfl, ?_⟩) (by assumption) ?_
                · intro w9 hSw
                  exact y_index rfl rfl rfl (hix _)
                simp only [Act.put, List.setIfInBounds_toArray, List.set_cons_zero, List.set_cons_succ]
                refine wpAnyH_take (i := 7) (oi := { dst := some 48, op := _, type := _, pos := _, after := _, guard := _ }) (v := .pointer (some ⟨b, off + i * 26, none⟩)) rfl (by kernel_rfl) (by kernel_rfl) (by kernel_rfl) (fun _ _ _ h => h) (Or.inl ⟨by rfl, ?_⟩) (by assumption) ?_
                · intro w9 hSw
                  exact y_field rfl rfl (field_em0 _ _ _)
                simp only [Act.put, List.setIfInBounds_toArray, List.set_cons_zero, List.set_cons_succ]
                refine wpAnyH_take (i := 8) (oi := { dst := some 49, op := _, type := _, pos := _, after := _, guard := _ }) (v := .agg (dotc x.r x.n)) rfl (by kernel_rfl) (by kernel_rfl) (by kernel_rfl) (fun _ _ _ h => h) (Or.inl ⟨by rfl, ?_⟩) (by assumption) ?_
                · intro w9 hSw
                  exact y_load rfl rfl (load_dtm (range_below hrg hSw hbl))
                simp only [Act.put, List.setIfInBounds_toArray, List.set_cons_zero, List.set_cons_succ]
                clear hHeld
                refine wpAnyH_ready (rs := [9]) (by kernel_rfl) (by simp) ?_
                refine AllReadyH.cons (o := { dst := some 50, op := _, type := _, pos := _, after := _, guard := _ }) rfl (fun K hK => ?_) AllReadyH.nil
                rw [if_pos (by rfl)]
                refine y_call (f := 22) (xs := [.tmp 41, .tmp 49]) (vs := [.agg (vals u), .agg (dotc x.r x.n)]) rfl rfl (enters_rhas _ _) (hHx _) ?_
                rintro ex wA ⟨rfl, hbA⟩
                refine ⟨_, rfl, ?_⟩
                have HKA : Hid (Kp W u8 F wA) := HKd.out.next hbA
                refine hK.out _ _ HKA.out.below (fun hHeld => ?_)
                clear hK K
                simp only [Act.put, List.setIfInBounds_toArray, List.set_cons_zero, List.set_cons_succ]
                refine wpAnyH_take (i := 10) (oi := { dst := some 51, op := _, type := _, pos := _, after := _, guard := _ }) (v := .bool false) rfl (by kernel_rfl) (by kernel_rfl) (by kernel_rfl) (fun _ _ _ h => h) (Or.inl ⟨by rfl, ?_⟩) (by assumption) ?_
                · intro w9 hSw
                  exact y_not rfl rfl rfl
                simp only [Act.put, List.setIfInBounds_toArray, List.set_cons_zero, List.set_cons_succ]
                refine wpAnyH_done (by kernel_rfl) ?_ _
                refine NoPanic.normal ?_
                clear hHeld
                go_wp2
                go_roundw
                case rel => exact ⟨i + 1, by omega, by go_num, by rw [HFT.out]; exact HKA.out⟩
                case measure => simp [intOf]; omega
            · have hlt' : ¬ (i : Int) < (n : Int) := by omega
              obtain ⟨F, hF⟩ : ∃ F, M.filter (fun x => !hasv u x.r x.n) = F := ⟨_, rfl⟩
              rw [List.take_of_length_le (by omega), hF] at hKp hfl
              have HF : Hid _ := hF
              have hFS : ∀ x ∈ F, x ∈ S1 := fun x hx => HRo.out.sub x (by rw [← hF] at hx; exact (List.mem_filter.1 hx).1)
              have hwF : ∀ x ∈ F, Wide x := fun x hx => HW1.out x (hFS x hx)
              obtain ⟨aF, cF, hvF, hEF⟩ := hKp.row.evs hwF
              have FIN := keep_store (base := W.heap.size) (v := u8) (HRo.out.rf.below hKp.below) hKp.row (by have := hBW1; omega)
              have hoB : ∀ k, k ≠ g → (wr.setCell ⟨g, 0, none⟩ u8).heap[k]? = wr.heap[k]? := fun k hk => Below.heap_setCell _ _ _ k hk
              have HV7 : Hid (Lies (wr.setCell ⟨g, 0, none⟩ u8) (B + 1) u) := (hoB (B + 1) (by omega)).trans (HRo.out.vec.below hKp.below HRo.out.vec.lt)
              have HT7 : Hid (Row (wr.setCell ⟨g, 0, none⟩ u8) (B + 2) u7 T) := keepR (HRo.out.row.below hKp.below (Nat.le_refl _)) fun k hk => hoB k (by have := Row.own HRo.out.row k hk; omega)
              have HG7 : Hid (w.grownBy (wr.setCell ⟨g, 0, none⟩ u8) (some g)) := grown_tr (grown_tr HRo.out.grown (grown_below' hKp.below _)) FIN.2.2
              have HR7 : Hid (Rf (wr.setCell ⟨g, 0, none⟩ u8) g u8 F) := FIN.2.1
              have hst := FIN.1
              have HE7 : Hid (Evs (wr.setCell ⟨g, 0, none⟩ u8) aF F.length cF F) := by
                obtain ⟨a', k', h1, h2⟩ := FIN.2.1.val hwF
                rw [hvF] at h1
                simp only [Value.slice.injEq, true_and] at h1
                obtain ⟨rfl, rfl⟩ := h1
                exact h2
              have hapart : ∀ q, u7.ownBlock = some q → u8.ownBlock ≠ some q := fun q hq e1 => by
                have h1 := (World.ownsRow.lt HRo.out.row q hq).2
                have h2 := Row.own hKp.row q e1
                omega
              have hFown : ∀ q, u8.ownBlock = some q → B + 2 ≤ q := fun q e1 => by have h2 := Row.own hKp.row q e1; omega
              have HAP : Hid _ := hapart
              have HFO : Hid _ := hFown
              clear FIN hoB hKp hEF hF hapart hFown
              subst hvF
              have hFl : F.length ≤ 64 := hfl
              go_wp2_with (first | (refine wpList_storeC rfl rfl rfl rfl hst ?_))
              clear hst
              generalize wr.setCell ⟨g, 0, none⟩ (.slice aF F.length cF) = w7 at *
              go_loopw [10, 11] (fun c10 c11 wz => ∃ q : Nat, q ≤ F.length ∧ c11 = .int .i64 ((q : Int) - 1) ∧ c10 = .int .i64 (atQ F u q) ∧ Below w7.heap.size w7 wz) (fun _ c11 _ => ((intOf c11) + 1).toNat)
              case atStart => exact ⟨F.length, Nat.le_refl _, rfl, by rw [atQ_end], Below.refl _ _⟩
              case round =>
                obtain ⟨q, hq, rfl, rfl, hb7⟩ := hrel
                rcases q with _ | q
                · rw [atQ_zero]
                  cases hfi : F.findIdx? (fun e => mayE e u) with
                  | none =>
                    have hiq : idxQ F u = -1 := by unfold idxQ; rw [hfi]
                    rw [hiq]
                    have hst := HRo.out.ref.stop (by rw [HF.out]; exact find_idxQ hfi)
                    have HST : Hid _ := hst
                    have HAL : Hid (F = S1.filter fun x => !hasv u x.r x.n) := HF.out.symm.trans HRo.out.ref.all
                    clear hst hfi hiq
                    go_wp2
                    go_ret
                    obtain ⟨L9, hL9⟩ := HST.out
                    exact ⟨_, T, F, _, u, rfl, ⟨L9, by rw [HSE.out]; exact hL9, by rw [HSE.out]; exact HAL.out⟩, (HT7.out.below hb7 (Nat.le_refl _)).lower (show w.heap.size ≤ B + 2 by omega), HR7.out.below hb7, grown_tr HG7.out (grown_below' hb7 _)⟩
                  | some k =>
                    have hiq : idxQ F u = (k : Int) := by unfold idxQ; rw [hfi]
                    rw [hiq]
                    obtain ⟨hkl, hmk⟩ := idx_someQ hfi
                    obtain ⟨b, off, x, hao, hxk, hwx, hrg, hbl⟩ := HE7.out.at hkl
                    have hx16 := hwx.1
                    have hmay := hmk x hxk
                    have hxS := hFS x (List.mem_of_getElem? hxk)
                    have hdx0 := hdS x hxS
                    obtain ⟨hRef, -, -⟩ := HRo.out.ref.step hdS (e := x) (by rw [HF.out]; exact find_idx hfi hxk)
                    rw [HF.out] at hRef
                    have HRef : Hid _ := hRef
                    have hdx := hdx0
                    simp only [okdot, decide_eq_true_eq] at hdx
                    obtain ⟨r, hr⟩ : ∃ r : Nat, x.r = (r : Int) := ⟨x.r.toNat, by omega⟩
                    have hr16 : r < 16 := by omega
                    have hkl' : (k : Int) < (F.length : Int) := by omega
                    have hk0 : ¬ (k : Int) < 0 := by omega
                    subst hao
                    have hld := load_em (range_below hrg hb7 hbl) hx16
                    have hst := st_ev wr x hx16
                    have hE2 := liesE_new wr x
                    have hb2 : Below wr.heap.size wr (wr.alloc (.cells (evc x) 44)) := (Below.refl _ _).alloc (Nat.le_refl _) _
                    have hb72 : Below w7.heap.size w7 (wr.alloc (.cells (evc x) 44)) := hb7.trans (hb2.mono hb7.size)
                    generalize hW2 : wr.alloc (.cells (evc x) 44) = W2 at *
                    have hF2 : Evs (W2.alloc (.cells (evc x) 44)) (some ⟨W2.heap.size, 0, none⟩) 1 1 [x] := evs_single _ _ x hwx (liesE_new W2 x)
                    have hb73 : Below w7.heap.size w7 (W2.alloc (.cells (evc x) 44)) := hb72.alloc hb72.size _
                    have hrow3 := HT7.out.below hb73 (Nat.le_refl _)
                    have hE3 := hE2.alloc (.cells (evc x) 44)
                    have hle3 : B + 2 ≤ (W2.alloc (.cells (evc x) 44)).heap.size := by have := HV7.out.lt; have := hb73.size; omega
                    have hT1l : T.length + 1 ≤ 1048576 := by omega
                    have hwrE : wr.heap.size < (W2.alloc (.cells (evc x) 44)).heap.size := hE3.lt
                    have hown7 : ∀ q, u7.ownBlock = some q → q < wr.heap.size := fun q hq => Nat.lt_of_lt_of_le (World.ownsRow.lt HT7.out q hq).2 hb7.size
                    clear hRef hfi hiq hmk
                    go_wp2_with (first
                      | (refine wpList_loadR (ty := 44) (x := .tmp 86) (ad := ⟨b, off + k * 26, none⟩) (v := .agg (evc x)) rfl rfl rfl hld ?_)
                      | (refine wpList_storeR (ty := 44) (x := .tmp 12) (y := .tmp 87) (ad := ⟨wr.heap.size, 0, none⟩) (v := .agg (evc x)) (w' := W2) rfl rfl rfl rfl hst ?_)
                      | refine load_ev rfl rfl rfl hE2 hx16 ?_
                      | refine build_ev1 rfl rfl rfl hx16 ?_
                      | refine wpList_appE rfl _ _ rfl (B + 2) _ T rfl hrow3 _ 1 1 [x] rfl hF2 hT1l hle3 ?_)
                    intro vt wt hrt hgt hnt
                    have hEt : LiesE wt wr.heap.size x := by
                      rw [LiesE, hgt.block _ hE3.lt (fun e1 => by have := hown7 _ e1.symm; omega)]; exact hE3
                    have hob : ∀ q, q < B + 2 → q < (W2.alloc (.cells (evc x) 44)).heap.size → wt.heap[q]? = (W2.alloc (.cells (evc x) 44)).heap[q]? := fun q hq hq2 => hgt.block q hq2 (fun e1 => by have := Row.own HT7.out q e1.symm; omega)
                    have hVt : Lies wt (B + 1) u := (hob (B + 1) (by omega) (by omega)).trans (HV7.out.below hb73 HV7.out.lt)
                    have hRt : Rf wt g (.slice (some ⟨b, off, none⟩) F.length cF) F := (HR7.out.below hb73).grow hgt (fun q hq => ⟨by have := Row.own HT7.out q hq; omega, HAP.out q hq⟩)
                    have hGt : w.grownBy wt (some g) := ⟨hgt.os.trans (hb73.os.trans HG7.out.os), hgt.tape.trans (hb73.tape.trans HG7.out.tape), hgt.output.trans (hb73.output.trans HG7.out.output), Nat.le_trans (Nat.le_trans HG7.out.size hb73.size) hgt.size, fun q hq hne => by
                      have h7 : q < w7.heap.size := Nat.lt_of_lt_of_le hq HG7.out.size
                      rw [hob q (by omega) (Nat.lt_of_lt_of_le h7 hb73.size), hb73.block q h7]
                      exact HG7.out.block q hq hne⟩
                    have hc0 : wt.cell? ⟨wr.heap.size, 0, none⟩ = some (.int .i64 (r : Int)) := by rw [hEt.c0, hr]
                    have hc1 := hEt.c1
                    have hcu := hVt.cell (k := r) (by omega)
                    have hfu := hVt.frozen (k := r)
                    have hos : ∀ q, q ≠ B + 1 → (wt.setCell ⟨B + 1, r, none⟩ (.int .i64 x.n)).heap[q]? = wt.heap[q]? := fun q hq => Below.heap_setCell _ _ _ q hq
                    have hgs : wt.grownBy (wt.setCell ⟨B + 1, r, none⟩ (.int .i64 x.n)) (some (B + 1)) := ⟨rfl, rfl, rfl, by simp [World.setCell], fun q _ hq => hos q (fun e1 => hq (by rw [e1]))⟩
                    have HFI : Hid (Ro w g B S1 v (T ++ [x]) F (seeV u x) (.slice (some ⟨b, off, none⟩) F.length cF) vt (wt.setCell ⟨B + 1, r, none⟩ (.int .i64 x.n))) := by
                      refine ⟨HRef.out, HRo.out.fit.see hdx0, hFS, hFl, hRt.grow hgs (fun q hq => ?_), ?_, Row.set hrt (by omega) _, ⟨hGt.os, hGt.tape, hGt.output, by simp [World.setCell]; exact hGt.size, fun q hq hne => (hos q (by omega)).trans (hGt.block q hq hne)⟩⟩
                      · cases hq
                        exact ⟨by omega, fun e1 => by have := HFO.out (B + 1) e1; omega⟩
                      · have := hVt.set (k := r) x.n
                        rw [show seeV u x = u.set r x.n by unfold seeV; rw [hr]; rfl]
                        exact this
                    have hT1 : lenV vt = T.length + 1 := by
                      obtain ⟨a9, c9, h9, -⟩ := hrt.evs (fun y hy => by
                        rcases List.mem_append.1 hy with hy | hy
                        · exact HW1.out y (HRo.out.told y hy)
                        · rw [List.mem_singleton.1 hy]; exact hwx)
                      rw [h9, List.length_append]; rfl
                    have hT0 : lenV u7 = T.length := by rw [HvT.out]; rfl
                    have hjj : (r : Int) < 16 := by omega
                    clear hrt hgt hnt hEt hRt hGt hVt hob hos hgs hrow3 hF2 hE2 hE3 hld hst hb72 hb73
                    go_wp2_with fail
                    go_roundw
                    case rel => exact ⟨T ++ [x], F, seeV u x, _, HFI.out⟩
                    case measure => simp only [lenV] at hT0 hT1 ⊢; simp [hT1, hT0]; omega
                · have hq1 : (((q + 1 : Nat) : Int) - 1) = (q : Int) := by omega
                  rw [hq1]
                  have hql : q < F.length := by omega
                  obtain ⟨b, off, x, hao, hxq, hwx, hrg, hbl⟩ := HE7.out.at hql
                  subst hao
                  have hx16 := hwx.1
                  have hdx0 := hdS x (hFS x (List.mem_of_getElem? hxq))
                  have hql' : (q : Int) < (F.length : Int) := by omega
                  have hix := fun W : World => index_ev W (b := b) (off := off) (c := cF) hql
                  have hMy := fun W : World => rmay_any x u hwx hdx0 hu16 HRo.out.fit W
                  have hBd : Below w7.heap.size w7 wr.drew := hb7.drew
                  have hq64 : q < 64 := by omega
                  cases hmx : mayE x u
                  · rw [hmx] at hMy
                    have HAT : Hid (atQ F u q = atQ F u (q + 1)) := atQ_no hxq hmx
                    go_upto_region 16 with fail
                    refine wp_region_noPanic ?_
                    refine wp_region_held_drew (S := fun W' : World => Below w7.heap.size w7 W') (by kernel_rfl) hBd (fun hHeld => ?_)
                    refine wpAnyH_take (i := 0) (oi := { dst := some 74, op := _, type := _, pos := _, after := _, guard := _ }) (v := .slice (some ⟨b, off, none⟩) F.length cF) rfl (by kernel_rfl) (by kernel_rfl) (by kernel_rfl) (fun _ _ _ h => h) (Or.inl ⟨by rfl, ?_⟩) (by assumption) ?_
                    · intro w9 hSw
                      exact y_move rfl rfl
                    simp only [Act.put, List.setIfInBounds_toArray, List.set_cons_zero, List.set_cons_succ]
                    refine wpAnyH_take (i := 1) (oi := { dst := some 75, op := _, type := _, pos := _, after := _, guard := _ }) (v := .int .i64 (q : Int)) rfl (by kernel_rfl) (by kernel_rfl) (by kernel_rfl) (fun _ _ _ h => h) (Or.inl ⟨by rfl, ?_⟩) (by assumption) ?_
                    · intro w9 hSw
                      exact y_move rfl rfl
                    simp only [Act.put, List.setIfInBounds_toArray, List.set_cons_zero, List.set_cons_succ]
                    refine wpAnyH_take (i := 2) (oi := { dst := some 76, op := _, type := _, pos := _, after := _, guard := _ }) (v := .pointer (some ⟨b, off + q * 26, none⟩)) rfl (by kernel_rfl) (by kernel_rfl) (by kernel_rfl) (fun _ _ _ h => h) (Or.inl ⟨by rfl, ?_⟩) (by assumption) ?_
                    · intro w9 hSw
                      exact y_index rfl rfl rfl (hix _)
                    simp only [Act.put, List.setIfInBounds_toArray, List.set_cons_zero, List.set_cons_succ]
                    refine wpAnyH_take (i := 3) (oi := { dst := some 77, op := _, type := _, pos := _, after := _, guard := _ }) (v := .agg (evc x)) rfl (by kernel_rfl) (by kernel_rfl) (by kernel_rfl) (fun _ _ _ h => h) (Or.inl ⟨by rfl, ?_⟩) (by assumption) ?_
                    · intro w9 hSw
                      exact y_load rfl rfl (load_em (range_below hrg hSw hbl) hx16)
                    simp only [Act.put, List.setIfInBounds_toArray, List.set_cons_zero, List.set_cons_succ]
                    refine wpAnyH_take (i := 4) (oi := { dst := some 78, op := _, type := _, pos := _, after := _, guard := _ }) (v := .agg (vals u)) rfl (by kernel_rfl) (by kernel_rfl) (by kernel_rfl) (fun _ _ _ h => h) (Or.inl ⟨by rfl, ?_⟩) (by assumption) ?_
                    · intro w9 hSw
                      exact y_load rfl rfl (load_v (HV7.out.below hSw HV7.out.lt) hu16)
                    simp only [Act.put, List.setIfInBounds_toArray, List.set_cons_zero, List.set_cons_succ]
                    clear hHeld
                    refine wpAnyH_ready (rs := [5]) (by kernel_rfl) (by simp) ?_
                    refine AllReadyH.cons (o := { dst := some 79, op := _, type := _, pos := _, after := _, guard := _ }) rfl (fun K hK => ?_) AllReadyH.nil
                    rw [if_pos (by rfl)]
                    refine y_call (f := 15) (xs := [.tmp 77, .tmp 78]) (vs := [.agg (evc x), .agg (vals u)]) rfl rfl (enters_rmay _ _) (hMy _) ?_
                    rintro ex wM ⟨rfl, hbm⟩
                    refine ⟨_, rfl, ?_⟩
                    have hbM : Below w7.heap.size w7 wM := hBd.trans (hbm.mono hBd.size)
                    refine hK.out _ _ hbM (fun hHeld => ?_)
                    clear hK K
                    simp only [Act.put, List.setIfInBounds_toArray, List.set_cons_zero, List.set_cons_succ]
                    refine wpAnyH_done (by kernel_rfl) ?_ _
                    refine NoPanic.normal ?_
                    clear hHeld
                    go_wp2
                    go_roundw
                    case rel => exact ⟨q, by omega, by go_num, by rw [HAT.out], hbM⟩
                    case measure => simp [intOf]
                  · rw [hmx] at hMy
                    have HAT : Hid (atQ F u q = (q : Int)) := atQ_yes hxq hmx
                    go_upto_region 16 with fail
                    refine wp_region_noPanic ?_
                    refine wp_region_held_drew (S := fun W' : World => Below w7.heap.size w7 W') (by kernel_rfl) hBd (fun hHeld => ?_)
                    refine wpAnyH_take (i := 0) (oi := { dst := some 74, op := _, type := _, pos := _, after := _, guard := _ }) (v := .slice (some ⟨b, off, none⟩) F.length cF) rfl (by kernel_rfl) (by kernel_rfl) (by kernel_rfl) (fun _ _ _ h => h) (Or.inl ⟨by rfl, ?_⟩) (by assumption) ?_
                    · intro w9 hSw
                      exact y_move rfl rfl
                    simp only [Act.put, List.setIfInBounds_toArray, List.set_cons_zero, List.set_cons_succ]
                    refine wpAnyH_take (i := 1) (oi := { dst := some 75, op := _, type := _, pos := _, after := _, guard := _ }) (v := .int .i64 (q : Int)) rfl (by kernel_rfl) (by kernel_rfl) (by kernel_rfl) (fun _ _ _ h => h) (Or.inl ⟨by rfl, ?_⟩) (by assumption) ?_
                    · intro w9 hSw
                      exact y_move rfl rfl
                    simp only [Act.put, List.setIfInBounds_toArray, List.set_cons_zero, List.set_cons_succ]
                    refine wpAnyH_take (i := 2) (oi := { dst := some 76, op := _, type := _, pos := _, after := _, guard := _ }) (v := .pointer (some ⟨b, off + q * 26, none⟩)) rfl (by kernel_rfl) (by kernel_rfl) (by kernel_rfl) (fun _ _ _ h => h) (Or.inl ⟨by rfl, ?_⟩) (by assumption) ?_
                    · intro w9 hSw
                      exact y_index rfl rfl rfl (hix _)
                    simp only [Act.put, List.setIfInBounds_toArray, List.set_cons_zero, List.set_cons_succ]
                    refine wpAnyH_take (i := 3) (oi := { dst := some 77, op := _, type := _, pos := _, after := _, guard := _ }) (v := .agg (evc x)) rfl (by kernel_rfl) (by kernel_rfl) (by kernel_rfl) (fun _ _ _ h => h) (Or.inl ⟨by rfl, ?_⟩) (by assumption) ?_
                    · intro w9 hSw
                      exact y_load rfl rfl (load_em (range_below hrg hSw hbl) hx16)
                    simp only [Act.put, List.setIfInBounds_toArray, List.set_cons_zero, List.set_cons_succ]
                    refine wpAnyH_take (i := 4) (oi := { dst := some 78, op := _, type := _, pos := _, after := _, guard := _ }) (v := .agg (vals u)) rfl (by kernel_rfl) (by kernel_rfl) (by kernel_rfl) (fun _ _ _ h => h) (Or.inl ⟨by rfl, ?_⟩) (by assumption) ?_
                    · intro w9 hSw
                      exact y_load rfl rfl (load_v (HV7.out.below hSw HV7.out.lt) hu16)
                    simp only [Act.put, List.setIfInBounds_toArray, List.set_cons_zero, List.set_cons_succ]
                    clear hHeld
                    refine wpAnyH_ready (rs := [5]) (by kernel_rfl) (by simp) ?_
                    refine AllReadyH.cons (o := { dst := some 79, op := _, type := _, pos := _, after := _, guard := _ }) rfl (fun K hK => ?_) AllReadyH.nil
                    rw [if_pos (by rfl)]
                    refine y_call (f := 15) (xs := [.tmp 77, .tmp 78]) (vs := [.agg (evc x), .agg (vals u)]) rfl rfl (enters_rmay _ _) (hMy _) ?_
                    rintro ex wM ⟨rfl, hbm⟩
                    refine ⟨_, rfl, ?_⟩
                    have hbM : Below w7.heap.size w7 wM := hBd.trans (hbm.mono hBd.size)
                    refine hK.out _ _ hbM (fun hHeld => ?_)
                    clear hK K
                    simp only [Act.put, List.setIfInBounds_toArray, List.set_cons_zero, List.set_cons_succ]
                    refine wpAnyH_done (by kernel_rfl) ?_ _
                    refine NoPanic.normal ?_
                    clear hHeld
                    go_wp2
                    go_roundw
                    case rel => exact ⟨q, by omega, by go_num, by rw [HAT.out], hbM⟩
                    case measure => simp [intOf]
      · have hll' : ¬ (L.length : Int) < 64 := by omega
        have HS1 : Hid (offS L e v = L) := cond_no (by unfold condE; rw [hok, hhs, decide_eq_false hll]; rfl)
        go_enter Try.func12, Try.ntmps12
        go_wp2_with (first | refine load_ev rfl rfl rfl hE0' he16 ?_)
        refine Calls.mono hRi ?_
        rintro ex w1 ⟨rfl, hb1⟩
        have hV1 := HV0.out.below hb1 HV0.out.lt
        have hlv := load_v hV1 hv
        have hE1 := HE0.out.below hb1 HE0.out.lt
        have hld := hE1.dotAt
        have hH1 := hHa w1
        rw [hhs] at hH1
        have hfe := field_ev0 w1 B
        clear hRi hE0'
        go_wp2_with (first
          | (refine wpList_loadW (ty := 40) (x := .tmp 5) (ad := ⟨B + 1, 0, none⟩) (v := .agg (vals v)) rfl rfl rfl hlv ?_)
          | (refine wpList_loadW (ty := 38) (x := .tmp 17) (ad := ⟨B, 0, none⟩) (v := .agg (dotc e.r e.n)) rfl rfl rfl hld ?_))
        refine Calls.mono hH1 ?_
        rintro ex wS ⟨rfl, hb2⟩
        have hbS : Below W0.heap.size W0 wS := hb1.trans (hb2.mono hb1.size)
        have hlr := HLR.out wS hbS
        have HRS : Hid (Rf wS g c L) := HRf0.out.below hbS
        have HVS : Hid (Lies wS (B + 1) v) := HV0.out.below hbS HV0.out.lt
        have HGS : Hid (w.grownBy wS (some g)) := grown_tr HG0.out (grown_below' hbS _)
        have hszS : B + 2 ≤ wS.heap.size := Nat.le_trans hB2 hbS.size
        obtain ⟨cS, hcS⟩ : ∃ cS, c = cS := ⟨_, rfl⟩
        obtain ⟨S1, hS1⟩ : ∃ S1, offS L e v = S1 := ⟨_, rfl⟩
        have HRS : Hid (Rf wS g cS S1) := by rw [← hS1, HS1.out, ← hcS]; exact HRS.out
        have HB1 : Hid (Buf S1) := by rw [← hS1]; exact HBO.out
        have HW1 : Hid (∀ x ∈ S1, Wide x) := by rw [← hS1]; exact HWO.out
        have HSE : Hid (offS L e v = S1) := hS1
        clear hb1 hb2 hbS hcS hS1 HS1 HLR HRf0 HG0 HV0 hlv hld hH1 hfe hV1 hE1
        have hdS : ∀ x ∈ S1, okdot x.r x.n = true := fun x hx => okev_dot (HB1.out.ok x hx)
        have hrel0 : Hid (∃ T M u c1, Ro w g B S1 v T M u c1 (.slice none 0 0) wS) := ⟨[], S1, v, cS, Ref.start hv, hf, fun _ h => h, HB1.out.len, HRS.out, HVS.out, World.ownsRow_nil _ _ _ _, HGS.out⟩
        clear HRS HVS HGS
        go_wp2_with (first | (refine wpList_loadW (ty := 27) (x := .tmp 25) (ad := ⟨g, 0, none⟩) (v := .slice ao L.length kc) rfl rfl rfl hlr ?_))
        go_loopw [7] (fun c7 wr => ∃ T M u c1, Ro w g B S1 v T M u c1 c7 wr) (fun c7 _ => 65 - lenV c7)
        case atStart => exact hrel0.out
        case round =>
          clear hrel0
          obtain ⟨T, M, u, c1, hRo⟩ := hrel
          have hu16 : u.length = 16 := hRo.ref.len
          have hwM : ∀ x ∈ M, Wide x := fun x hx => HW1.out x (hRo.sub x hx)
          obtain ⟨am, km, hcm, hEm⟩ := hRo.rf.val hwM
          have hT64 : T.length ≤ 64 := Nat.le_trans hRo.ref.tl HB1.out.len
          obtain ⟨n, hn⟩ : ∃ n, M.length = n := ⟨_, rfl⟩
          rw [hn] at hcm hEm
          have hn64 : n ≤ 64 := by rw [← hn]; exact hRo.len
          have HRo : Hid _ := hRo
          have HEm : Hid (Evs wr am n km M) := hEm
          have hlr := load_rl hRo.rf.blk ⟨am, n, km, hcm⟩
          rw [hcm] at hlr
          have hlr' : ∀ W, Below wr.heap.size wr W → (loadVar 27 ⟨g, 0, none⟩).run Try.prog W = .ok (.slice am n km) W := fun W hb => by
            have h1 := (HRo.out.rf.below hb).blk
            rw [hcm] at h1
            exact load_rl h1 ⟨am, n, km, rfl⟩
          have HLR2 : Hid _ := hlr'
          obtain ⟨aT, cT, hvT, -⟩ := hRo.row.evs (fun x hx => HW1.out x (hRo.told x hx))
          have HvT : Hid (u7 = .slice aT T.length cT) := hvT
          clear hvT
          obtain ⟨W, hW⟩ : ∃ W, wr = W := ⟨_, rfl⟩
          rw [hW] at HRo HEm HLR2 hlr
          have hBW1 : B + 2 ≤ W.heap.size := by rw [← hW]; have := hRo.vec.lt; omega
          have hrel2 : Hid (∃ i : Nat, i ≤ n ∧ Value.int .i64 0 = .int .i64 (i : Int) ∧ Kp W (.slice none 0 0) ((M.take i).filter fun x => !hasv u x.r x.n) W) := ⟨0, Nat.zero_le _, rfl, Below.refl _ _, World.ownsRow_nil _ _ _ _⟩
          clear hRo hEm hlr' hcm
          rw [hW]
          go_wp2_with (first | (refine wpList_loadR (ty := 27) (x := .tmp 35) (ad := ⟨g, 0, none⟩) (v := .slice am n km) rfl rfl rfl hlr ?_))
          clear hlr
          go_loopw [8, 38] (fun c8 c38 wz => ∃ i : Nat, i ≤ n ∧ c38 = .int .i64 (i : Int) ∧ Kp W c8 ((M.take i).filter fun x => !hasv u x.r x.n) wz) (fun _ c38 _ => n - (intOf c38).toNat)
          case atStart => exact hrel2.out
          case round =>
            clear hrel2
            obtain ⟨i, hi, rfl, hKp⟩ := hrel
            have hfl : ((M.take i).filter fun x => !hasv u x.r x.n).length ≤ 64 := Nat.le_trans (List.length_filter_le _ _) (by rw [List.length_take]; omega)
            by_cases hlt : i < n
            · have hlt' : (i : Int) < (n : Int) := by omega
              obtain ⟨b, off, x, hao, hxi, hwx, hrg, hbl⟩ := HEm.out.at hlt
              subst hao
              have hx16 := hwx.1
              have HKp : Hid _ := hKp
              have hBd : Below W.heap.size W wr.drew := hKp.below.drew
              have hix := fun W : World => index_ev W (b := b) (off := off) (c := km) hlt
              have hHx := fun W : World => rhas_any u x.r x.n hu16 W
              have HKd : Hid (Kp W u8 ((M.take i).filter fun x => !hasv u x.r x.n) wr.drew) := hKp.next (Below.refl _ _).drew
              have hft := filter_take (p := fun x => !hasv u x.r x.n) hxi
              clear hKp
              cases hhx : hasv u x.r x.n
              · rw [hhx] at hHx hft
                have HFT : Hid ((M.take (i + 1)).filter (fun x => !hasv u x.r x.n) = (M.take i).filter (fun x => !hasv u x.r x.n) ++ [x]) := hft
                clear hft
                obtain ⟨F, hF⟩ : ∃ F, (M.take i).filter (fun x => !hasv u x.r x.n) = F := ⟨_, rfl⟩
                rw [hF] at HFT HKd hfl HKp
                clear hF
                go_upto_region 8 with fail
                refine wp_region_noPanic ?_
                refine wp_region_held_drew (S := fun W' : World => Below W.heap.size W W') (by kernel_rfl) hBd (fun hHeld => ?_)
                refine wpAnyH_take (i := 0) (oi := { dst := some 41, op := _, type := _, pos := _, after := _, guard := _ }) (v := .agg (vals u)) rfl (by kernel_rfl) (by kernel_rfl) (by kernel_rfl) (fun _ _ _ h => h) (Or.inl ⟨by rfl, ?_⟩) (by assumption) ?_
                · intro w9 hSw
                  exact y_load rfl rfl (load_v (HRo.out.vec.below hSw HRo.out.vec.lt) hu16)
                simp only [Act.put, List.setIfInBounds_toArray, List.set_cons_zero, List.set_cons_succ]
                refine wpAnyH_take (i := 1) (oi := { dst := some 42, op := _, type := _, pos := _, after := _, guard := _ }) (v := .pointer (some ⟨g, 0, none⟩)) rfl (by kernel_rfl) (by kernel_rfl) (by kernel_rfl) (fun _ _ _ h => h) (Or.inl ⟨by rfl, ?_⟩) (by assumption) ?_
                · intro w9 hSw
                  exact y_move rfl rfl
                simp only [Act.put, List.setIfInBounds_toArray, List.set_cons_zero, List.set_cons_succ]
                refine wpAnyH_take (i := 2) (oi := { dst := some 43, op := _, type := _, pos := _, after := _, guard := _ }) (v := .pointer (some ⟨g, 0, none⟩)) rfl (by kernel_rfl) (by kernel_rfl) (by kernel_rfl) (fun _ _ _ h => h) (Or.inl ⟨by rfl, ?_⟩) (by assumption) ?_
                · intro w9 hSw
                  exact y_nil rfl rfl
                simp only [Act.put, List.setIfInBounds_toArray, List.set_cons_zero, List.set_cons_succ]
                refine wpAnyH_take (i := 3) (oi := { dst := some 44, op := _, type := _, pos := _, after := _, guard := _ }) (v := .pointer (some ⟨g, 0, none⟩)) rfl (by kernel_rfl) (by kernel_rfl) (by kernel_rfl) (fun _ _ _ h => h) (Or.inl ⟨by rfl, ?_⟩) (by assumption) ?_
                · intro w9 hSw
                  exact y_field rfl rfl (field_r _ _)
                simp only [Act.put, List.setIfInBounds_toArray, List.set_cons_zero, List.set_cons_succ]
                refine wpAnyH_take (i := 4) (oi := { dst := some 45, op := _, type := _, pos := _, after := _, guard := _ }) (v := .slice (some ⟨b, off, none⟩) n km) rfl (by kernel_rfl) (by kernel_rfl) (by kernel_rfl) (fun _ _ _ h => h) (Or.inl ⟨by rfl, ?_⟩) (by assumption) ?_
                · intro w9 hSw
                  exact y_load rfl rfl (HLR2.out _ hSw)
                simp only [Act.put, List.setIfInBounds_toArray, List.set_cons_zero, List.set_cons_succ]
                refine wpAnyH_take (i := 5) (oi := { dst := some 46, op := _, type := _, pos := _, after := _, guard := _ }) (v := .int .i64 (i : Int)) rfl (by kernel_rfl) (by kernel_rfl) (by kernel_rfl) (fun _ _ _ h => h) (Or.inl ⟨by rfl, ?_⟩) (by assumption) ?_
                · intro w9 hSw
                  exact y_move rfl rfl
                simp only [Act.put, List.setIfInBounds_toArray, List.set_cons_zero, List.set_cons_succ]
                refine wpAnyH_take (i := 6) (oi := { dst := some 47, op := _, type := _, pos := _, after := _, guard := _ }) (v := .pointer (some ⟨b, off + i * 26, none⟩)) rfl (by kernel_rfl) (by kernel_rfl) (by kernel_rfl) (fun _ _ _ h => h) (Or.inl ⟨by rfl, ?_⟩) (by assumption) ?_
                · intro w9 hSw
                  exact y_index rfl rfl rfl (hix _)
                simp only [Act.put, List.setIfInBounds_toArray, List.set_cons_zero, List.set_cons_succ]
                refine wpAnyH_take (i := 7) (oi := { dst := some 48, op := _, type := _, pos := _, after := _, guard := _ }) (v := .pointer (some ⟨b, off + i * 26, none⟩)) rfl (by kernel_rfl) (by kernel_rfl) (by kernel_rfl) (fun _ _ _ h => h) (Or.inl ⟨by rfl, ?_⟩) (by assumption) ?_
                · intro w9 hSw
                  exact y_field rfl rfl (field_em0 _ _ _)
                simp only [Act.put, List.setIfInBounds_toArray, List.set_cons_zero, List.set_cons_succ]
                refine wpAnyH_take (i := 8) (oi := { dst := some 49, op := _, type := _, pos := _, after := _, guard := _ }) (v := .agg (dotc x.r x.n)) rfl (by kernel_rfl) (by kernel_rfl) (by kernel_rfl) (fun _ _ _ h => h) (Or.inl ⟨by rfl, ?_⟩) (by assumption) ?_
                · intro w9 hSw
                  exact y_load rfl rfl (load_dtm (range_below hrg hSw hbl))
                simp only [Act.put, List.setIfInBounds_toArray, List.set_cons_zero, List.set_cons_succ]
                clear hHeld
                refine wpAnyH_ready (rs := [9]) (by kernel_rfl) (by simp) ?_
                refine AllReadyH.cons (o := { dst := some 50, op := _, type := _, pos := _, after := _, guard := _ }) rfl (fun K hK => ?_) AllReadyH.nil
                rw [if_pos (by rfl)]
                refine y_call (f := 22) (xs := [.tmp 41, .tmp 49]) (vs := [.agg (vals u), .agg (dotc x.r x.n)]) rfl rfl (enters_rhas _ _) (hHx _) ?_
                rintro ex wA ⟨rfl, hbA⟩
                refine ⟨_, rfl, ?_⟩
                have HKA : Hid (Kp W u8 F wA) := HKd.out.next hbA
                refine hK.out _ _ HKA.out.below (fun hHeld => ?_)
                clear hK K
                simp only [Act.put, List.setIfInBounds_toArray, List.set_cons_zero, List.set_cons_succ]
                refine wpAnyH_take (i := 10) (oi := { dst := some 51, op := _, type := _, pos := _, after := _, guard := _ }) (v := .bool true) rfl (by kernel_rfl) (by kernel_rfl) (by kernel_rfl) (fun _ _ _ h => h) (Or.inl ⟨by rfl, ?_⟩) (by assumption) ?_
                · intro w9 hSw
                  exact y_not rfl rfl rfl
                simp only [Act.put, List.setIfInBounds_toArray, List.set_cons_zero, List.set_cons_succ]
                refine wpAnyH_done (by kernel_rfl) ?_ _
                refine NoPanic.normal ?_
                clear hHeld
                have hEwB := range_below hrg HKA.out.below hbl
                have hrowwB : Row (wA.alloc (.cells (evc x) 44)) W.heap.size u8 (F) := HKA.out.row.below ((Below.refl _ _).alloc (Nat.le_refl _) _) (Nat.le_refl _)
                have hFwB : Evs (wA.alloc (.cells (evc x) 44)) (some ⟨wA.heap.size, 0, none⟩) 1 1 [x] := evs_single _ _ x hwx (liesE_new wA x)
                have hlewB : W.heap.size ≤ (wA.alloc (.cells (evc x) 44)).heap.size := by have := HKA.out.below.size; rw [World.size_alloc]; omega
                have hllwB : (F).length + 1 ≤ 1048576 := by simp; omega
                have hlrwB := HLR2.out wA HKA.out.below
                have HKxwB : Hid (Kp W u8 (F) (wA.alloc (.cells (evc x) 44))) := HKA.out.next ((Below.refl _ _).alloc (Nat.le_refl _) _)
                go_wp2_with (first | (refine wpList_loadR (ty := 27) (x := .tmp 55) (ad := ⟨g, 0, none⟩) (v := .slice (some ⟨b, off, none⟩) n km) rfl rfl rfl hlrwB ?_) | refine load_ev_mid rfl rfl rfl hEwB hx16 ?_ | refine build_ev1 rfl rfl rfl hx16 ?_ | refine wpList_appE rfl _ _ rfl W.heap.size _ (F) rfl hrowwB _ 1 1 [x] rfl hFwB hllwB hlewB ?_)
                intro vB wB hrwB hgwB hnwB
                have HKB : Hid (Kp W vB (F ++ [x]) wB) := HKxwB.out.app hrwB hgwB
                clear hrwB hgwB hnwB hrowwB hFwB HKxwB hEwB
                go_wp2
                go_roundw
                case rel => exact ⟨i + 1, by omega, by go_num, by rw [HFT.out]; exact HKB.out⟩
                case measure => simp [intOf]; omega
              · rw [hhx] at hHx hft
                have HFT : Hid ((M.take (i + 1)).filter (fun x => !hasv u x.r x.n) = (M.take i).filter (fun x => !hasv u x.r x.n)) := by
                  show _ = _
                  rw [hft]
                  simp
                clear hft
                obtain ⟨F, hF⟩ : ∃ F, (M.take i).filter (fun x => !hasv u x.r x.n) = F := ⟨_, rfl⟩
                rw [hF] at HFT HKd hfl HKp
                clear hF
                go_upto_region 8 with fail
                refine wp_region_noPanic ?_
                refine wp_region_held_drew (S := fun W' : World => Below W.heap.size W W') (by kernel_rfl) hBd (fun hHeld => ?_)
                refine wpAnyH_take (i := 0) (oi := { dst := some 41, op := _, type := _, pos := _, after := _, guard := _ }) (v := .agg (vals u)) rfl (by kernel_rfl) (by kernel_rfl) (by kernel_rfl) (fun _ _ _ h => h) (Or.inl ⟨by rfl, ?_⟩) (by assumption) ?_
                · intro w9 hSw
                  exact y_load rfl rfl (load_v (HRo.out.vec.below hSw HRo.out.vec.lt) hu16)
                simp only [Act.put, List.setIfInBounds_toArray, List.set_cons_zero, List.set_cons_succ]
                refine wpAnyH_take (i := 1) (oi := { dst := some 42, op := _, type := _, pos := _, after := _, guard := _ }) (v := .pointer (some ⟨g, 0, none⟩)) rfl (by kernel_rfl) (by kernel_rfl) (by kernel_rfl) (fun _ _ _ h => h) (Or.inl ⟨by rfl, ?_⟩) (by assumption) ?_
                · intro w9 hSw
                  exact y_move rfl rfl
                simp only [Act.put, List.setIfInBounds_toArray, List.set_cons_zero, List.set_cons_succ]
                refine wpAnyH_take (i := 2) (oi := { dst := some 43, op := _, type := _, pos := _, after := _, guard := _ }) (v := .pointer (some ⟨g, 0, none⟩)) rfl (by kernel_rfl) (by kernel_rfl) (by kernel_rfl) (fun _ _ _ h => h) (Or.inl ⟨by rfl, ?_⟩) (by assumption) ?_
                · intro w9 hSw
                  exact y_nil rfl rfl
                simp only [Act.put, List.setIfInBounds_toArray, List.set_cons_zero, List.set_cons_succ]
                refine wpAnyH_take (i := 3) (oi := { dst := some 44, op := _, type := _, pos := _, after := _, guard := _ }) (v := .pointer (some ⟨g, 0, none⟩)) rfl (by kernel_rfl) (by kernel_rfl) (by kernel_rfl) (fun _ _ _ h => h) (Or.inl ⟨by rfl, ?_⟩) (by assumption) ?_
                · intro w9 hSw
                  exact y_field rfl rfl (field_r _ _)
                simp only [Act.put, List.setIfInBounds_toArray, List.set_cons_zero, List.set_cons_succ]
                refine wpAnyH_take (i := 4) (oi := { dst := some 45, op := _, type := _, pos := _, after := _, guard := _ }) (v := .slice (some ⟨b, off, none⟩) n km) rfl (by kernel_rfl) (by kernel_rfl) (by kernel_rfl) (fun _ _ _ h => h) (Or.inl ⟨by rfl, ?_⟩) (by assumption) ?_
                · intro w9 hSw
                  exact y_load rfl rfl (HLR2.out _ hSw)
                simp only [Act.put, List.setIfInBounds_toArray, List.set_cons_zero, List.set_cons_succ]
                refine wpAnyH_take (i := 5) (oi := { dst := some 46, op := _, type := _, pos := _, after := _, guard := _ }) (v := .int .i64 (i : Int)) rfl (by kernel_rfl) (by kernel_rfl) (by kernel_rfl) (fun _ _ _ h => h) (Or.inl ⟨by rfl, ?_⟩) (by assumption) ?_
                · intro w9 hSw
                  exact y_move rfl rfl
                simp only [Act.put, List.setIfInBounds_toArray, List.set_cons_zero, List.set_cons_succ]
                refine wpAnyH_take (i := 6) (oi := { dst := some 47, op := _, type := _, pos := _, after := _, guard := _ }) (v := .pointer (some ⟨b, off + i * 26, none⟩)) rfl (by kernel_rfl) (by kernel_rfl) (by kernel_rfl) (fun _ _ _ h => h) (Or.inl ⟨by rfl, ?_⟩) (by assumption) ?_
                · intro w9 hSw
                  exact y_index rfl rfl rfl (hix _)
                simp only [Act.put, List.setIfInBounds_toArray, List.set_cons_zero, List.set_cons_succ]
                refine wpAnyH_take (i := 7) (oi := { dst := some 48, op := _, type := _, pos := _, after := _, guard := _ }) (v := .pointer (some ⟨b, off + i * 26, none⟩)) rfl (by kernel_rfl) (by kernel_rfl) (by kernel_rfl) (fun _ _ _ h => h) (Or.inl ⟨by rfl, ?_⟩) (by assumption) ?_
                · intro w9 hSw
                  exact y_field rfl rfl (field_em0 _ _ _)
                simp only [Act.put, List.setIfInBounds_toArray, List.set_cons_zero, List.set_cons_succ]
                refine wpAnyH_take (i := 8) (oi := { dst := some 49, op := _, type := _, pos := _, after := _, guard := _ }) (v := .agg (dotc x.r x.n)) rfl (by kernel_rfl) (by kernel_rfl) (by kernel_rfl) (fun _ _ _ h => h) (Or.inl ⟨by rfl, ?_⟩) (by assumption) ?_
                · intro w9 hSw
                  exact y_load rfl rfl (load_dtm (range_below hrg hSw hbl))
                simp only [Act.put, List.setIfInBounds_toArray, List.set_cons_zero, List.set_cons_succ]
                clear hHeld
                refine wpAnyH_ready (rs := [9]) (by kernel_rfl) (by simp) ?_
                refine AllReadyH.cons (o := { dst := some 50, op := _, type := _, pos := _, after := _, guard := _ }) rfl (fun K hK => ?_) AllReadyH.nil
                rw [if_pos (by rfl)]
                refine y_call (f := 22) (xs := [.tmp 41, .tmp 49]) (vs := [.agg (vals u), .agg (dotc x.r x.n)]) rfl rfl (enters_rhas _ _) (hHx _) ?_
                rintro ex wA ⟨rfl, hbA⟩
                refine ⟨_, rfl, ?_⟩
                have HKA : Hid (Kp W u8 F wA) := HKd.out.next hbA
                refine hK.out _ _ HKA.out.below (fun hHeld => ?_)
                clear hK K
                simp only [Act.put, List.setIfInBounds_toArray, List.set_cons_zero, List.set_cons_succ]
                refine wpAnyH_take (i := 10) (oi := { dst := some 51, op := _, type := _, pos := _, after := _, guard := _ }) (v := .bool false) rfl (by kernel_rfl) (by kernel_rfl) (by kernel_rfl) (fun _ _ _ h => h) (Or.inl ⟨by rfl, ?_⟩) (by assumption) ?_
                · intro w9 hSw
                  exact y_not rfl rfl rfl
                simp only [Act.put, List.setIfInBounds_toArray, List.set_cons_zero, List.set_cons_succ]
                refine wpAnyH_done (by kernel_rfl) ?_ _
                refine NoPanic.normal ?_
                clear hHeld
                go_wp2
                go_roundw
                case rel => exact ⟨i + 1, by omega, by go_num, by rw [HFT.out]; exact HKA.out⟩
                case measure => simp [intOf]; omega
            · have hlt' : ¬ (i : Int) < (n : Int) := by omega
              obtain ⟨F, hF⟩ : ∃ F, M.filter (fun x => !hasv u x.r x.n) = F := ⟨_, rfl⟩
              rw [List.take_of_length_le (by omega), hF] at hKp hfl
              have HF : Hid _ := hF
              have hFS : ∀ x ∈ F, x ∈ S1 := fun x hx => HRo.out.sub x (by rw [← hF] at hx; exact (List.mem_filter.1 hx).1)
              have hwF : ∀ x ∈ F, Wide x := fun x hx => HW1.out x (hFS x hx)
              obtain ⟨aF, cF, hvF, hEF⟩ := hKp.row.evs hwF
              have FIN := keep_store (base := W.heap.size) (v := u8) (HRo.out.rf.below hKp.below) hKp.row (by have := hBW1; omega)
              have hoB : ∀ k, k ≠ g → (wr.setCell ⟨g, 0, none⟩ u8).heap[k]? = wr.heap[k]? := fun k hk => Below.heap_setCell _ _ _ k hk
              have HV7 : Hid (Lies (wr.setCell ⟨g, 0, none⟩ u8) (B + 1) u) := (hoB (B + 1) (by omega)).trans (HRo.out.vec.below hKp.below HRo.out.vec.lt)
              have HT7 : Hid (Row (wr.setCell ⟨g, 0, none⟩ u8) (B + 2) u7 T) := keepR (HRo.out.row.below hKp.below (Nat.le_refl _)) fun k hk => hoB k (by have := Row.own HRo.out.row k hk; omega)
              have HG7 : Hid (w.grownBy (wr.setCell ⟨g, 0, none⟩ u8) (some g)) := grown_tr (grown_tr HRo.out.grown (grown_below' hKp.below _)) FIN.2.2
              have HR7 : Hid (Rf (wr.setCell ⟨g, 0, none⟩ u8) g u8 F) := FIN.2.1
              have hst := FIN.1
              have HE7 : Hid (Evs (wr.setCell ⟨g, 0, none⟩ u8) aF F.length cF F) := by
                obtain ⟨a', k', h1, h2⟩ := FIN.2.1.val hwF
                rw [hvF] at h1
                simp only [Value.slice.injEq, true_and] at h1
                obtain ⟨rfl, rfl⟩ := h1
                exact h2
              have hapart : ∀ q, u7.ownBlock = some q → u8.ownBlock ≠ some q := fun q hq e1 => by
                have h1 := (World.ownsRow.lt HRo.out.row q hq).2
                have h2 := Row.own hKp.row q e1
                omega
              have hFown : ∀ q, u8.ownBlock = some q → B + 2 ≤ q := fun q e1 => by have h2 := Row.own hKp.row q e1; omega
              have HAP : Hid _ := hapart
              have HFO : Hid _ := hFown
              clear FIN hoB hKp hEF hF hapart hFown
              subst hvF
              have hFl : F.length ≤ 64 := hfl
              go_wp2_with (first | (refine wpList_storeC rfl rfl rfl rfl hst ?_))
              clear hst
              generalize wr.setCell ⟨g, 0, none⟩ (.slice aF F.length cF) = w7 at *
              go_loopw [10, 11] (fun c10 c11 wz => ∃ q : Nat, q ≤ F.length ∧ c11 = .int .i64 ((q : Int) - 1) ∧ c10 = .int .i64 (atQ F u q) ∧ Below w7.heap.size w7 wz) (fun _ c11 _ => ((intOf c11) + 1).toNat)
              case atStart => exact ⟨F.length, Nat.le_refl _, rfl, by rw [atQ_end], Below.refl _ _⟩
              case round =>
                obtain ⟨q, hq, rfl, rfl, hb7⟩ := hrel
                rcases q with _ | q
                · rw [atQ_zero]
                  cases hfi : F.findIdx? (fun e => mayE e u) with
                  | none =>
                    have hiq : idxQ F u = -1 := by unfold idxQ; rw [hfi]
                    rw [hiq]
                    have hst := HRo.out.ref.stop (by rw [HF.out]; exact find_idxQ hfi)
                    have HST : Hid _ := hst
                    have HAL : Hid (F = S1.filter fun x => !hasv u x.r x.n) := HF.out.symm.trans HRo.out.ref.all
                    clear hst hfi hiq
                    go_wp2
                    go_ret
                    obtain ⟨L9, hL9⟩ := HST.out
                    exact ⟨_, T, F, _, u, rfl, ⟨L9, by rw [HSE.out]; exact hL9, by rw [HSE.out]; exact HAL.out⟩, (HT7.out.below hb7 (Nat.le_refl _)).lower (show w.heap.size ≤ B + 2 by omega), HR7.out.below hb7, grown_tr HG7.out (grown_below' hb7 _)⟩
                  | some k =>
                    have hiq : idxQ F u = (k : Int) := by unfold idxQ; rw [hfi]
                    rw [hiq]
                    obtain ⟨hkl, hmk⟩ := idx_someQ hfi
                    obtain ⟨b, off, x, hao, hxk, hwx, hrg, hbl⟩ := HE7.out.at hkl
                    have hx16 := hwx.1
                    have hmay := hmk x hxk
                    have hxS := hFS x (List.mem_of_getElem? hxk)
                    have hdx0 := hdS x hxS
                    obtain ⟨hRef, -, -⟩ := HRo.out.ref.step hdS (e := x) (by rw [HF.out]; exact find_idx hfi hxk)
                    rw [HF.out] at hRef
                    have HRef : Hid _ := hRef
                    have hdx := hdx0
                    simp only [okdot, decide_eq_true_eq] at hdx
                    obtain ⟨r, hr⟩ : ∃ r : Nat, x.r = (r : Int) := ⟨x.r.toNat, by omega⟩
                    have hr16 : r < 16 := by omega
                    have hkl' : (k : Int) < (F.length : Int) := by omega
                    have hk0 : ¬ (k : Int) < 0 := by omega
                    subst hao
                    have hld := load_em (range_below hrg hb7 hbl) hx16
                    have hst := st_ev wr x hx16
                    have hE2 := liesE_new wr x
                    have hb2 : Below wr.heap.size wr (wr.alloc (.cells (evc x) 44)) := (Below.refl _ _).alloc (Nat.le_refl _) _
                    have hb72 : Below w7.heap.size w7 (wr.alloc (.cells (evc x) 44)) := hb7.trans (hb2.mono hb7.size)
                    generalize hW2 : wr.alloc (.cells (evc x) 44) = W2 at *
                    have hF2 : Evs (W2.alloc (.cells (evc x) 44)) (some ⟨W2.heap.size, 0, none⟩) 1 1 [x] := evs_single _ _ x hwx (liesE_new W2 x)
                    have hb73 : Below w7.heap.size w7 (W2.alloc (.cells (evc x) 44)) := hb72.alloc hb72.size _
                    have hrow3 := HT7.out.below hb73 (Nat.le_refl _)
                    have hE3 := hE2.alloc (.cells (evc x) 44)
                    have hle3 : B + 2 ≤ (W2.alloc (.cells (evc x) 44)).heap.size := by have := HV7.out.lt; have := hb73.size; omega
                    have hT1l : T.length + 1 ≤ 1048576 := by omega
                    have hwrE : wr.heap.size < (W2.alloc (.cells (evc x) 44)).heap.size := hE3.lt
                    have hown7 : ∀ q, u7.ownBlock = some q → q < wr.heap.size := fun q hq => Nat.lt_of_lt_of_le (World.ownsRow.lt HT7.out q hq).2 hb7.size
                    clear hRef hfi hiq hmk
                    go_wp2_with (first
                      | (refine wpList_loadR (ty := 44) (x := .tmp 86) (ad := ⟨b, off + k * 26, none⟩) (v := .agg (evc x)) rfl rfl rfl hld ?_)
                      | (refine wpList_storeR (ty := 44) (x := .tmp 12) (y := .tmp 87) (ad := ⟨wr.heap.size, 0, none⟩) (v := .agg (evc x)) (w' := W2) rfl rfl rfl rfl hst ?_)
                      | refine load_ev rfl rfl rfl hE2 hx16 ?_
                      | refine build_ev1 rfl rfl rfl hx16 ?_
                      | refine wpList_appE rfl _ _ rfl (B + 2) _ T rfl hrow3 _ 1 1 [x] rfl hF2 hT1l hle3 ?_)
                    intro vt wt hrt hgt hnt
                    have hEt : LiesE wt wr.heap.size x := by
                      rw [LiesE, hgt.block _ hE3.lt (fun e1 => by have := hown7 _ e1.symm; omega)]; exact hE3
                    have hob : ∀ q, q < B + 2 → q < (W2.alloc (.cells (evc x) 44)).heap.size → wt.heap[q]? = (W2.alloc (.cells (evc x) 44)).heap[q]? := fun q hq hq2 => hgt.block q hq2 (fun e1 => by have := Row.own HT7.out q e1.symm; omega)
                    have hVt : Lies wt (B + 1) u := (hob (B + 1) (by omega) (by omega)).trans (HV7.out.below hb73 HV7.out.lt)
                    have hRt : Rf wt g (.slice (some ⟨b, off, none⟩) F.length cF) F := (HR7.out.below hb73).grow hgt (fun q hq => ⟨by have := Row.own HT7.out q hq; omega, HAP.out q hq⟩)
                    have hGt : w.grownBy wt (some g) := ⟨hgt.os.trans (hb73.os.trans HG7.out.os), hgt.tape.trans (hb73.tape.trans HG7.out.tape), hgt.output.trans (hb73.output.trans HG7.out.output), Nat.le_trans (Nat.le_trans HG7.out.size hb73.size) hgt.size, fun q hq hne => by
                      have h7 : q < w7.heap.size := Nat.lt_of_lt_of_le hq HG7.out.size
                      rw [hob q (by omega) (Nat.lt_of_lt_of_le h7 hb73.size), hb73.block q h7]
                      exact HG7.out.block q hq hne⟩
                    have hc0 : wt.cell? ⟨wr.heap.size, 0, none⟩ = some (.int .i64 (r : Int)) := by rw [hEt.c0, hr]
                    have hc1 := hEt.c1
                    have hcu := hVt.cell (k := r) (by omega)
                    have hfu := hVt.frozen (k := r)
                    have hos : ∀ q, q ≠ B + 1 → (wt.setCell ⟨B + 1, r, none⟩ (.int .i64 x.n)).heap[q]? = wt.heap[q]? := fun q hq => Below.heap_setCell _ _ _ q hq
                    have hgs : wt.grownBy (wt.setCell ⟨B + 1, r, none⟩ (.int .i64 x.n)) (some (B + 1)) := ⟨rfl, rfl, rfl, by simp [World.setCell], fun q _ hq => hos q (fun e1 => hq (by rw [e1]))⟩
                    have HFI : Hid (Ro w g B S1 v (T ++ [x]) F (seeV u x) (.slice (some ⟨b, off, none⟩) F.length cF) vt (wt.setCell ⟨B + 1, r, none⟩ (.int .i64 x.n))) := by
                      refine ⟨HRef.out, HRo.out.fit.see hdx0, hFS, hFl, hRt.grow hgs (fun q hq => ?_), ?_, Row.set hrt (by omega) _, ⟨hGt.os, hGt.tape, hGt.output, by simp [World.setCell]; exact hGt.size, fun q hq hne => (hos q (by omega)).trans (hGt.block q hq hne)⟩⟩
                      · cases hq
                        exact ⟨by omega, fun e1 => by have := HFO.out (B + 1) e1; omega⟩
                      · have := hVt.set (k := r) x.n
                        rw [show seeV u x = u.set r x.n by unfold seeV; rw [hr]; rfl]
                        exact this
                    have hT1 : lenV vt = T.length + 1 := by
                      obtain ⟨a9, c9, h9, -⟩ := hrt.evs (fun y hy => by
                        rcases List.mem_append.1 hy with hy | hy
                        · exact HW1.out y (HRo.out.told y hy)
                        · rw [List.mem_singleton.1 hy]; exact hwx)
                      rw [h9, List.length_append]; rfl
                    have hT0 : lenV u7 = T.length := by rw [HvT.out]; rfl
                    have hjj : (r : Int) < 16 := by omega
                    clear hrt hgt hnt hEt hRt hGt hVt hob hos hgs hrow3 hF2 hE2 hE3 hld hst hb72 hb73
                    go_wp2_with fail
                    go_roundw
                    case rel => exact ⟨T ++ [x], F, seeV u x, _, HFI.out⟩
                    case measure => simp only [lenV] at hT0 hT1 ⊢; simp [hT1, hT0]; omega
                · have hq1 : (((q + 1 : Nat) : Int) - 1) = (q : Int) := by omega
                  rw [hq1]
                  have hql : q < F.length := by omega
                  obtain ⟨b, off, x, hao, hxq, hwx, hrg, hbl⟩ := HE7.out.at hql
                  subst hao
                  have hx16 := hwx.1
                  have hdx0 := hdS x (hFS x (List.mem_of_getElem? hxq))
                  have hql' : (q : Int) < (F.length : Int) := by omega
                  have hix := fun W : World => index_ev W (b := b) (off := off) (c := cF) hql
                  have hMy := fun W : World => rmay_any x u hwx hdx0 hu16 HRo.out.fit W
                  have hBd : Below w7.heap.size w7 wr.drew := hb7.drew
                  have hq64 : q < 64 := by omega
                  cases hmx : mayE x u
                  · rw [hmx] at hMy
                    have HAT : Hid (atQ F u q = atQ F u (q + 1)) := atQ_no hxq hmx
                    go_upto_region 16 with fail
                    refine wp_region_noPanic ?_
                    refine wp_region_held_drew (S := fun W' : World => Below w7.heap.size w7 W') (by kernel_rfl) hBd (fun hHeld => ?_)
                    refine wpAnyH_take (i := 0) (oi := { dst := some 74, op := _, type := _, pos := _, after := _, guard := _ }) (v := .slice (some ⟨b, off, none⟩) F.length cF) rfl (by kernel_rfl) (by kernel_rfl) (by kernel_rfl) (fun _ _ _ h => h) (Or.inl ⟨by rfl, ?_⟩) (by assumption) ?_
                    · intro w9 hSw
                      exact y_move rfl rfl
                    simp only [Act.put, List.setIfInBounds_toArray, List.set_cons_zero, List.set_cons_succ]
                    refine wpAnyH_take (i := 1) (oi := { dst := some 75, op := _, type := _, pos := _, after := _, guard := _ }) (v := .int .i64 (q : Int)) rfl (by kernel_rfl) (by kernel_rfl) (by kernel_rfl) (fun _ _ _ h => h) (Or.inl ⟨by rfl, ?_⟩) (by assumption) ?_
                    · intro w9 hSw
                      exact y_move rfl rfl
                    simp only [Act.put, List.setIfInBounds_toArray, List.set_cons_zero, List.set_cons_succ]
                    refine wpAnyH_take (i := 2) (oi := { dst := some 76, op := _, type := _, pos := _, after := _, guard := _ }) (v := .pointer (some ⟨b, off + q * 26, none⟩)) rfl (by kernel_rfl) (by kernel_rfl) (by kernel_rfl) (fun _ _ _ h => h) (Or.inl ⟨by rfl, ?_⟩) (by assumption) ?_
                    · intro w9 hSw
                      exact y_index rfl rfl rfl (hix _)
                    simp only [Act.put, List.setIfInBounds_toArray, List.set_cons_zero, List.set_cons_succ]
                    refine wpAnyH_take (i := 3) (oi := { dst := some 77, op := _, type := _, pos := _, after := _, guard := _ }) (v := .agg (evc x)) rfl (by kernel_rfl) (by kernel_rfl) (by kernel_rfl) (fun _ _ _ h => h) (Or.inl ⟨by rfl, ?_⟩) (by assumption) ?_
                    · intro w9 hSw
                      exact y_load rfl rfl (load_em (range_below hrg hSw hbl) hx16)
                    simp only [Act.put, List.setIfInBounds_toArray, List.set_cons_zero, List.set_cons_succ]
                    refine wpAnyH_take (i := 4) (oi := { dst := some 78, op := _, type := _, pos := _, after := _, guard := _ }) (v := .agg (vals u)) rfl (by kernel_rfl) (by kernel_rfl) (by kernel_rfl) (fun _ _ _ h => h) (Or.inl ⟨by rfl, ?_⟩) (by assumption) ?_
                    · intro w9 hSw
                      exact y_load rfl rfl (load_v (HV7.out.below hSw HV7.out.lt) hu16)
                    simp only [Act.put, List.setIfInBounds_toArray, List.set_cons_zero, List.set_cons_succ]
                    clear hHeld
                    refine wpAnyH_ready (rs := [5]) (by kernel_rfl) (by simp) ?_
                    refine AllReadyH.cons (o := { dst := some 79, op := _, type := _, pos := _, after := _, guard := _ }) rfl (fun K hK => ?_) AllReadyH.nil
                    rw [if_pos (by rfl)]
                    refine y_call (f := 15) (xs := [.tmp 77, .tmp 78]) (vs := [.agg (evc x), .agg (vals u)]) rfl rfl (enters_rmay _ _) (hMy _) ?_
                    rintro ex wM ⟨rfl, hbm⟩
                    refine ⟨_, rfl, ?_⟩
                    have hbM : Below w7.heap.size w7 wM := hBd.trans (hbm.mono hBd.size)
                    refine hK.out _ _ hbM (fun hHeld => ?_)
                    clear hK K
                    simp only [Act.put, List.setIfInBounds_toArray, List.set_cons_zero, List.set_cons_succ]
                    refine wpAnyH_done (by kernel_rfl) ?_ _
                    refine NoPanic.normal ?_
                    clear hHeld
                    go_wp2
                    go_roundw
                    case rel => exact ⟨q, by omega, by go_num, by rw [HAT.out], hbM⟩
                    case measure => simp [intOf]
                  · rw [hmx] at hMy
                    have HAT : Hid (atQ F u q = (q : Int)) := atQ_yes hxq hmx
                    go_upto_region 16 with fail
                    refine wp_region_noPanic ?_
                    refine wp_region_held_drew (S := fun W' : World => Below w7.heap.size w7 W') (by kernel_rfl) hBd (fun hHeld => ?_)
                    refine wpAnyH_take (i := 0) (oi := { dst := some 74, op := _, type := _, pos := _, after := _, guard := _ }) (v := .slice (some ⟨b, off, none⟩) F.length cF) rfl (by kernel_rfl) (by kernel_rfl) (by kernel_rfl) (fun _ _ _ h => h) (Or.inl ⟨by rfl, ?_⟩) (by assumption) ?_
                    · intro w9 hSw
                      exact y_move rfl rfl
                    simp only [Act.put, List.setIfInBounds_toArray, List.set_cons_zero, List.set_cons_succ]
                    refine wpAnyH_take (i := 1) (oi := { dst := some 75, op := _, type := _, pos := _, after := _, guard := _ }) (v := .int .i64 (q : Int)) rfl (by kernel_rfl) (by kernel_rfl) (by kernel_rfl) (fun _ _ _ h => h) (Or.inl ⟨by rfl, ?_⟩) (by assumption) ?_
                    · intro w9 hSw
                      exact y_move rfl rfl
                    simp only [Act.put, List.setIfInBounds_toArray, List.set_cons_zero, List.set_cons_succ]
                    refine wpAnyH_take (i := 2) (oi := { dst := some 76, op := _, type := _, pos := _, after := _, guard := _ }) (v := .pointer (some ⟨b, off + q * 26, none⟩)) rfl (by kernel_rfl) (by kernel_rfl) (by kernel_rfl) (fun _ _ _ h => h) (Or.inl ⟨by rfl, ?_⟩) (by assumption) ?_
                    · intro w9 hSw
                      exact y_index rfl rfl rfl (hix _)
                    simp only [Act.put, List.setIfInBounds_toArray, List.set_cons_zero, List.set_cons_succ]
                    refine wpAnyH_take (i := 3) (oi := { dst := some 77, op := _, type := _, pos := _, after := _, guard := _ }) (v := .agg (evc x)) rfl (by kernel_rfl) (by kernel_rfl) (by kernel_rfl) (fun _ _ _ h => h) (Or.inl ⟨by rfl, ?_⟩) (by assumption) ?_
                    · intro w9 hSw
                      exact y_load rfl rfl (load_em (range_below hrg hSw hbl) hx16)
                    simp only [Act.put, List.setIfInBounds_toArray, List.set_cons_zero, List.set_cons_succ]
                    refine wpAnyH_take (i := 4) (oi := { dst := some 78, op := _, type := _, pos := _, after := _, guard := _ }) (v := .agg (vals u)) rfl (by kernel_rfl) (by kernel_rfl) (by kernel_rfl) (fun _ _ _ h => h) (Or.inl ⟨by rfl, ?_⟩) (by assumption) ?_
                    · intro w9 hSw
                      exact y_load rfl rfl (load_v (HV7.out.below hSw HV7.out.lt) hu16)
                    simp only [Act.put, List.setIfInBounds_toArray, List.set_cons_zero, List.set_cons_succ]
                    clear hHeld
                    refine wpAnyH_ready (rs := [5]) (by kernel_rfl) (by simp) ?_
                    refine AllReadyH.cons (o := { dst := some 79, op := _, type := _, pos := _, after := _, guard := _ }) rfl (fun K hK => ?_) AllReadyH.nil
                    rw [if_pos (by rfl)]
                    refine y_call (f := 15) (xs := [.tmp 77, .tmp 78]) (vs := [.agg (evc x), .agg (vals u)]) rfl rfl (enters_rmay _ _) (hMy _) ?_
                    rintro ex wM ⟨rfl, hbm⟩
                    refine ⟨_, rfl, ?_⟩
                    have hbM : Below w7.heap.size w7 wM := hBd.trans (hbm.mono hBd.size)
                    refine hK.out _ _ hbM (fun hHeld => ?_)
                    clear hK K
                    simp only [Act.put, List.setIfInBounds_toArray, List.set_cons_zero, List.set_cons_succ]
                    refine wpAnyH_done (by kernel_rfl) ?_ _
                    refine NoPanic.normal ?_
                    clear hHeld
                    go_wp2
                    go_roundw
                    case rel => exact ⟨q, by omega, by go_num, by rw [HAT.out], hbM⟩
                    case measure => simp [intOf]
    · have HS1 : Hid (offS L e v = L) := cond_no (by unfold condE; rw [hok, hhs]; rfl)
      go_enter Try.func12, Try.ntmps12
      go_wp2_with (first | refine load_ev rfl rfl rfl hE0' he16 ?_)
      refine Calls.mono hRi ?_
      rintro ex w1 ⟨rfl, hb1⟩
      have hV1 := HV0.out.below hb1 HV0.out.lt
      have hlv := load_v hV1 hv
      have hE1 := HE0.out.below hb1 HE0.out.lt
      have hld := hE1.dotAt
      have hH1 := hHa w1
      rw [hhs] at hH1
      have hfe := field_ev0 w1 B
      clear hRi hE0'
      go_wp2_with (first
        | (refine wpList_loadW (ty := 40) (x := .tmp 5) (ad := ⟨B + 1, 0, none⟩) (v := .agg (vals v)) rfl rfl rfl hlv ?_)
        | (refine wpList_loadW (ty := 38) (x := .tmp 17) (ad := ⟨B, 0, none⟩) (v := .agg (dotc e.r e.n)) rfl rfl rfl hld ?_))
      refine Calls.mono hH1 ?_
      rintro ex wS ⟨rfl, hb2⟩
      have hbS : Below W0.heap.size W0 wS := hb1.trans (hb2.mono hb1.size)
      have HRS : Hid (Rf wS g c L) := HRf0.out.below hbS
      have HVS : Hid (Lies wS (B + 1) v) := HV0.out.below hbS HV0.out.lt
      have HGS : Hid (w.grownBy wS (some g)) := grown_tr HG0.out (grown_below' hbS _)
      have hszS : B + 2 ≤ wS.heap.size := Nat.le_trans hB2 hbS.size
      obtain ⟨cS, hcS⟩ : ∃ cS, c = cS := ⟨_, rfl⟩
      obtain ⟨S1, hS1⟩ : ∃ S1, offS L e v = S1 := ⟨_, rfl⟩
      have HRS : Hid (Rf wS g cS S1) := by rw [← hS1, HS1.out, ← hcS]; exact HRS.out
      have HB1 : Hid (Buf S1) := by rw [← hS1]; exact HBO.out
      have HW1 : Hid (∀ x ∈ S1, Wide x) := by rw [← hS1]; exact HWO.out
      have HSE : Hid (offS L e v = S1) := hS1
      clear hb1 hb2 hbS hcS hS1 HS1 HLR HRf0 HG0 HV0 hlv hld hH1 hfe hV1 hE1
      have hdS : ∀ x ∈ S1, okdot x.r x.n = true := fun x hx => okev_dot (HB1.out.ok x hx)
      have hrel0 : Hid (∃ T M u c1, Ro w g B S1 v T M u c1 (.slice none 0 0) wS) := ⟨[], S1, v, cS, Ref.start hv, hf, fun _ h => h, HB1.out.len, HRS.out, HVS.out, World.ownsRow_nil _ _ _ _, HGS.out⟩
      clear HRS HVS HGS
      go_wp2_with fail
      go_loopw [7] (fun c7 wr => ∃ T M u c1, Ro w g B S1 v T M u c1 c7 wr) (fun c7 _ => 65 - lenV c7)
      case atStart => exact hrel0.out
      case round =>
        clear hrel0
        obtain ⟨T, M, u, c1, hRo⟩ := hrel
        have hu16 : u.length = 16 := hRo.ref.len
        have hwM : ∀ x ∈ M, Wide x := fun x hx => HW1.out x (hRo.sub x hx)
        obtain ⟨am, km, hcm, hEm⟩ := hRo.rf.val hwM
        have hT64 : T.length ≤ 64 := Nat.le_trans hRo.ref.tl HB1.out.len
        obtain ⟨n, hn⟩ : ∃ n, M.length = n := ⟨_, rfl⟩
        rw [hn] at hcm hEm
        have hn64 : n ≤ 64 := by rw [← hn]; exact hRo.len
        have HRo : Hid _ := hRo
        have HEm : Hid (Evs wr am n km M) := hEm
        have hlr := load_rl hRo.rf.blk ⟨am, n, km, hcm⟩
        rw [hcm] at hlr
        have hlr' : ∀ W, Below wr.heap.size wr W → (loadVar 27 ⟨g, 0, none⟩).run Try.prog W = .ok (.slice am n km) W := fun W hb => by
          have h1 := (HRo.out.rf.below hb).blk
          rw [hcm] at h1
          exact load_rl h1 ⟨am, n, km, rfl⟩
        have HLR2 : Hid _ := hlr'
        obtain ⟨aT, cT, hvT, -⟩ := hRo.row.evs (fun x hx => HW1.out x (hRo.told x hx))
        have HvT : Hid (u7 = .slice aT T.length cT) := hvT
        clear hvT
        obtain ⟨W, hW⟩ : ∃ W, wr = W := ⟨_, rfl⟩
        rw [hW] at HRo HEm HLR2 hlr
        have hBW1 : B + 2 ≤ W.heap.size := by rw [← hW]; have := hRo.vec.lt; omega
        have hrel2 : Hid (∃ i : Nat, i ≤ n ∧ Value.int .i64 0 = .int .i64 (i : Int) ∧ Kp W (.slice none 0 0) ((M.take i).filter fun x => !hasv u x.r x.n) W) := ⟨0, Nat.zero_le _, rfl, Below.refl _ _, World.ownsRow_nil _ _ _ _⟩
        clear hRo hEm hlr' hcm
        rw [hW]
        go_wp2_with (first | (refine wpList_loadR (ty := 27) (x := .tmp 35) (ad := ⟨g, 0, none⟩) (v := .slice am n km) rfl rfl rfl hlr ?_))
        clear hlr
        go_loopw [8, 38] (fun c8 c38 wz => ∃ i : Nat, i ≤ n ∧ c38 = .int .i64 (i : Int) ∧ Kp W c8 ((M.take i).filter fun x => !hasv u x.r x.n) wz) (fun _ c38 _ => n - (intOf c38).toNat)
        case atStart => exact hrel2.out
        case round =>
          clear hrel2
          obtain ⟨i, hi, rfl, hKp⟩ := hrel
          have hfl : ((M.take i).filter fun x => !hasv u x.r x.n).length ≤ 64 := Nat.le_trans (List.length_filter_le _ _) (by rw [List.length_take]; omega)
          by_cases hlt : i < n
          · have hlt' : (i : Int) < (n : Int) := by omega
            obtain ⟨b, off, x, hao, hxi, hwx, hrg, hbl⟩ := HEm.out.at hlt
            subst hao
            have hx16 := hwx.1
            have HKp : Hid _ := hKp
            have hBd : Below W.heap.size W wr.drew := hKp.below.drew
            have hix := fun W : World => index_ev W (b := b) (off := off) (c := km) hlt
            have hHx := fun W : World => rhas_any u x.r x.n hu16 W
            have HKd : Hid (Kp W u8 ((M.take i).filter fun x => !hasv u x.r x.n) wr.drew) := hKp.next (Below.refl _ _).drew
            have hft := filter_take (p := fun x => !hasv u x.r x.n) hxi
            clear hKp
            cases hhx : hasv u x.r x.n
            · rw [hhx] at hHx hft
              have HFT : Hid ((M.take (i + 1)).filter (fun x => !hasv u x.r x.n) = (M.take i).filter (fun x => !hasv u x.r x.n) ++ [x]) := hft
              clear hft
              obtain ⟨F, hF⟩ : ∃ F, (M.take i).filter (fun x => !hasv u x.r x.n) = F := ⟨_, rfl⟩
              rw [hF] at HFT HKd hfl HKp
              clear hF
              go_upto_region 8 with fail
              refine wp_region_noPanic ?_
              refine wp_region_held_drew (S := fun W' : World => Below W.heap.size W W') (by kernel_rfl) hBd (fun hHeld => ?_)
              refine wpAnyH_take (i := 0) (oi := { dst := some 41, op := _, type := _, pos := _, after := _, guard := _ }) (v := .agg (vals u)) rfl (by kernel_rfl) (by kernel_rfl) (by kernel_rfl) (fun _ _ _ h => h) (Or.inl ⟨by rfl, ?_⟩) (by assumption) ?_
              · intro w9 hSw
                exact y_load rfl rfl (load_v (HRo.out.vec.below hSw HRo.out.vec.lt) hu16)
              simp only [Act.put, List.setIfInBounds_toArray, List.set_cons_zero, List.set_cons_succ]
              refine wpAnyH_take (i := 1) (oi := { dst := some 42, op := _, type := _, pos := _, after := _, guard := _ }) (v := .pointer (some ⟨g, 0, none⟩)) rfl (by kernel_rfl) (by kernel_rfl) (by kernel_rfl) (fun _ _ _ h => h) (Or.inl ⟨by rfl, ?_⟩) (by assumption) ?_
              · intro w9 hSw
                exact y_move rfl rfl
              simp only [Act.put, List.setIfInBounds_toArray, List.set_cons_zero, List.set_cons_succ]
              refine wpAnyH_take (i := 2) (oi := { dst := some 43, op := _, type := _, pos := _, after := _, guard := _ }) (v := .pointer (some ⟨g, 0, none⟩)) rfl (by kernel_rfl) (by kernel_rfl) (by kernel_rfl) (fun _ _ _ h => h) (Or.inl ⟨by rfl, ?_⟩) (by assumption) ?_
              · intro w9 hSw
                exact y_nil rfl rfl
              simp only [Act.put, List.setIfInBounds_toArray, List.set_cons_zero, List.set_cons_succ]
              refine wpAnyH_take (i := 3) (oi := { dst := some 44, op := _, type := _, pos := _, after := _, guard := _ }) (v := .pointer (some ⟨g, 0, none⟩)) rfl (by kernel_rfl) (by kernel_rfl) (by kernel_rfl) (fun _ _ _ h => h) (Or.inl ⟨by rfl, ?_⟩) (by assumption) ?_
              · intro w9 hSw
                exact y_field rfl rfl (field_r _ _)
              simp only [Act.put, List.setIfInBounds_toArray, List.set_cons_zero, List.set_cons_succ]
              refine wpAnyH_take (i := 4) (oi := { dst := some 45, op := _, type := _, pos := _, after := _, guard := _ }) (v := .slice (some ⟨b, off, none⟩) n km) rfl (by kernel_rfl) (by kernel_rfl) (by kernel_rfl) (fun _ _ _ h => h) (Or.inl ⟨by rfl, ?_⟩) (by assumption) ?_
              · intro w9 hSw
                exact y_load rfl rfl (HLR2.out _ hSw)
              simp only [Act.put, List.setIfInBounds_toArray, List.set_cons_zero, List.set_cons_succ]
              refine wpAnyH_take (i := 5) (oi := { dst := some 46, op := _, type := _, pos := _, after := _, guard := _ }) (v := .int .i64 (i : Int)) rfl (by kernel_rfl) (by kernel_rfl) (by kernel_rfl) (fun _ _ _ h => h) (Or.inl ⟨by rfl, ?_⟩) (by assumption) ?_
              · intro w9 hSw
                exact y_move rfl rfl
              simp only [Act.put, List.setIfInBounds_toArray, List.set_cons_zero, List.set_cons_succ]
              refine wpAnyH_take (i := 6) (oi := { dst := some 47, op := _, type := _, pos := _, after := _, guard := _ }) (v := .pointer (some ⟨b, off + i * 26, none⟩)) rfl (by kernel_rfl) (by kernel_rfl) (by kernel_rfl) (fun _ _ _ h => h) (Or.inl ⟨by rfl, ?_⟩) (by assumption) ?_
              · intro w9 hSw
                exact y_index rfl rfl rfl (hix _)
              simp only [Act.put, List.setIfInBounds_toArray, List.set_cons_zero, List.set_cons_succ]
              refine wpAnyH_take (i := 7) (oi := { dst := some 48, op := _, type := _, pos := _, after := _, guard := _ }) (v := .pointer (some ⟨b, off + i * 26, none⟩)) rfl (by kernel_rfl) (by kernel_rfl) (by kernel_rfl) (fun _ _ _ h => h) (Or.inl ⟨by rfl, ?_⟩) (by assumption) ?_
              · intro w9 hSw
                exact y_field rfl rfl (field_em0 _ _ _)
              simp only [Act.put, List.setIfInBounds_toArray, List.set_cons_zero, List.set_cons_succ]
              refine wpAnyH_take (i := 8) (oi := { dst := some 49, op := _, type := _, pos := _, after := _, guard := _ }) (v := .agg (dotc x.r x.n)) rfl (by kernel_rfl) (by kernel_rfl) (by kernel_rfl) (fun _ _ _ h => h) (Or.inl ⟨by rfl, ?_⟩) (by assumption) ?_
              · intro w9 hSw
                exact y_load rfl rfl (load_dtm (range_below hrg hSw hbl))
              simp only [Act.put, List.setIfInBounds_toArray, List.set_cons_zero, List.set_cons_succ]
              clear hHeld
              refine wpAnyH_ready (rs := [9]) (by kernel_rfl) (by simp) ?_
              refine AllReadyH.cons (o := { dst := some 50, op := _, type := _, pos := _, after := _, guard := _ }) rfl (fun K hK => ?_) AllReadyH.nil
              rw [if_pos (by rfl)]
              refine y_call (f := 22) (xs := [.tmp 41, .tmp 49]) (vs := [.agg (vals u), .agg (dotc x.r x.n)]) rfl rfl (enters_rhas _ _) (hHx _) ?_
              rintro ex wA ⟨rfl, hbA⟩
              refine ⟨_, rfl, ?_⟩
              have HKA : Hid (Kp W u8 F wA) := HKd.out.next hbA
              refine hK.out _ _ HKA.out.below (fun hHeld => ?_)
              clear hK K
              simp only [Act.put, List.setIfInBounds_toArray, List.set_cons_zero, List.set_cons_succ]
              refine wpAnyH_take (i := 10) (oi := { dst := some 51, op := _, type := _, pos := _, after := _, guard := _ }) (v := .bool true) rfl (by kernel_rfl) (by kernel_rfl) (by kernel_rfl) (fun _ _ _ h => h) (Or.inl ⟨by rfl, ?_⟩) (by assumption) ?_
              · intro w9 hSw
                exact y_not rfl rfl rfl
              simp only [Act.put, List.setIfInBounds_toArray, List.set_cons_zero, List.set_cons_succ]
              refine wpAnyH_done (by kernel_rfl) ?_ _
              refine NoPanic.normal ?_
              clear hHeld
              have hEwB := range_below hrg HKA.out.below hbl
              have hrowwB : Row (wA.alloc (.cells (evc x) 44)) W.heap.size u8 (F) := HKA.out.row.below ((Below.refl _ _).alloc (Nat.le_refl _) _) (Nat.le_refl _)
              have hFwB : Evs (wA.alloc (.cells (evc x) 44)) (some ⟨wA.heap.size, 0, none⟩) 1 1 [x] := evs_single _ _ x hwx (liesE_new wA x)
              have hlewB : W.heap.size ≤ (wA.alloc (.cells (evc x) 44)).heap.size := by have := HKA.out.below.size; rw [World.size_alloc]; omega
              have hllwB : (F).length + 1 ≤ 1048576 := by simp; omega
              have hlrwB := HLR2.out wA HKA.out.below
              have HKxwB : Hid (Kp W u8 (F) (wA.alloc (.cells (evc x) 44))) := HKA.out.next ((Below.refl _ _).alloc (Nat.le_refl _) _)
              go_wp2_with (first | (refine wpList_loadR (ty := 27) (x := .tmp 55) (ad := ⟨g, 0, none⟩) (v := .slice (some ⟨b, off, none⟩) n km) rfl rfl rfl hlrwB ?_) | refine load_ev_mid rfl rfl rfl hEwB hx16 ?_ | refine build_ev1 rfl rfl rfl hx16 ?_ | refine wpList_appE rfl _ _ rfl W.heap.size _ (F) rfl hrowwB _ 1 1 [x] rfl hFwB hllwB hlewB ?_)
              intro vB wB hrwB hgwB hnwB
              have HKB : Hid (Kp W vB (F ++ [x]) wB) := HKxwB.out.app hrwB hgwB
              clear hrwB hgwB hnwB hrowwB hFwB HKxwB hEwB
              go_wp2
              go_roundw
              case rel => exact ⟨i + 1, by omega, by go_num, by rw [HFT.out]; exact HKB.out⟩
              case measure => simp [intOf]; omega
            · rw [hhx] at hHx hft
              have HFT : Hid ((M.take (i + 1)).filter (fun x => !hasv u x.r x.n) = (M.take i).filter (fun x => !hasv u x.r x.n)) := by
                show _ = _
                rw [hft]
                simp
              clear hft
              obtain ⟨F, hF⟩ : ∃ F, (M.take i).filter (fun x => !hasv u x.r x.n) = F := ⟨_, rfl⟩
              rw [hF] at HFT HKd hfl HKp
              clear hF
              go_upto_region 8 with fail
              refine wp_region_noPanic ?_
              refine wp_region_held_drew (S := fun W' : World => Below W.heap.size W W') (by kernel_rfl) hBd (fun hHeld => ?_)
              refine wpAnyH_take (i := 0) (oi := { dst := some 41, op := _, type := _, pos := _, after := _, guard := _ }) (v := .agg (vals u)) rfl (by kernel_rfl) (by kernel_rfl) (by kernel_rfl) (fun _ _ _ h => h) (Or.inl ⟨by rfl, ?_⟩) (by assumption) ?_
              · intro w9 hSw
                exact y_load rfl rfl (load_v (HRo.out.vec.below hSw HRo.out.vec.lt) hu16)
              simp only [Act.put, List.setIfInBounds_toArray, List.set_cons_zero, List.set_cons_succ]
              refine wpAnyH_take (i := 1) (oi := { dst := some 42, op := _, type := _, pos := _, after := _, guard := _ }) (v := .pointer (some ⟨g, 0, none⟩)) rfl (by kernel_rfl) (by kernel_rfl) (by kernel_rfl) (fun _ _ _ h => h) (Or.inl ⟨by rfl, ?_⟩) (by assumption) ?_
              · intro w9 hSw
                exact y_move rfl rfl
              simp only [Act.put, List.setIfInBounds_toArray, List.set_cons_zero, List.set_cons_succ]
              refine wpAnyH_take (i := 2) (oi := { dst := some 43, op := _, type := _, pos := _, after := _, guard := _ }) (v := .pointer (some ⟨g, 0, none⟩)) rfl (by kernel_rfl) (by kernel_rfl) (by kernel_rfl) (fun _ _ _ h => h) (Or.inl ⟨by rfl, ?_⟩) (by assumption) ?_
              · intro w9 hSw
                exact y_nil rfl rfl
              simp only [Act.put, List.setIfInBounds_toArray, List.set_cons_zero, List.set_cons_succ]
              refine wpAnyH_take (i := 3) (oi := { dst := some 44, op := _, type := _, pos := _, after := _, guard := _ }) (v := .pointer (some ⟨g, 0, none⟩)) rfl (by kernel_rfl) (by kernel_rfl) (by kernel_rfl) (fun _ _ _ h => h) (Or.inl ⟨by rfl, ?_⟩) (by assumption) ?_
              · intro w9 hSw
                exact y_field rfl rfl (field_r _ _)
              simp only [Act.put, List.setIfInBounds_toArray, List.set_cons_zero, List.set_cons_succ]
              refine wpAnyH_take (i := 4) (oi := { dst := some 45, op := _, type := _, pos := _, after := _, guard := _ }) (v := .slice (some ⟨b, off, none⟩) n km) rfl (by kernel_rfl) (by kernel_rfl) (by kernel_rfl) (fun _ _ _ h => h) (Or.inl ⟨by rfl, ?_⟩) (by assumption) ?_
              · intro w9 hSw
                exact y_load rfl rfl (HLR2.out _ hSw)
              simp only [Act.put, List.setIfInBounds_toArray, List.set_cons_zero, List.set_cons_succ]
              refine wpAnyH_take (i := 5) (oi := { dst := some 46, op := _, type := _, pos := _, after := _, guard := _ }) (v := .int .i64 (i : Int)) rfl (by kernel_rfl) (by kernel_rfl) (by kernel_rfl) (fun _ _ _ h => h) (Or.inl ⟨by rfl, ?_⟩) (by assumption) ?_
              · intro w9 hSw
                exact y_move rfl rfl
              simp only [Act.put, List.setIfInBounds_toArray, List.set_cons_zero, List.set_cons_succ]
              refine wpAnyH_take (i := 6) (oi := { dst := some 47, op := _, type := _, pos := _, after := _, guard := _ }) (v := .pointer (some ⟨b, off + i * 26, none⟩)) rfl (by kernel_rfl) (by kernel_rfl) (by kernel_rfl) (fun _ _ _ h => h) (Or.inl ⟨by rfl, ?_⟩) (by assumption) ?_
              · intro w9 hSw
                exact y_index rfl rfl rfl (hix _)
              simp only [Act.put, List.setIfInBounds_toArray, List.set_cons_zero, List.set_cons_succ]
              refine wpAnyH_take (i := 7) (oi := { dst := some 48, op := _, type := _, pos := _, after := _, guard := _ }) (v := .pointer (some ⟨b, off + i * 26, none⟩)) rfl (by kernel_rfl) (by kernel_rfl) (by kernel_rfl) (fun _ _ _ h => h) (Or.inl ⟨by rfl, ?_⟩) (by assumption) ?_
              · intro w9 hSw
                exact y_field rfl rfl (field_em0 _ _ _)
              simp only [Act.put, List.setIfInBounds_toArray, List.set_cons_zero, List.set_cons_succ]
              refine wpAnyH_take (i := 8) (oi := { dst := some 49, op := _, type := _, pos := _, after := _, guard := _ }) (v := .agg (dotc x.r x.n)) rfl (by kernel_rfl) (by kernel_rfl) (by kernel_rfl) (fun _ _ _ h => h) (Or.inl ⟨by rfl, ?_⟩) (by assumption) ?_
              · intro w9 hSw
                exact y_load rfl rfl (load_dtm (range_below hrg hSw hbl))
              simp only [Act.put, List.setIfInBounds_toArray, List.set_cons_zero, List.set_cons_succ]
              clear hHeld
              refine wpAnyH_ready (rs := [9]) (by kernel_rfl) (by simp) ?_
              refine AllReadyH.cons (o := { dst := some 50, op := _, type := _, pos := _, after := _, guard := _ }) rfl (fun K hK => ?_) AllReadyH.nil
              rw [if_pos (by rfl)]
              refine y_call (f := 22) (xs := [.tmp 41, .tmp 49]) (vs := [.agg (vals u), .agg (dotc x.r x.n)]) rfl rfl (enters_rhas _ _) (hHx _) ?_
              rintro ex wA ⟨rfl, hbA⟩
              refine ⟨_, rfl, ?_⟩
              have HKA : Hid (Kp W u8 F wA) := HKd.out.next hbA
              refine hK.out _ _ HKA.out.below (fun hHeld => ?_)
              clear hK K
              simp only [Act.put, List.setIfInBounds_toArray, List.set_cons_zero, List.set_cons_succ]
              refine wpAnyH_take (i := 10) (oi := { dst := some 51, op := _, type := _, pos := _, after := _, guard := _ }) (v := .bool false) rfl (by kernel_rfl) (by kernel_rfl) (by kernel_rfl) (fun _ _ _ h => h) (Or.inl ⟨by rfl, ?_⟩) (by assumption) ?_
              · intro w9 hSw
                exact y_not rfl rfl rfl
              simp only [Act.put, List.setIfInBounds_toArray, List.set_cons_zero, List.set_cons_succ]
              refine wpAnyH_done (by kernel_rfl) ?_ _
              refine NoPanic.normal ?_
              clear hHeld
              go_wp2
              go_roundw
              case rel => exact ⟨i + 1, by omega, by go_num, by rw [HFT.out]; exact HKA.out⟩
              case measure => simp [intOf]; omega
          · have hlt' : ¬ (i : Int) < (n : Int) := by omega
            obtain ⟨F, hF⟩ : ∃ F, M.filter (fun x => !hasv u x.r x.n) = F := ⟨_, rfl⟩
            rw [List.take_of_length_le (by omega), hF] at hKp hfl
            have HF : Hid _ := hF
            have hFS : ∀ x ∈ F, x ∈ S1 := fun x hx => HRo.out.sub x (by rw [← hF] at hx; exact (List.mem_filter.1 hx).1)
            have hwF : ∀ x ∈ F, Wide x := fun x hx => HW1.out x (hFS x hx)
            obtain ⟨aF, cF, hvF, hEF⟩ := hKp.row.evs hwF
            have FIN := keep_store (base := W.heap.size) (v := u8) (HRo.out.rf.below hKp.below) hKp.row (by have := hBW1; omega)
            have hoB : ∀ k, k ≠ g → (wr.setCell ⟨g, 0, none⟩ u8).heap[k]? = wr.heap[k]? := fun k hk => Below.heap_setCell _ _ _ k hk
            have HV7 : Hid (Lies (wr.setCell ⟨g, 0, none⟩ u8) (B + 1) u) := (hoB (B + 1) (by omega)).trans (HRo.out.vec.below hKp.below HRo.out.vec.lt)
            have HT7 : Hid (Row (wr.setCell ⟨g, 0, none⟩ u8) (B + 2) u7 T) := keepR (HRo.out.row.below hKp.below (Nat.le_refl _)) fun k hk => hoB k (by have := Row.own HRo.out.row k hk; omega)
            have HG7 : Hid (w.grownBy (wr.setCell ⟨g, 0, none⟩ u8) (some g)) := grown_tr (grown_tr HRo.out.grown (grown_below' hKp.below _)) FIN.2.2
            have HR7 : Hid (Rf (wr.setCell ⟨g, 0, none⟩ u8) g u8 F) := FIN.2.1
            have hst := FIN.1
            have HE7 : Hid (Evs (wr.setCell ⟨g, 0, none⟩ u8) aF F.length cF F) := by
              obtain ⟨a', k', h1, h2⟩ := FIN.2.1.val hwF
              rw [hvF] at h1
              simp only [Value.slice.injEq, true_and] at h1
              obtain ⟨rfl, rfl⟩ := h1
              exact h2
            have hapart : ∀ q, u7.ownBlock = some q → u8.ownBlock ≠ some q := fun q hq e1 => by
              have h1 := (World.ownsRow.lt HRo.out.row q hq).2
              have h2 := Row.own hKp.row q e1
              omega
            have hFown : ∀ q, u8.ownBlock = some q → B + 2 ≤ q := fun q e1 => by have h2 := Row.own hKp.row q e1; omega
            have HAP : Hid _ := hapart
            have HFO : Hid _ := hFown
            clear FIN hoB hKp hEF hF hapart hFown
            subst hvF
            have hFl : F.length ≤ 64 := hfl
            go_wp2_with (first | (refine wpList_storeC rfl rfl rfl rfl hst ?_))
            clear hst
            generalize wr.setCell ⟨g, 0, none⟩ (.slice aF F.length cF) = w7 at *
            go_loopw [10, 11] (fun c10 c11 wz => ∃ q : Nat, q ≤ F.length ∧ c11 = .int .i64 ((q : Int) - 1) ∧ c10 = .int .i64 (atQ F u q) ∧ Below w7.heap.size w7 wz) (fun _ c11 _ => ((intOf c11) + 1).toNat)
            case atStart => exact ⟨F.length, Nat.le_refl _, rfl, by rw [atQ_end], Below.refl _ _⟩
            case round =>
              obtain ⟨q, hq, rfl, rfl, hb7⟩ := hrel
              rcases q with _ | q
              · rw [atQ_zero]
                cases hfi : F.findIdx? (fun e => mayE e u) with
                | none =>
                  have hiq : idxQ F u = -1 := by unfold idxQ; rw [hfi]
                  rw [hiq]
                  have hst := HRo.out.ref.stop (by rw [HF.out]; exact find_idxQ hfi)
                  have HST : Hid _ := hst
                  have HAL : Hid (F = S1.filter fun x => !hasv u x.r x.n) := HF.out.symm.trans HRo.out.ref.all
                  clear hst hfi hiq
                  go_wp2
                  go_ret
                  obtain ⟨L9, hL9⟩ := HST.out
                  exact ⟨_, T, F, _, u, rfl, ⟨L9, by rw [HSE.out]; exact hL9, by rw [HSE.out]; exact HAL.out⟩, (HT7.out.below hb7 (Nat.le_refl _)).lower (show w.heap.size ≤ B + 2 by omega), HR7.out.below hb7, grown_tr HG7.out (grown_below' hb7 _)⟩
                | some k =>
                  have hiq : idxQ F u = (k : Int) := by unfold idxQ; rw [hfi]
                  rw [hiq]
                  obtain ⟨hkl, hmk⟩ := idx_someQ hfi
                  obtain ⟨b, off, x, hao, hxk, hwx, hrg, hbl⟩ := HE7.out.at hkl
                  have hx16 := hwx.1
                  have hmay := hmk x hxk
                  have hxS := hFS x (List.mem_of_getElem? hxk)
                  have hdx0 := hdS x hxS
                  obtain ⟨hRef, -, -⟩ := HRo.out.ref.step hdS (e := x) (by rw [HF.out]; exact find_idx hfi hxk)
                  rw [HF.out] at hRef
                  have HRef : Hid _ := hRef
                  have hdx := hdx0
                  simp only [okdot, decide_eq_true_eq] at hdx
                  obtain ⟨r, hr⟩ : ∃ r : Nat, x.r = (r : Int) := ⟨x.r.toNat, by omega⟩
                  have hr16 : r < 16 := by omega
                  have hkl' : (k : Int) < (F.length : Int) := by omega
                  have hk0 : ¬ (k : Int) < 0 := by omega
                  subst hao
                  have hld := load_em (range_below hrg hb7 hbl) hx16
                  have hst := st_ev wr x hx16
                  have hE2 := liesE_new wr x
                  have hb2 : Below wr.heap.size wr (wr.alloc (.cells (evc x) 44)) := (Below.refl _ _).alloc (Nat.le_refl _) _
                  have hb72 : Below w7.heap.size w7 (wr.alloc (.cells (evc x) 44)) := hb7.trans (hb2.mono hb7.size)
                  generalize hW2 : wr.alloc (.cells (evc x) 44) = W2 at *
                  have hF2 : Evs (W2.alloc (.cells (evc x) 44)) (some ⟨W2.heap.size, 0, none⟩) 1 1 [x] := evs_single _ _ x hwx (liesE_new W2 x)
                  have hb73 : Below w7.heap.size w7 (W2.alloc (.cells (evc x) 44)) := hb72.alloc hb72.size _
                  have hrow3 := HT7.out.below hb73 (Nat.le_refl _)
                  have hE3 := hE2.alloc (.cells (evc x) 44)
                  have hle3 : B + 2 ≤ (W2.alloc (.cells (evc x) 44)).heap.size := by have := HV7.out.lt; have := hb73.size; omega
                  have hT1l : T.length + 1 ≤ 1048576 := by omega
                  have hwrE : wr.heap.size < (W2.alloc (.cells (evc x) 44)).heap.size := hE3.lt
                  have hown7 : ∀ q, u7.ownBlock = some q → q < wr.heap.size := fun q hq => Nat.lt_of_lt_of_le (World.ownsRow.lt HT7.out q hq).2 hb7.size
                  clear hRef hfi hiq hmk
                  go_wp2_with (first
                    | (refine wpList_loadR (ty := 44) (x := .tmp 86) (ad := ⟨b, off + k * 26, none⟩) (v := .agg (evc x)) rfl rfl rfl hld ?_)
                    | (refine wpList_storeR (ty := 44) (x := .tmp 12) (y := .tmp 87) (ad := ⟨wr.heap.size, 0, none⟩) (v := .agg (evc x)) (w' := W2) rfl rfl rfl rfl hst ?_)
                    | refine load_ev rfl rfl rfl hE2 hx16 ?_
                    | refine build_ev1 rfl rfl rfl hx16 ?_
                    | refine wpList_appE rfl _ _ rfl (B + 2) _ T rfl hrow3 _ 1 1 [x] rfl hF2 hT1l hle3 ?_)
                  intro vt wt hrt hgt hnt
                  have hEt : LiesE wt wr.heap.size x := by
                    rw [LiesE, hgt.block _ hE3.lt (fun e1 => by have := hown7 _ e1.symm; omega)]; exact hE3
                  have hob : ∀ q, q < B + 2 → q < (W2.alloc (.cells (evc x) 44)).heap.size → wt.heap[q]? = (W2.alloc (.cells (evc x) 44)).heap[q]? := fun q hq hq2 => hgt.block q hq2 (fun e1 => by have := Row.own HT7.out q e1.symm; omega)
                  have hVt : Lies wt (B + 1) u := (hob (B + 1) (by omega) (by omega)).trans (HV7.out.below hb73 HV7.out.lt)
                  have hRt : Rf wt g (.slice (some ⟨b, off, none⟩) F.length cF) F := (HR7.out.below hb73).grow hgt (fun q hq => ⟨by have := Row.own HT7.out q hq; omega, HAP.out q hq⟩)
                  have hGt : w.grownBy wt (some g) := ⟨hgt.os.trans (hb73.os.trans HG7.out.os), hgt.tape.trans (hb73.tape.trans HG7.out.tape), hgt.output.trans (hb73.output.trans HG7.out.output), Nat.le_trans (Nat.le_trans HG7.out.size hb73.size) hgt.size, fun q hq hne => by
                    have h7 : q < w7.heap.size := Nat.lt_of_lt_of_le hq HG7.out.size
                    rw [hob q (by omega) (Nat.lt_of_lt_of_le h7 hb73.size), hb73.block q h7]
                    exact HG7.out.block q hq hne⟩
                  have hc0 : wt.cell? ⟨wr.heap.size, 0, none⟩ = some (.int .i64 (r : Int)) := by rw [hEt.c0, hr]
                  have hc1 := hEt.c1
                  have hcu := hVt.cell (k := r) (by omega)
                  have hfu := hVt.frozen (k := r)
                  have hos : ∀ q, q ≠ B + 1 → (wt.setCell ⟨B + 1, r, none⟩ (.int .i64 x.n)).heap[q]? = wt.heap[q]? := fun q hq => Below.heap_setCell _ _ _ q hq
                  have hgs : wt.grownBy (wt.setCell ⟨B + 1, r, none⟩ (.int .i64 x.n)) (some (B + 1)) := ⟨rfl, rfl, rfl, by simp [World.setCell], fun q _ hq => hos q (fun e1 => hq (by rw [e1]))⟩
                  have HFI : Hid (Ro w g B S1 v (T ++ [x]) F (seeV u x) (.slice (some ⟨b, off, none⟩) F.length cF) vt (wt.setCell ⟨B + 1, r, none⟩ (.int .i64 x.n))) := by
                    refine ⟨HRef.out, HRo.out.fit.see hdx0, hFS, hFl, hRt.grow hgs (fun q hq => ?_), ?_, Row.set hrt (by omega) _, ⟨hGt.os, hGt.tape, hGt.output, by simp [World.setCell]; exact hGt.size, fun q hq hne => (hos q (by omega)).trans (hGt.block q hq hne)⟩⟩
                    · cases hq
                      exact ⟨by omega, fun e1 => by have := HFO.out (B + 1) e1; omega⟩
                    · have := hVt.set (k := r) x.n
                      rw [show seeV u x = u.set r x.n by unfold seeV; rw [hr]; rfl]
                      exact this
                  have hT1 : lenV vt = T.length + 1 := by
                    obtain ⟨a9, c9, h9, -⟩ := hrt.evs (fun y hy => by
                      rcases List.mem_append.1 hy with hy | hy
                      · exact HW1.out y (HRo.out.told y hy)
                      · rw [List.mem_singleton.1 hy]; exact hwx)
                    rw [h9, List.length_append]; rfl
                  have hT0 : lenV u7 = T.length := by rw [HvT.out]; rfl
                  have hjj : (r : Int) < 16 := by omega
                  clear hrt hgt hnt hEt hRt hGt hVt hob hos hgs hrow3 hF2 hE2 hE3 hld hst hb72 hb73
                  go_wp2_with fail
                  go_roundw
                  case rel => exact ⟨T ++ [x], F, seeV u x, _, HFI.out⟩
                  case measure => simp only [lenV] at hT0 hT1 ⊢; simp [hT1, hT0]; omega
              · have hq1 : (((q + 1 : Nat) : Int) - 1) = (q : Int) := by omega
                rw [hq1]
                have hql : q < F.length := by omega
                obtain ⟨b, off, x, hao, hxq, hwx, hrg, hbl⟩ := HE7.out.at hql
                subst hao
                have hx16 := hwx.1
                have hdx0 := hdS x (hFS x (List.mem_of_getElem? hxq))
                have hql' : (q : Int) < (F.length : Int) := by omega
                have hix := fun W : World => index_ev W (b := b) (off := off) (c := cF) hql
                have hMy := fun W : World => rmay_any x u hwx hdx0 hu16 HRo.out.fit W
                have hBd : Below w7.heap.size w7 wr.drew := hb7.drew
                have hq64 : q < 64 := by omega
                cases hmx : mayE x u
                · rw [hmx] at hMy
                  have HAT : Hid (atQ F u q = atQ F u (q + 1)) := atQ_no hxq hmx
                  go_upto_region 16 with fail
                  refine wp_region_noPanic ?_
                  refine wp_region_held_drew (S := fun W' : World => Below w7.heap.size w7 W') (by kernel_rfl) hBd (fun hHeld => ?_)
                  refine wpAnyH_take (i := 0) (oi := { dst := some 74, op := _, type := _, pos := _, after := _, guard := _ }) (v := .slice (some ⟨b, off, none⟩) F.length cF) rfl (by kernel_rfl) (by kernel_rfl) (by kernel_rfl) (fun _ _ _ h => h) (Or.inl ⟨by rfl, ?_⟩) (by assumption) ?_
                  · intro w9 hSw
                    exact y_move rfl rfl
                  simp only [Act.put, List.setIfInBounds_toArray, List.set_cons_zero, List.set_cons_succ]
                  refine wpAnyH_take (i := 1) (oi := { dst := some 75, op := _, type := _, pos := _, after := _, guard := _ }) (v := .int .i64 (q : Int)) rfl (by kernel_rfl) (by kernel_rfl) (by kernel_rfl) (fun _ _ _ h => h) (Or.inl ⟨by rfl, ?_⟩) (by assumption) ?_
                  · intro w9 hSw
                    exact y_move rfl rfl
                  simp only [Act.put, List.setIfInBounds_toArray, List.set_cons_zero, List.set_cons_succ]
                  refine wpAnyH_take (i := 2) (oi := { dst := some 76, op := _, type := _, pos := _, after := _, guard := _ }) (v := .pointer (some ⟨b, off + q * 26, none⟩)) rfl (by kernel_rfl) (by kernel_rfl) (by kernel_rfl) (fun _ _ _ h => h) (Or.inl ⟨by rfl, ?_⟩) (by assumption) ?_
                  · intro w9 hSw
                    exact y_index rfl rfl rfl (hix _)
                  simp only [Act.put, List.setIfInBounds_toArray, List.set_cons_zero, List.set_cons_succ]
                  refine wpAnyH_take (i := 3) (oi := { dst := some 77, op := _, type := _, pos := _, after := _, guard := _ }) (v := .agg (evc x)) rfl (by kernel_rfl) (by kernel_rfl) (by kernel_rfl) (fun _ _ _ h => h) (Or.inl ⟨by rfl, ?_⟩) (by assumption) ?_
                  · intro w9 hSw
                    exact y_load rfl rfl (load_em (range_below hrg hSw hbl) hx16)
                  simp only [Act.put, List.setIfInBounds_toArray, List.set_cons_zero, List.set_cons_succ]
                  refine wpAnyH_take (i := 4) (oi := { dst := some 78, op := _, type := _, pos := _, after := _, guard := _ }) (v := .agg (vals u)) rfl (by kernel_rfl) (by kernel_rfl) (by kernel_rfl) (fun _ _ _ h => h) (Or.inl ⟨by rfl, ?_⟩) (by assumption) ?_
                  · intro w9 hSw
                    exact y_load rfl rfl (load_v (HV7.out.below hSw HV7.out.lt) hu16)
                  simp only [Act.put, List.setIfInBounds_toArray, List.set_cons_zero, List.set_cons_succ]
                  clear hHeld
                  refine wpAnyH_ready (rs := [5]) (by kernel_rfl) (by simp) ?_
                  refine AllReadyH.cons (o := { dst := some 79, op := _, type := _, pos := _, after := _, guard := _ }) rfl (fun K hK => ?_) AllReadyH.nil
                  rw [if_pos (by rfl)]
                  refine y_call (f := 15) (xs := [.tmp 77, .tmp 78]) (vs := [.agg (evc x), .agg (vals u)]) rfl rfl (enters_rmay _ _) (hMy _) ?_
                  rintro ex wM ⟨rfl, hbm⟩
                  refine ⟨_, rfl, ?_⟩
                  have hbM : Below w7.heap.size w7 wM := hBd.trans (hbm.mono hBd.size)
                  refine hK.out _ _ hbM (fun hHeld => ?_)
                  clear hK K
                  simp only [Act.put, List.setIfInBounds_toArray, List.set_cons_zero, List.set_cons_succ]
                  refine wpAnyH_done (by kernel_rfl) ?_ _
                  refine NoPanic.normal ?_
                  clear hHeld
                  go_wp2
                  go_roundw
                  case rel => exact ⟨q, by omega, by go_num, by rw [HAT.out], hbM⟩
                  case measure => simp [intOf]
                · rw [hmx] at hMy
                  have HAT : Hid (atQ F u q = (q : Int)) := atQ_yes hxq hmx
                  go_upto_region 16 with fail
                  refine wp_region_noPanic ?_
                  refine wp_region_held_drew (S := fun W' : World => Below w7.heap.size w7 W') (by kernel_rfl) hBd (fun hHeld => ?_)
                  refine wpAnyH_take (i := 0) (oi := { dst := some 74, op := _, type := _, pos := _, after := _, guard := _ }) (v := .slice (some ⟨b, off, none⟩) F.length cF) rfl (by kernel_rfl) (by kernel_rfl) (by kernel_rfl) (fun _ _ _ h => h) (Or.inl ⟨by rfl, ?_⟩) (by assumption) ?_
                  · intro w9 hSw
                    exact y_move rfl rfl
                  simp only [Act.put, List.setIfInBounds_toArray, List.set_cons_zero, List.set_cons_succ]
                  refine wpAnyH_take (i := 1) (oi := { dst := some 75, op := _, type := _, pos := _, after := _, guard := _ }) (v := .int .i64 (q : Int)) rfl (by kernel_rfl) (by kernel_rfl) (by kernel_rfl) (fun _ _ _ h => h) (Or.inl ⟨by rfl, ?_⟩) (by assumption) ?_
                  · intro w9 hSw
                    exact y_move rfl rfl
                  simp only [Act.put, List.setIfInBounds_toArray, List.set_cons_zero, List.set_cons_succ]
                  refine wpAnyH_take (i := 2) (oi := { dst := some 76, op := _, type := _, pos := _, after := _, guard := _ }) (v := .pointer (some ⟨b, off + q * 26, none⟩)) rfl (by kernel_rfl) (by kernel_rfl) (by kernel_rfl) (fun _ _ _ h => h) (Or.inl ⟨by rfl, ?_⟩) (by assumption) ?_
                  · intro w9 hSw
                    exact y_index rfl rfl rfl (hix _)
                  simp only [Act.put, List.setIfInBounds_toArray, List.set_cons_zero, List.set_cons_succ]
                  refine wpAnyH_take (i := 3) (oi := { dst := some 77, op := _, type := _, pos := _, after := _, guard := _ }) (v := .agg (evc x)) rfl (by kernel_rfl) (by kernel_rfl) (by kernel_rfl) (fun _ _ _ h => h) (Or.inl ⟨by rfl, ?_⟩) (by assumption) ?_
                  · intro w9 hSw
                    exact y_load rfl rfl (load_em (range_below hrg hSw hbl) hx16)
                  simp only [Act.put, List.setIfInBounds_toArray, List.set_cons_zero, List.set_cons_succ]
                  refine wpAnyH_take (i := 4) (oi := { dst := some 78, op := _, type := _, pos := _, after := _, guard := _ }) (v := .agg (vals u)) rfl (by kernel_rfl) (by kernel_rfl) (by kernel_rfl) (fun _ _ _ h => h) (Or.inl ⟨by rfl, ?_⟩) (by assumption) ?_
                  · intro w9 hSw
                    exact y_load rfl rfl (load_v (HV7.out.below hSw HV7.out.lt) hu16)
                  simp only [Act.put, List.setIfInBounds_toArray, List.set_cons_zero, List.set_cons_succ]
                  clear hHeld
                  refine wpAnyH_ready (rs := [5]) (by kernel_rfl) (by simp) ?_
                  refine AllReadyH.cons (o := { dst := some 79, op := _, type := _, pos := _, after := _, guard := _ }) rfl (fun K hK => ?_) AllReadyH.nil
                  rw [if_pos (by rfl)]
                  refine y_call (f := 15) (xs := [.tmp 77, .tmp 78]) (vs := [.agg (evc x), .agg (vals u)]) rfl rfl (enters_rmay _ _) (hMy _) ?_
                  rintro ex wM ⟨rfl, hbm⟩
                  refine ⟨_, rfl, ?_⟩
                  have hbM : Below w7.heap.size w7 wM := hBd.trans (hbm.mono hBd.size)
                  refine hK.out _ _ hbM (fun hHeld => ?_)
                  clear hK K
                  simp only [Act.put, List.setIfInBounds_toArray, List.set_cons_zero, List.set_cons_succ]
                  refine wpAnyH_done (by kernel_rfl) ?_ _
                  refine NoPanic.normal ?_
                  clear hHeld
                  go_wp2
                  go_roundw
                  case rel => exact ⟨q, by omega, by go_num, by rw [HAT.out], hbM⟩
                  case measure => simp [intOf]
end Go.Proofs.Ythpkpmcccpfabaa
