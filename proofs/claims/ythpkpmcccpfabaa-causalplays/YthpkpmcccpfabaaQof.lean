/-
  What Offer comes to.
-/
import Derived.Test.YthpkpmcccpfabaaQtk
import Derived.Test.YthpkpmcccpfabaaYdre
namespace Go.Proofs.Ythpkpmcccpfabaa
set_option maxRecDepth 100000
open Go.RowKit

theorem enters_put (xs : Array Value) (w : World) : (callFunc 18 xs).run Try.prog w = .ok (.enter 18 xs) w := enters Try.func18 (by kernel_rfl) (by kernel_rfl) xs w
theorem enters_items (xs : Array Value) (w : World) : (callFunc 20 xs).run Try.prog w = .ok (.enter 20 xs) w := enters Try.func20 (by kernel_rfl) (by kernel_rfl) xs w
theorem enters_turn (xs : Array Value) (w : World) : (callFunc 19 xs).run Try.prog w = .ok (.enter 19 xs) w := enters Try.func19 (by kernel_rfl) (by kernel_rfl) xs w
theorem enters_drop (xs : Array Value) (w : World) : (callFunc 21 xs).run Try.prog w = .ok (.enter 21 xs) w := enters Try.func21 (by kernel_rfl) (by kernel_rfl) xs w
theorem istrue_nil (x : Array Value) (w : World) : Calls Try.prog 42 #[.nilFunc, .agg x] w fun e w' => e = .returned (.bool true) ∧ Below w.heap.size w w' := by
  have he : ∀ W, (binOp .eql 49 .nilFunc .nilFunc).run Try.prog W = .ok (.bool true) W := fun W => by kernel_rfl
  have hb : Below w.heap.size w (w.alloc (.cells x 44)) := (Below.refl _ w).alloc (Nat.le_refl _) _
  go_enter Try.func42, Try.ntmps42
  go_wp2
  go_ret
  exact ⟨rfl, hb⟩
/-- Over no function: what a vector has goes. -/
theorem whj_nil (v : List Int) (S : List (It (Cx 26))) (w0 : World) : E.WhJ (fun _ => true) v .nilFunc S w0.heap.size (fun _ W => Below w0.heap.size w0 W) :=
  ⟨fun _ _ W _ hK _ => (istrue_nil _ W).mono fun _ _ h => ⟨h.1, hK.trans (h.2.mono hK.size), Kpc.of_below h.2⟩, fun _ _ _ _ hK _ => hK, fun _ _ _ _ hK hg hr => hK.grown hg hK.size (fun k e => (hr k e).1)⟩
theorem filter_eit (S : List Ev) (v : List Int) : (S.map eit).filter (fun i => !E.gone v (fun _ => true) i) = (S.filter fun x => !hasv v x.r x.n).map eit := by
  rw [List.filter_map]
  congr 2
  funext x
  simp [E.gone, eit]
theorem qdrop_any (g : Nat) (m : Option Nat) (S : List Ev) (v : List Int) (hv : v.length = 16) (w : World) (h : Bf w g m S) (hl : S.length ≤ 1048576) :
    Calls Try.prog 21 #[.pointer (some ⟨g, 0, none⟩), .agg (vals v), .nilFunc] w fun e w' => (∃ n, e = .returned (.int .i64 n)) ∧ Bf w' g m (S.filter fun x => !hasv v x.r x.n) ∧ Tn g m m w w' := by
  obtain ⟨cs, hB⟩ := h
  refine (E.drop_any g 0 m (S.map eit) cs 34 v hv (fun _ => true) w _ (whj_nil v (S.map eit) w) (by decide) hB (by rw [List.length_map]; exact hl) (Below.refl _ _) (fun W hK => ⟨cs, hB.below hK (Nat.le_refl _)⟩)).mono ?_
  rintro e w' ⟨rfl, w2, cs', hK, -, hB2, ht⟩
  rw [filter_eit] at hB2
  exact ⟨⟨_, rfl⟩, ⟨cs', hB2⟩, (Tn.of_below m hK).trans ht⟩
theorem qput_any (g : Nat) (m : Option Nat) (S : List Ev) (e : Ev) (he : e.deps.length = 16) (w : World) (h : Bf w g m S) :
    Calls Try.prog 18 #[.pointer (some ⟨g, 0, none⟩), .agg (dotc e.r e.n), .agg (evc e)] w fun ex w' => ex = .returned (.tuple #[]) ∧ ∃ m', Bf w' g m' (putE S e) ∧ Tn g m m' w w' := by
  obtain ⟨cs, hB⟩ := h
  have := E.put_any g 0 cs 34 m (S.map eit) (eit e) w hB
  rw [put_eit, show (eit e).x.l.toArray = evc e from evX_c he] at this
  refine this.mono ?_
  rintro ex w' ⟨rfl, m', h1, h2⟩
  exact ⟨rfl, m', ⟨_, h1⟩, h2⟩
theorem qitems_any (g : Nat) (m : Option Nat) (S : List Ev) (w : World) (h : Bf w g m S) (hl : S.length ≤ 1048576) :
    Calls Try.prog 20 #[.pointer (some ⟨g, 0, none⟩)] w fun ex w' => ∃ v, ex = .returned v ∧ Ws w' w.heap.size v S ∧ Below w.heap.size w w' := by
  obtain ⟨cs, hB⟩ := h
  exact E.items_any g 0 cs 34 m (S.map eit) w hB (by rw [List.length_map]; exact hl)
/-- What Offer reads. -/
structure Qo (g : Nat) (m : Option Nat) (S : List Ev) (B : Nat) (e : Ev) (v : List Int) (W : World) : Prop where
  bf : Bf W g m S
  ev : LiesE W B e
  vec : Lies W (B + 1) v
theorem Qo.below {g : Nat} {m : Option Nat} {S : List Ev} {B : Nat} {e : Ev} {v : List Int} {W W' : World} (h : Qo g m S B e v W) (hb : Below W.heap.size W W') : Qo g m S B e v W' := ⟨h.bf.below hb, h.ev.below hb h.ev.lt, h.vec.below hb h.vec.lt⟩
theorem Qo.put {g : Nat} {m m' : Option Nat} {S S' : List Ev} {B : Nat} {e : Ev} {v : List Int} {W W' : World} (h : Qo g m S B e v W) (hg : g < B) (hm : ∀ k, m = some k → k < B) (hb : Bf W' g m' S') (ht : Tn g m m' W W') : Qo g m' S' B e v W' :=
  ⟨hb, (ht.block B h.ev.lt (by omega) (fun e1 => by have := hm B e1; omega)).trans h.ev, (ht.block (B + 1) h.vec.lt (by omega) (fun e1 => by have := hm (B + 1) e1; omega)).trans h.vec⟩
theorem load_e {w : World} {g : Nat} {e : Ev} (h : LiesE w g e) (he : e.deps.length = 16) : (loadVar 44 ⟨g, 0, none⟩).run Try.prog w = .ok (.agg (evc e)) w :=
  run_loadVar_row w g 44 44 _ (0, 0) _ h Try.underlying44 rfl (by rw [evc, List.size_toArray]; exact size26 e he)
theorem y_ldw {o : Oper} {a : Act} {w : World} {K : Act → World → Prop} {Q : Exit → Act → World → Prop} {x : Operand} {v : Value} {ty : TypeId} {ad : Addr} (ho : o.op = .load ty x) (hx : a.eval x = .pointer (some ad)) (hr : (loadVar ty ad).run Try.prog w = .ok v w) (h : K (a.put o.dst v) w) : o.wp Try.prog a w K Q := by
  unfold Oper.wp execOp
  simp only [ho, hx, Instr.loadAt, Instr.sureAddr, Sem.run_bind, Sem.run_pure, Result.andThen_ok, hr]
  exact h
theorem Bf.notMap {w : World} {g k : Nat} {m : Option Nat} {S : List Ev} {cs : Array Value} {ty : TypeId} {fr : Nat × Nat} (h : Bf w g m S) (hk : w.heap[k]? = some (.cells cs ty fr)) : m ≠ some k := by
  rintro rfl
  obtain ⟨cs', h⟩ := h
  obtain ⟨b, e, hm⟩ := h.map.resolve_left (by simp)
  obtain rfl := Option.some.inj e
  obtain ⟨es, c, hb⟩ := hm.blk
  rw [hb] at hk; cases hk
theorem Bf.row {w : World} {g k : Nat} {m : Option Nat} {S : List Ev} {v : List Int} (h : Bf w g m S) (hk : Lies w k v) (hg : g ≠ k) (u : List Int) : Bf (w.setRow k (vals u)) g m S := by
  have hn := h.notMap hk
  obtain ⟨cs, h⟩ := h
  refine ⟨cs, h.kept fun j _ hj => setRow_other _ _ _ _ ?_⟩
  rcases hj with rfl | hj
  · exact hg
  · rintro rfl; exact hn hj
theorem Qo.row {g : Nat} {m : Option Nat} {S : List Ev} {B : Nat} {e : Ev} {v : List Int} {W : World} (h : Qo g m S B e v W) (hg : g < B) (u : List Int) : Qo g m S B e u (W.setRow (B + 1) (vals u)) :=
  ⟨h.bf.row h.vec (by omega) u, h.ev.rowOther _ (by omega), h.vec.row u⟩
theorem Tn.row {g k : Nat} {m m' : Option Nat} {w W : World} (h : Tn g m m' w W) (hk : w.heap.size ≤ k) (cs : Array Value) : Tn g m m' w (W.setRow k cs) :=
  ⟨h.os, h.tape, h.output, by simp [World.setRow]; exact h.size, fun j hj h1 h2 => by rw [setRow_other _ _ _ _ (by omega)]; exact h.block j hj h1 h2, h.own⟩
theorem Row.tn {w w' : World} {base g : Nat} {vt : Value} {T S : List Ev} {m m' : Option Nat} (h : Row w base vt T) (hB : Bf w g m S) (hg : g < base) (ht : Tn g m m' w w') : Row w' base vt T :=
  keepR h fun k hk => by
    have h1 := Row.own h k hk
    obtain ⟨cur, hc⟩ : ∃ cur, w.heap[k]? = some (.cells cur 44 (0, 0)) := by
      rcases h.2 with ⟨rfl, -⟩ | ⟨g', cap, cur, rfl, -, hg', -⟩
      · cases hk
      · obtain rfl : g' = k := by simpa [Value.ownBlock] using hk
        exact ⟨cur, hg'⟩
    exact ht.block k (World.ownsRow.lt h k hk).2 (by omega) (hB.notMap hc)
/-- What lies there behind inTurn. -/
def Told7 (w : World) (g B : Nat) (m m1 : Option Nat) (S1 : List Ev) (e : Ev) (v : List Int) (v7 : Value) (wr : World) : Prop :=
  ∃ T L u, Told S1 v T L u ∧ u.length = 16 ∧ Row wr (B + 2) v7 T ∧ Qo g m1 S1 B e u wr ∧ Tn g m m1 w wr
theorem Buf.wide {S : List Ev} {e : Ev} {v : List Int} (hS : ∀ x ∈ S, Wide x) (he : Wide e) : ∀ x ∈ offS S e v, Wide x := fun x hx => by
  unfold offS at hx
  split at hx
  · rcases mem_putE hx with rfl | hx
    · exact he
    · exact hS x hx
  · exact hS x hx
set_option maxHeartbeats 2000000 in
/-- The part of Offer behind what is taken. -/
theorem offer_any (g : Nat) (m : Option Nat) (S : List Ev) (e : Ev) (v : List Int) (hw : Wide e) (hv : v.length = 16) (w : World) (h : Bf w g m S) (hB : Buf S) (hS : ∀ x ∈ S, Wide x) :
    Calls Try.prog 11 #[.pointer (some ⟨g, 0, none⟩), .agg (evc e), .agg (vals v)] w fun ex w' => ∃ vt T S' u m', ex = .returned vt ∧ Off S e v T S' u ∧ u.length = 16 ∧ Row w' w.heap.size vt T ∧ Bf w' g m' S' ∧ Tn g m m' w w' := by
  have he16 := hw.1
  obtain ⟨B, hBs⟩ : ∃ B, w.heap.size = B := ⟨_, rfl⟩
  have hb0 : Below w.heap.size w ((w.alloc (.cells (evc e) 44)).alloc (.cells (vals v) 40)) := ((Below.refl _ w).alloc (Nat.le_refl _) _).alloc (by simp) _
  have hQ0 : Qo g m S B e v ((w.alloc (.cells (evc e) 44)).alloc (.cells (vals v) 40)) := by
    refine ⟨h.below hb0, ?_, ?_⟩
    · rw [← hBs]; exact (liesE_new w e).alloc _
    · have := lies_new (w.alloc (.cells (evc e) 44)) v
      rw [World.size_alloc, hBs] at this
      exact this
  have hgB : g < B := by rw [← hBs]; exact h.lt
  have HMB : Hid (∀ k, m = some k → k < B) := fun k hk => by rw [← hBs]; exact (h.own k hk).1
  generalize hW0 : (w.alloc (.cells (evc e) 44)).alloc (.cells (vals v) 40) = W0 at *
  have hTk := qtakes_any g m S e v hw hv W0 hQ0.bf
  have hE0 := hQ0.ev
  have hlv := load_v hQ0.vec hv
  have he := eql_pb W0 ⟨g, 0, none⟩
  have HT0 : Hid (Tn g m m w W0) := Tn.of_below m hb0
  have HBO : Hid _ := hB.off e v
  have HWO : Hid _ := Buf.wide (v := v) hS hw
  have HW00 : Hid (w.heap.size ≤ W0.heap.size) := hb0.size
  clear hb0 h hB hS
  go_enter Try.func11, Try.ntmps11
  go_wp2_with (first
    | refine load_ev rfl rfl rfl hE0 he16 ?_
    | (refine wpList_loadR (ty := 40) (x := .tmp 5) (ad := ⟨B + 1, 0, none⟩) (v := .agg (vals v)) rfl rfl rfl hlv ?_))
  refine Calls.mono hTk ?_
  rintro ex w1 ⟨rfl, hb1⟩
  have hQ1 := hQ0.below hb1
  have HT1 : Hid (Tn g m m w w1) := HT0.out.trans (Tn.of_below m hb1)
  clear hE0 hlv he hTk hb1 hQ0 HT0 HW00
  cases ht : takesE S e v
  · have hS1 : offS S e v = S := by unfold offS; rw [ht]; rfl
    obtain ⟨m1, hm1⟩ : ∃ m1, m = m1 := ⟨_, rfl⟩
    have hQ2 : Qo g m1 S B e v w1 := hm1 ▸ hQ1
    have hT2 : Tn g m m1 w w1 := by rw [← hm1]; exact HT1.out
    obtain ⟨S1, hS1'⟩ : ∃ S1, offS S e v = S1 := ⟨_, rfl⟩
    have hQ2 : Qo g m1 S1 B e v w1 := by rw [← hS1', hS1]; exact hQ2
    clear hS1 hQ1 HT1 hm1
    have hS1 := hS1'
    clear hS1'
    go_upto_region 5 with fail
    have HS1 : Hid (offS S e v = S1) := hS1
    rw [hS1] at HBO HWO
    have hQd : Qo g m1 S1 B e v w1.drew := hQ2.below (Below.refl _ _).drew
    have HTd : Hid (Tn g m m1 w w1.drew) := hT2.trans (Tn.of_below m1 (Below.refl w1.heap.size w1).drew)
    have hS1l : S1.length ≤ 1048576 := by have := HBO.out.len; omega
    have hI := qitems_any g m1 S1 w1.drew hQd.bf hS1l
    have hBc : B + 1 < w1.heap.size := hQ2.vec.lt
    clear hQ2 hT2 hS1
    go_cut [0, 5, 7] from 21 (fun v0 v5 v7 wr => v0 = .pointer (some ⟨g, 0, none⟩) ∧ v5 = .pointer (some ⟨B + 1, 0, none⟩) ∧ Aside (Told7 w g B m m1 S1 e v v7 wr))
    case first =>
      refine wp_region_noPanic ?_
      refine wp_region_held_drew (S := fun W' : World => True) (by kernel_rfl) trivial (fun hHeld => ?_)
      refine wpAnyH_take (i := 0) (oi := { dst := some 22, op := _, type := _, pos := _, after := _, guard := _ }) (v := .pointer (some ⟨g, 0, none⟩)) rfl (by kernel_rfl) (by kernel_rfl) (by kernel_rfl) (fun _ _ _ h => h) (Or.inl ⟨by rfl, ?_⟩) (by assumption) ?_
      · intro w9 hSw
        exact y_move rfl rfl
      simp only [Act.put, List.setIfInBounds_toArray, List.set_cons_zero, List.set_cons_succ]
      refine wpAnyH_take (i := 1) (oi := { dst := some 23, op := _, type := _, pos := _, after := _, guard := _ }) (v := .pointer (some ⟨g, 0, none⟩)) rfl (by kernel_rfl) (by kernel_rfl) (by kernel_rfl) (fun _ _ _ h => h) (Or.inl ⟨by rfl, ?_⟩) (by assumption) ?_
      · intro w9 hSw
        exact y_nil rfl rfl
      simp only [Act.put, List.setIfInBounds_toArray, List.set_cons_zero, List.set_cons_succ]
      refine wpAnyH_take (i := 2) (oi := { dst := some 24, op := _, type := _, pos := _, after := _, guard := _ }) (v := .pointer (some ⟨g, 0, none⟩)) rfl (by kernel_rfl) (by kernel_rfl) (by kernel_rfl) (fun _ _ _ h => h) (Or.inl ⟨by rfl, ?_⟩) (by assumption) ?_
      · intro w9 hSw
        exact y_field rfl rfl (field_q _ _)
      simp only [Act.put, List.setIfInBounds_toArray, List.set_cons_zero, List.set_cons_succ]
      clear hHeld
      refine wpAnyH_ready (rs := [3, 4]) (by kernel_rfl) (by simp) ?_
      refine AllReadyH.cons (o := { dst := some 25, op := _, type := _, pos := _, after := _, guard := _ }) rfl (fun K hK => ?_) ?_
      · rw [if_pos (by rfl)]
        refine y_call (f := 20) (xs := [.tmp 24]) (vs := [.pointer (some ⟨g, 0, none⟩)]) rfl rfl (enters_items _ _) hI ?_
        rintro ex w3 ⟨vr, rfl, hr3, hb3⟩
        refine ⟨_, rfl, ?_⟩
        have hQ3 := hQd.below hb3
        have hTu := inturn_any S1 v (fun x hx => ⟨HWO.out x hx, okev_dot (HBO.out.ok x hx)⟩) hS1l hv w1.drew.heap.size vr w3 hr3
        have hor : ∀ k, vr.ownBlock = some k → w1.heap.size ≤ k := fun k hk => (World.ownsRow.lt hr3 k hk).1
        refine hK.out _ _ trivial (fun hHeld => ?_)
        clear hK K
        simp only [Act.put, List.setIfInBounds_toArray, List.set_cons_zero, List.set_cons_succ]
        clear hHeld
        refine wpAnyH_ready (rs := [4]) (by kernel_rfl) (by simp) ?_
        refine AllReadyH.cons (o := { dst := some 26, op := _, type := _, pos := _, after := _, guard := _ }) rfl (fun K hK => ?_) AllReadyH.nil
        rw [if_pos (by rfl)]
        refine y_ldw (ty := 40) (x := .tmp 5) (ad := ⟨B + 1, 0, none⟩) (v := .agg (vals v)) rfl rfl (load_v hQ3.vec hv) ?_
        refine hK.out _ _ trivial (fun hHeld => ?_)
        clear hK K
        simp only [Act.put, List.setIfInBounds_toArray, List.set_cons_zero, List.set_cons_succ]
        clear hHeld
        refine wpAnyH_ready (rs := [5]) (by kernel_rfl) (by simp) ?_
        refine AllReadyH.cons (o := { dst := some 27, op := _, type := _, pos := _, after := _, guard := _ }) rfl (fun K hK => ?_) AllReadyH.nil
        rw [if_pos (by rfl)]
        refine y_call (f := 19) (xs := [.tmp 25, .tmp 26]) (vs := [vr, .agg (vals v)]) rfl rfl (enters_turn _ _) hTu ?_
        rintro ex w4 ⟨vt, T, L, u, rfl, hTo, hu16, hrt, hg4⟩
        refine ⟨_, rfl, ?_⟩
        have hb4 : Below w1.drew.heap.size w1.drew w4 := hb3.grown hg4 hb3.size (fun k e1 => hor k e1)
        have hQ4 := hQd.below hb4
        refine hK.out _ _ trivial (fun hHeld => ?_)
        clear hK K
        simp only [Act.put, List.setIfInBounds_toArray, List.set_cons_zero, List.set_cons_succ]
        refine wpAnyH_take (i := 6) (oi := { dst := some 21, op := _, type := _, pos := _, after := _, guard := _ }) (v := .tuple #[vt, .agg (vals u)]) rfl (by kernel_rfl) (by kernel_rfl) (by kernel_rfl) (fun _ _ _ h => h) (Or.inl ⟨by rfl, ?_⟩) (by assumption) ?_
        · intro w9 hSw
          exact y_move rfl rfl
        simp only [Act.put, List.setIfInBounds_toArray, List.set_cons_zero, List.set_cons_succ]
        refine wpAnyH_take (i := 7) (oi := { dst := some 28, op := _, type := _, pos := _, after := _, guard := _ }) (v := vt) rfl (by kernel_rfl) (by kernel_rfl) (by kernel_rfl) (fun _ _ _ h => h) (Or.inl ⟨by rfl, ?_⟩) (by assumption) ?_
        · intro w9 hSw
          exact y_extract rfl rfl rfl
        simp only [Act.put, List.setIfInBounds_toArray, List.set_cons_zero, List.set_cons_succ]
        refine wpAnyH_take (i := 8) (oi := { dst := some 29, op := _, type := _, pos := _, after := _, guard := _ }) (v := .agg (vals u)) rfl (by kernel_rfl) (by kernel_rfl) (by kernel_rfl) (fun _ _ _ h => h) (Or.inl ⟨by rfl, ?_⟩) (by assumption) ?_
        · intro w9 hSw
          exact y_extract rfl rfl rfl
        simp only [Act.put, List.setIfInBounds_toArray, List.set_cons_zero, List.set_cons_succ]
        refine wpAnyH_take (i := 9) (oi := { dst := some 7, op := _, type := _, pos := _, after := _, guard := _ }) (v := vt) rfl (by kernel_rfl) (by kernel_rfl) (by kernel_rfl) (fun _ _ _ h => h) (Or.inl ⟨by rfl, ?_⟩) (by assumption) ?_
        · intro w9 hSw
          exact y_assign rfl rfl
        simp only [Act.put, List.setIfInBounds_toArray, List.set_cons_zero, List.set_cons_succ]
        have hst := store_vv (v := u) (w := w4) hQ4.vec hv hu16
        have hrel : Told7 w g B m m1 S1 e v vt (w4.setRow (B + 1) (vals u)) := ⟨T, L, u, hTo, hu16, (keepR hrt fun k hk => setRow_other _ _ _ _ (by have h1 := Row.own hrt k hk; have h2 : w1.heap.size ≤ w3.heap.size := hb3.size; omega)).lower (by have h2 : w1.heap.size ≤ w3.heap.size := hb3.size; omega), hQ4.row hgB u, (HTd.out.trans (Tn.of_below m1 hb4)).row (by omega) _⟩
        clear hHeld
        refine wpAnyH_ready (rs := [10]) (by kernel_rfl) (by simp) ?_
        refine AllReadyH.cons (o := { dst := none, op := _, type := _, pos := _, after := _, guard := _ }) rfl (fun K hK => ?_) AllReadyH.nil
        rw [if_pos (by rfl)]
        refine y_store (ty := 40) (x := .tmp 5) (y := .tmp 29) (ad := ⟨B + 1, 0, none⟩) (v := .agg (vals u)) (w' := w4.setRow (B + 1) (vals u)) rfl rfl rfl hst ?_
        refine hK.out _ _ trivial (fun hHeld => ?_)
        clear hK K
        simp only [Act.put]
        refine wpAnyH_done (by kernel_rfl) ?_ _
        refine NoPanic.normal ?_
        clear hHeld
        go_wp2
        go_meet
        case rel => exact ⟨rfl, rfl, hrel⟩
      refine AllReadyH.cons (o := { dst := some 26, op := _, type := _, pos := _, after := _, guard := _ }) rfl (fun K hK => ?_) AllReadyH.nil
      rw [if_pos (by rfl)]
      refine y_ldw (ty := 40) (x := .tmp 5) (ad := ⟨B + 1, 0, none⟩) (v := .agg (vals v)) rfl rfl (load_v hQd.vec hv) ?_
      refine hK.out _ _ trivial (fun hHeld => ?_)
      clear hK K
      simp only [Act.put, List.setIfInBounds_toArray, List.set_cons_zero, List.set_cons_succ]
      clear hHeld
      refine wpAnyH_ready (rs := [3]) (by kernel_rfl) (by simp) ?_
      refine AllReadyH.cons (o := { dst := some 25, op := _, type := _, pos := _, after := _, guard := _ }) rfl (fun K hK => ?_) AllReadyH.nil
      rw [if_pos (by rfl)]
      refine y_call (f := 20) (xs := [.tmp 24]) (vs := [.pointer (some ⟨g, 0, none⟩)]) rfl rfl (enters_items _ _) hI ?_
      rintro ex w3 ⟨vr, rfl, hr3, hb3⟩
      refine ⟨_, rfl, ?_⟩
      have hQ3 := hQd.below hb3
      have hTu := inturn_any S1 v (fun x hx => ⟨HWO.out x hx, okev_dot (HBO.out.ok x hx)⟩) hS1l hv w1.drew.heap.size vr w3 hr3
      have hor : ∀ k, vr.ownBlock = some k → w1.heap.size ≤ k := fun k hk => (World.ownsRow.lt hr3 k hk).1
      refine hK.out _ _ trivial (fun hHeld => ?_)
      clear hK K
      simp only [Act.put, List.setIfInBounds_toArray, List.set_cons_zero, List.set_cons_succ]
      clear hHeld
      refine wpAnyH_ready (rs := [5]) (by kernel_rfl) (by simp) ?_
      refine AllReadyH.cons (o := { dst := some 27, op := _, type := _, pos := _, after := _, guard := _ }) rfl (fun K hK => ?_) AllReadyH.nil
      rw [if_pos (by rfl)]
      refine y_call (f := 19) (xs := [.tmp 25, .tmp 26]) (vs := [vr, .agg (vals v)]) rfl rfl (enters_turn _ _) hTu ?_
      rintro ex w4 ⟨vt, T, L, u, rfl, hTo, hu16, hrt, hg4⟩
      refine ⟨_, rfl, ?_⟩
      have hb4 : Below w1.drew.heap.size w1.drew w4 := hb3.grown hg4 hb3.size (fun k e1 => hor k e1)
      have hQ4 := hQd.below hb4
      refine hK.out _ _ trivial (fun hHeld => ?_)
      clear hK K
      simp only [Act.put, List.setIfInBounds_toArray, List.set_cons_zero, List.set_cons_succ]
      refine wpAnyH_take (i := 6) (oi := { dst := some 21, op := _, type := _, pos := _, after := _, guard := _ }) (v := .tuple #[vt, .agg (vals u)]) rfl (by kernel_rfl) (by kernel_rfl) (by kernel_rfl) (fun _ _ _ h => h) (Or.inl ⟨by rfl, ?_⟩) (by assumption) ?_
      · intro w9 hSw
        exact y_move rfl rfl
      simp only [Act.put, List.setIfInBounds_toArray, List.set_cons_zero, List.set_cons_succ]
      refine wpAnyH_take (i := 7) (oi := { dst := some 28, op := _, type := _, pos := _, after := _, guard := _ }) (v := vt) rfl (by kernel_rfl) (by kernel_rfl) (by kernel_rfl) (fun _ _ _ h => h) (Or.inl ⟨by rfl, ?_⟩) (by assumption) ?_
      · intro w9 hSw
        exact y_extract rfl rfl rfl
      simp only [Act.put, List.setIfInBounds_toArray, List.set_cons_zero, List.set_cons_succ]
      refine wpAnyH_take (i := 8) (oi := { dst := some 29, op := _, type := _, pos := _, after := _, guard := _ }) (v := .agg (vals u)) rfl (by kernel_rfl) (by kernel_rfl) (by kernel_rfl) (fun _ _ _ h => h) (Or.inl ⟨by rfl, ?_⟩) (by assumption) ?_
      · intro w9 hSw
        exact y_extract rfl rfl rfl
      simp only [Act.put, List.setIfInBounds_toArray, List.set_cons_zero, List.set_cons_succ]
      refine wpAnyH_take (i := 9) (oi := { dst := some 7, op := _, type := _, pos := _, after := _, guard := _ }) (v := vt) rfl (by kernel_rfl) (by kernel_rfl) (by kernel_rfl) (fun _ _ _ h => h) (Or.inl ⟨by rfl, ?_⟩) (by assumption) ?_
      · intro w9 hSw
        exact y_assign rfl rfl
      simp only [Act.put, List.setIfInBounds_toArray, List.set_cons_zero, List.set_cons_succ]
      have hst := store_vv (v := u) (w := w4) hQ4.vec hv hu16
      have hrel : Told7 w g B m m1 S1 e v vt (w4.setRow (B + 1) (vals u)) := ⟨T, L, u, hTo, hu16, (keepR hrt fun k hk => setRow_other _ _ _ _ (by have h1 := Row.own hrt k hk; have h2 : w1.heap.size ≤ w3.heap.size := hb3.size; omega)).lower (by have h2 : w1.heap.size ≤ w3.heap.size := hb3.size; omega), hQ4.row hgB u, (HTd.out.trans (Tn.of_below m1 hb4)).row (by omega) _⟩
      clear hHeld
      refine wpAnyH_ready (rs := [10]) (by kernel_rfl) (by simp) ?_
      refine AllReadyH.cons (o := { dst := none, op := _, type := _, pos := _, after := _, guard := _ }) rfl (fun K hK => ?_) AllReadyH.nil
      rw [if_pos (by rfl)]
      refine y_store (ty := 40) (x := .tmp 5) (y := .tmp 29) (ad := ⟨B + 1, 0, none⟩) (v := .agg (vals u)) (w' := w4.setRow (B + 1) (vals u)) rfl rfl rfl hst ?_
      refine hK.out _ _ trivial (fun hHeld => ?_)
      clear hK K
      simp only [Act.put]
      refine wpAnyH_done (by kernel_rfl) ?_ _
      refine NoPanic.normal ?_
      clear hHeld
      go_wp2
      go_meet
      case rel => exact ⟨rfl, rfl, hrel⟩
    case rest =>
      obtain ⟨rfl, rfl, HA⟩ := hcut
      obtain ⟨T, L, u, hTo, hu16, hr7, hQ7, hT7⟩ := HA.out
      have HTo : Hid (Told S1 v T L u) := hTo
      have hQ8 : Qo g m1 S1 B e u wc.drew := hQ7.below (Below.refl _ _).drew
      have HR7 : Hid (Row wc.drew (B + 2) u7 T) := hr7
      have HT7 : Hid (Tn g m m1 w wc.drew) := hT7.trans (Tn.of_below m1 (Below.refl wc.heap.size wc).drew)
      have hDr := qdrop_any g m1 S1 u hu16 wc.drew hQ8.bf hS1l
      clear HA hr7 hQ7 hT7 hTo HTd hI hQd
      go_upto_region 6 with fail
      refine wp_region_noPanic ?_
      refine wp_region_held_drew (S := fun W' : World => Lies W' (B + 1) u) (by kernel_rfl) hQ8.vec (fun hHeld => ?_)
      refine wpAnyH_take (i := 0) (oi := { dst := some 30, op := _, type := _, pos := _, after := _, guard := _ }) (v := .pointer (some ⟨g, 0, none⟩)) rfl (by kernel_rfl) (by kernel_rfl) (by kernel_rfl) (fun _ _ _ h => h) (Or.inl ⟨by rfl, ?_⟩) (by assumption) ?_
      · intro w9 hSw
        exact y_move rfl rfl
      simp only [Act.put, List.setIfInBounds_toArray, List.set_cons_zero, List.set_cons_succ]
      refine wpAnyH_take (i := 1) (oi := { dst := some 31, op := _, type := _, pos := _, after := _, guard := _ }) (v := .pointer (some ⟨g, 0, none⟩)) rfl (by kernel_rfl) (by kernel_rfl) (by kernel_rfl) (fun _ _ _ h => h) (Or.inl ⟨by rfl, ?_⟩) (by assumption) ?_
      · intro w9 hSw
        exact y_nil rfl rfl
      simp only [Act.put, List.setIfInBounds_toArray, List.set_cons_zero, List.set_cons_succ]
      refine wpAnyH_take (i := 2) (oi := { dst := some 32, op := _, type := _, pos := _, after := _, guard := _ }) (v := .pointer (some ⟨g, 0, none⟩)) rfl (by kernel_rfl) (by kernel_rfl) (by kernel_rfl) (fun _ _ _ h => h) (Or.inl ⟨by rfl, ?_⟩) (by assumption) ?_
      · intro w9 hSw
        exact y_field rfl rfl (field_q _ _)
      simp only [Act.put, List.setIfInBounds_toArray, List.set_cons_zero, List.set_cons_succ]
      refine wpAnyH_take (i := 3) (oi := { dst := some 33, op := _, type := _, pos := _, after := _, guard := _ }) (v := .agg (vals u)) rfl (by kernel_rfl) (by kernel_rfl) (by kernel_rfl) (fun _ _ _ h => h) (Or.inl ⟨by rfl, ?_⟩) (by assumption) ?_
      · intro w9 hSw
        exact y_load rfl rfl (load_v hSw hu16)
      simp only [Act.put, List.setIfInBounds_toArray, List.set_cons_zero, List.set_cons_succ]
      clear hHeld
      refine wpAnyH_ready (rs := [4]) (by kernel_rfl) (by simp) ?_
      refine AllReadyH.cons (o := { dst := some 34, op := _, type := _, pos := _, after := _, guard := _ }) rfl (fun K hK => ?_) AllReadyH.nil
      rw [if_pos (by rfl)]
      refine y_call (f := 21) (xs := [.tmp 32, .tmp 33, .const .nilFunc]) (vs := [.pointer (some ⟨g, 0, none⟩), .agg (vals u), .nilFunc]) rfl rfl (enters_drop _ _) hDr ?_
      rintro ex w8 ⟨⟨nd, rfl⟩, hB8, ht8⟩
      refine ⟨_, rfl, ?_⟩
      have HRF : Hid (Row w8 w.heap.size u7 T) := (Row.tn HR7.out hQ8.bf (by omega) ht8).lower (by omega)
      have HTF : Hid (Tn g m m1 w w8) := HT7.out.trans ht8
      have hV8 : Lies w8 (B + 1) u := (ht8.block (B + 1) hQ8.vec.lt (by omega) (hQ8.bf.notMap hQ8.vec)).trans hQ8.vec
      refine hK.out _ _ hV8 (fun hHeld => ?_)
      clear hK K
      simp only [Act.put, List.setIfInBounds_toArray, List.set_cons_zero, List.set_cons_succ]
      refine wpAnyH_done (by kernel_rfl) ?_ _
      refine NoPanic.normal ?_
      clear hHeld
      go_wp2
      go_ret
      exact ⟨_, T, _, u, m1, rfl, ⟨L, HS1.out ▸ HTo.out, by rw [HS1.out]⟩, hu16, HRF.out, hB8, HTF.out⟩
  · have hQd : Qo g m S B e v w1.drew := hQ1.below (Below.refl _ _).drew
    have hP := qput_any g m S e he16 w1.drew hQd.bf
    have hS1 : offS S e v = putE S e := by unfold offS; rw [ht]; rfl
    clear hQ1
    go_upto_region 4 with fail
    refine wp_region_noPanic ?_
    refine wp_region_held_drew (S := fun W' : World => LiesE W' B e) (by kernel_rfl) hQd.ev (fun hHeld => ?_)
    refine wpAnyH_take (i := 0) (oi := { dst := some 14, op := _, type := _, pos := _, after := _, guard := _ }) (v := .pointer (some ⟨g, 0, none⟩)) rfl (by kernel_rfl) (by kernel_rfl) (by kernel_rfl) (fun _ _ _ h => h) (Or.inl ⟨by rfl, ?_⟩) (by assumption) ?_
    · intro w9 hSw
      exact y_move rfl rfl
    simp only [Act.put, List.setIfInBounds_toArray, List.set_cons_zero, List.set_cons_succ]
    refine wpAnyH_take (i := 1) (oi := { dst := some 15, op := _, type := _, pos := _, after := _, guard := _ }) (v := .pointer (some ⟨g, 0, none⟩)) rfl (by kernel_rfl) (by kernel_rfl) (by kernel_rfl) (fun _ _ _ h => h) (Or.inl ⟨by rfl, ?_⟩) (by assumption) ?_
    · intro w9 hSw
      exact y_nil rfl rfl
    simp only [Act.put, List.setIfInBounds_toArray, List.set_cons_zero, List.set_cons_succ]
    refine wpAnyH_take (i := 2) (oi := { dst := some 16, op := _, type := _, pos := _, after := _, guard := _ }) (v := .pointer (some ⟨g, 0, none⟩)) rfl (by kernel_rfl) (by kernel_rfl) (by kernel_rfl) (fun _ _ _ h => h) (Or.inl ⟨by rfl, ?_⟩) (by assumption) ?_
    · intro w9 hSw
      exact y_field rfl rfl (field_q _ _)
    simp only [Act.put, List.setIfInBounds_toArray, List.set_cons_zero, List.set_cons_succ]
    refine wpAnyH_take (i := 3) (oi := { dst := some 17, op := _, type := _, pos := _, after := _, guard := _ }) (v := .pointer (some ⟨B, 0, none⟩)) rfl (by kernel_rfl) (by kernel_rfl) (by kernel_rfl) (fun _ _ _ h => h) (Or.inl ⟨by rfl, ?_⟩) (by assumption) ?_
    · intro w9 hSw
      exact y_field rfl rfl (field_ev0 _ _)
    simp only [Act.put, List.setIfInBounds_toArray, List.set_cons_zero, List.set_cons_succ]
    refine wpAnyH_take (i := 4) (oi := { dst := some 18, op := _, type := _, pos := _, after := _, guard := _ }) (v := .agg (dotc e.r e.n)) rfl (by kernel_rfl) (by kernel_rfl) (by kernel_rfl) (fun _ _ _ h => h) (Or.inl ⟨by rfl, ?_⟩) (by assumption) ?_
    · intro w9 hSw
      exact y_load rfl rfl (LiesE.dotAt hSw)
    simp only [Act.put, List.setIfInBounds_toArray, List.set_cons_zero, List.set_cons_succ]
    refine wpAnyH_take (i := 5) (oi := { dst := some 19, op := _, type := _, pos := _, after := _, guard := _ }) (v := .agg (evc e)) rfl (by kernel_rfl) (by kernel_rfl) (by kernel_rfl) (fun _ _ _ h => h) (Or.inl ⟨by rfl, ?_⟩) (by assumption) ?_
    · intro w9 hSw
      exact y_load rfl rfl (load_e hSw he16)
    simp only [Act.put, List.setIfInBounds_toArray, List.set_cons_zero, List.set_cons_succ]
    clear hHeld
    refine wpAnyH_ready (rs := [6]) (by kernel_rfl) (by simp) ?_
    refine AllReadyH.cons (o := { dst := some 20, op := _, type := _, pos := _, after := _, guard := _ }) rfl (fun K hK => ?_) AllReadyH.nil
    rw [if_pos (by rfl)]
    refine y_call (f := 18) (xs := [.tmp 16, .tmp 18, .tmp 19]) (vs := [.pointer (some ⟨g, 0, none⟩), .agg (dotc e.r e.n), .agg (evc e)]) rfl rfl (enters_put _ _) hP ?_
    rintro ex w2 ⟨rfl, m', hB2, ht2⟩
    refine ⟨_, rfl, ?_⟩
    have hQ2 : Qo g m' (putE S e) B e v w2 := hQd.put hgB HMB.out hB2 ht2
    have HT2 : Hid (Tn g m m' w w2) := (HT1.out.trans (Tn.of_below m (Below.refl w1.heap.size w1).drew)).trans ht2
    refine hK.out _ _ hQ2.ev (fun hHeld => ?_)
    clear hK K
    simp only [Act.put, List.setIfInBounds_toArray, List.set_cons_zero, List.set_cons_succ]
    refine wpAnyH_done (by kernel_rfl) ?_ _
    refine NoPanic.normal ?_
    clear hHeld
    obtain ⟨m1, hm1⟩ : ∃ m1, m' = m1 := ⟨_, rfl⟩
    rw [hm1] at hQ2 HT2
    have hT2 := HT2.out
    obtain ⟨S1, hS1'⟩ : ∃ S1, offS S e v = S1 := ⟨_, rfl⟩
    have hQ2 : Qo g m1 S1 B e v w2 := by rw [← hS1', hS1]; exact hQ2
    clear hS1
    have hS1 := hS1'
    clear hS1' hP hQd HT1 hB2 ht2 HT2
    go_upto_region 5 with fail
    have HS1 : Hid (offS S e v = S1) := hS1
    rw [hS1] at HBO HWO
    have hQd : Qo g m1 S1 B e v w2.drew := hQ2.below (Below.refl _ _).drew
    have HTd : Hid (Tn g m m1 w w2.drew) := hT2.trans (Tn.of_below m1 (Below.refl w2.heap.size w2).drew)
    have hS1l : S1.length ≤ 1048576 := by have := HBO.out.len; omega
    have hI := qitems_any g m1 S1 w2.drew hQd.bf hS1l
    have hBc : B + 1 < w2.heap.size := hQ2.vec.lt
    clear hQ2 hT2 hS1
    go_cut [0, 5, 7] from 21 (fun v0 v5 v7 wr => v0 = .pointer (some ⟨g, 0, none⟩) ∧ v5 = .pointer (some ⟨B + 1, 0, none⟩) ∧ Aside (Told7 w g B m m1 S1 e v v7 wr))
    case first =>
      refine wp_region_noPanic ?_
      refine wp_region_held_drew (S := fun W' : World => True) (by kernel_rfl) trivial (fun hHeld => ?_)
      refine wpAnyH_take (i := 0) (oi := { dst := some 22, op := _, type := _, pos := _, after := _, guard := _ }) (v := .pointer (some ⟨g, 0, none⟩)) rfl (by kernel_rfl) (by kernel_rfl) (by kernel_rfl) (fun _ _ _ h => h) (Or.inl ⟨by rfl, ?_⟩) (by assumption) ?_
      · intro w9 hSw
        exact y_move rfl rfl
      simp only [Act.put, List.setIfInBounds_toArray, List.set_cons_zero, List.set_cons_succ]
      refine wpAnyH_take (i := 1) (oi := { dst := some 23, op := _, type := _, pos := _, after := _, guard := _ }) (v := .pointer (some ⟨g, 0, none⟩)) rfl (by kernel_rfl) (by kernel_rfl) (by kernel_rfl) (fun _ _ _ h => h) (Or.inl ⟨by rfl, ?_⟩) (by assumption) ?_
      · intro w9 hSw
        exact y_nil rfl rfl
      simp only [Act.put, List.setIfInBounds_toArray, List.set_cons_zero, List.set_cons_succ]
      refine wpAnyH_take (i := 2) (oi := { dst := some 24, op := _, type := _, pos := _, after := _, guard := _ }) (v := .pointer (some ⟨g, 0, none⟩)) rfl (by kernel_rfl) (by kernel_rfl) (by kernel_rfl) (fun _ _ _ h => h) (Or.inl ⟨by rfl, ?_⟩) (by assumption) ?_
      · intro w9 hSw
        exact y_field rfl rfl (field_q _ _)
      simp only [Act.put, List.setIfInBounds_toArray, List.set_cons_zero, List.set_cons_succ]
      clear hHeld
      refine wpAnyH_ready (rs := [3, 4]) (by kernel_rfl) (by simp) ?_
      refine AllReadyH.cons (o := { dst := some 25, op := _, type := _, pos := _, after := _, guard := _ }) rfl (fun K hK => ?_) ?_
      · rw [if_pos (by rfl)]
        refine y_call (f := 20) (xs := [.tmp 24]) (vs := [.pointer (some ⟨g, 0, none⟩)]) rfl rfl (enters_items _ _) hI ?_
        rintro ex w3 ⟨vr, rfl, hr3, hb3⟩
        refine ⟨_, rfl, ?_⟩
        have hQ3 := hQd.below hb3
        have hTu := inturn_any S1 v (fun x hx => ⟨HWO.out x hx, okev_dot (HBO.out.ok x hx)⟩) hS1l hv w2.drew.heap.size vr w3 hr3
        have hor : ∀ k, vr.ownBlock = some k → w2.heap.size ≤ k := fun k hk => (World.ownsRow.lt hr3 k hk).1
        refine hK.out _ _ trivial (fun hHeld => ?_)
        clear hK K
        simp only [Act.put, List.setIfInBounds_toArray, List.set_cons_zero, List.set_cons_succ]
        clear hHeld
        refine wpAnyH_ready (rs := [4]) (by kernel_rfl) (by simp) ?_
        refine AllReadyH.cons (o := { dst := some 26, op := _, type := _, pos := _, after := _, guard := _ }) rfl (fun K hK => ?_) AllReadyH.nil
        rw [if_pos (by rfl)]
        refine y_ldw (ty := 40) (x := .tmp 5) (ad := ⟨B + 1, 0, none⟩) (v := .agg (vals v)) rfl rfl (load_v hQ3.vec hv) ?_
        refine hK.out _ _ trivial (fun hHeld => ?_)
        clear hK K
        simp only [Act.put, List.setIfInBounds_toArray, List.set_cons_zero, List.set_cons_succ]
        clear hHeld
        refine wpAnyH_ready (rs := [5]) (by kernel_rfl) (by simp) ?_
        refine AllReadyH.cons (o := { dst := some 27, op := _, type := _, pos := _, after := _, guard := _ }) rfl (fun K hK => ?_) AllReadyH.nil
        rw [if_pos (by rfl)]
        refine y_call (f := 19) (xs := [.tmp 25, .tmp 26]) (vs := [vr, .agg (vals v)]) rfl rfl (enters_turn _ _) hTu ?_
        rintro ex w4 ⟨vt, T, L, u, rfl, hTo, hu16, hrt, hg4⟩
        refine ⟨_, rfl, ?_⟩
        have hb4 : Below w2.drew.heap.size w2.drew w4 := hb3.grown hg4 hb3.size (fun k e1 => hor k e1)
        have hQ4 := hQd.below hb4
        refine hK.out _ _ trivial (fun hHeld => ?_)
        clear hK K
        simp only [Act.put, List.setIfInBounds_toArray, List.set_cons_zero, List.set_cons_succ]
        refine wpAnyH_take (i := 6) (oi := { dst := some 21, op := _, type := _, pos := _, after := _, guard := _ }) (v := .tuple #[vt, .agg (vals u)]) rfl (by kernel_rfl) (by kernel_rfl) (by kernel_rfl) (fun _ _ _ h => h) (Or.inl ⟨by rfl, ?_⟩) (by assumption) ?_
        · intro w9 hSw
          exact y_move rfl rfl
        simp only [Act.put, List.setIfInBounds_toArray, List.set_cons_zero, List.set_cons_succ]
        refine wpAnyH_take (i := 7) (oi := { dst := some 28, op := _, type := _, pos := _, after := _, guard := _ }) (v := vt) rfl (by kernel_rfl) (by kernel_rfl) (by kernel_rfl) (fun _ _ _ h => h) (Or.inl ⟨by rfl, ?_⟩) (by assumption) ?_
        · intro w9 hSw
          exact y_extract rfl rfl rfl
        simp only [Act.put, List.setIfInBounds_toArray, List.set_cons_zero, List.set_cons_succ]
        refine wpAnyH_take (i := 8) (oi := { dst := some 29, op := _, type := _, pos := _, after := _, guard := _ }) (v := .agg (vals u)) rfl (by kernel_rfl) (by kernel_rfl) (by kernel_rfl) (fun _ _ _ h => h) (Or.inl ⟨by rfl, ?_⟩) (by assumption) ?_
        · intro w9 hSw
          exact y_extract rfl rfl rfl
        simp only [Act.put, List.setIfInBounds_toArray, List.set_cons_zero, List.set_cons_succ]
        refine wpAnyH_take (i := 9) (oi := { dst := some 7, op := _, type := _, pos := _, after := _, guard := _ }) (v := vt) rfl (by kernel_rfl) (by kernel_rfl) (by kernel_rfl) (fun _ _ _ h => h) (Or.inl ⟨by rfl, ?_⟩) (by assumption) ?_
        · intro w9 hSw
          exact y_assign rfl rfl
        simp only [Act.put, List.setIfInBounds_toArray, List.set_cons_zero, List.set_cons_succ]
        have hst := store_vv (v := u) (w := w4) hQ4.vec hv hu16
        have hrel : Told7 w g B m m1 S1 e v vt (w4.setRow (B + 1) (vals u)) := ⟨T, L, u, hTo, hu16, (keepR hrt fun k hk => setRow_other _ _ _ _ (by have h1 := Row.own hrt k hk; have h2 : w2.heap.size ≤ w3.heap.size := hb3.size; omega)).lower (by have h2 : w2.heap.size ≤ w3.heap.size := hb3.size; omega), hQ4.row hgB u, (HTd.out.trans (Tn.of_below m1 hb4)).row (by omega) _⟩
        clear hHeld
        refine wpAnyH_ready (rs := [10]) (by kernel_rfl) (by simp) ?_
        refine AllReadyH.cons (o := { dst := none, op := _, type := _, pos := _, after := _, guard := _ }) rfl (fun K hK => ?_) AllReadyH.nil
        rw [if_pos (by rfl)]
        refine y_store (ty := 40) (x := .tmp 5) (y := .tmp 29) (ad := ⟨B + 1, 0, none⟩) (v := .agg (vals u)) (w' := w4.setRow (B + 1) (vals u)) rfl rfl rfl hst ?_
        refine hK.out _ _ trivial (fun hHeld => ?_)
        clear hK K
        simp only [Act.put]
        refine wpAnyH_done (by kernel_rfl) ?_ _
        refine NoPanic.normal ?_
        clear hHeld
        go_wp2
        go_meet
        case rel => exact ⟨rfl, rfl, hrel⟩
      refine AllReadyH.cons (o := { dst := some 26, op := _, type := _, pos := _, after := _, guard := _ }) rfl (fun K hK => ?_) AllReadyH.nil
      rw [if_pos (by rfl)]
      refine y_ldw (ty := 40) (x := .tmp 5) (ad := ⟨B + 1, 0, none⟩) (v := .agg (vals v)) rfl rfl (load_v hQd.vec hv) ?_
      refine hK.out _ _ trivial (fun hHeld => ?_)
      clear hK K
      simp only [Act.put, List.setIfInBounds_toArray, List.set_cons_zero, List.set_cons_succ]
      clear hHeld
      refine wpAnyH_ready (rs := [3]) (by kernel_rfl) (by simp) ?_
      refine AllReadyH.cons (o := { dst := some 25, op := _, type := _, pos := _, after := _, guard := _ }) rfl (fun K hK => ?_) AllReadyH.nil
      rw [if_pos (by rfl)]
      refine y_call (f := 20) (xs := [.tmp 24]) (vs := [.pointer (some ⟨g, 0, none⟩)]) rfl rfl (enters_items _ _) hI ?_
      rintro ex w3 ⟨vr, rfl, hr3, hb3⟩
      refine ⟨_, rfl, ?_⟩
      have hQ3 := hQd.below hb3
      have hTu := inturn_any S1 v (fun x hx => ⟨HWO.out x hx, okev_dot (HBO.out.ok x hx)⟩) hS1l hv w2.drew.heap.size vr w3 hr3
      have hor : ∀ k, vr.ownBlock = some k → w2.heap.size ≤ k := fun k hk => (World.ownsRow.lt hr3 k hk).1
      refine hK.out _ _ trivial (fun hHeld => ?_)
      clear hK K
      simp only [Act.put, List.setIfInBounds_toArray, List.set_cons_zero, List.set_cons_succ]
      clear hHeld
      refine wpAnyH_ready (rs := [5]) (by kernel_rfl) (by simp) ?_
      refine AllReadyH.cons (o := { dst := some 27, op := _, type := _, pos := _, after := _, guard := _ }) rfl (fun K hK => ?_) AllReadyH.nil
      rw [if_pos (by rfl)]
      refine y_call (f := 19) (xs := [.tmp 25, .tmp 26]) (vs := [vr, .agg (vals v)]) rfl rfl (enters_turn _ _) hTu ?_
      rintro ex w4 ⟨vt, T, L, u, rfl, hTo, hu16, hrt, hg4⟩
      refine ⟨_, rfl, ?_⟩
      have hb4 : Below w2.drew.heap.size w2.drew w4 := hb3.grown hg4 hb3.size (fun k e1 => hor k e1)
      have hQ4 := hQd.below hb4
      refine hK.out _ _ trivial (fun hHeld => ?_)
      clear hK K
      simp only [Act.put, List.setIfInBounds_toArray, List.set_cons_zero, List.set_cons_succ]
      refine wpAnyH_take (i := 6) (oi := { dst := some 21, op := _, type := _, pos := _, after := _, guard := _ }) (v := .tuple #[vt, .agg (vals u)]) rfl (by kernel_rfl) (by kernel_rfl) (by kernel_rfl) (fun _ _ _ h => h) (Or.inl ⟨by rfl, ?_⟩) (by assumption) ?_
      · intro w9 hSw
        exact y_move rfl rfl
      simp only [Act.put, List.setIfInBounds_toArray, List.set_cons_zero, List.set_cons_succ]
      refine wpAnyH_take (i := 7) (oi := { dst := some 28, op := _, type := _, pos := _, after := _, guard := _ }) (v := vt) rfl (by kernel_rfl) (by kernel_rfl) (by kernel_rfl) (fun _ _ _ h => h) (Or.inl ⟨by rfl, ?_⟩) (by assumption) ?_
      · intro w9 hSw
        exact y_extract rfl rfl rfl
      simp only [Act.put, List.setIfInBounds_toArray, List.set_cons_zero, List.set_cons_succ]
      refine wpAnyH_take (i := 8) (oi := { dst := some 29, op := _, type := _, pos := _, after := _, guard := _ }) (v := .agg (vals u)) rfl (by kernel_rfl) (by kernel_rfl) (by kernel_rfl) (fun _ _ _ h => h) (Or.inl ⟨by rfl, ?_⟩) (by assumption) ?_
      · intro w9 hSw
        exact y_extract rfl rfl rfl
      simp only [Act.put, List.setIfInBounds_toArray, List.set_cons_zero, List.set_cons_succ]
      refine wpAnyH_take (i := 9) (oi := { dst := some 7, op := _, type := _, pos := _, after := _, guard := _ }) (v := vt) rfl (by kernel_rfl) (by kernel_rfl) (by kernel_rfl) (fun _ _ _ h => h) (Or.inl ⟨by rfl, ?_⟩) (by assumption) ?_
      · intro w9 hSw
        exact y_assign rfl rfl
      simp only [Act.put, List.setIfInBounds_toArray, List.set_cons_zero, List.set_cons_succ]
      have hst := store_vv (v := u) (w := w4) hQ4.vec hv hu16
      have hrel : Told7 w g B m m1 S1 e v vt (w4.setRow (B + 1) (vals u)) := ⟨T, L, u, hTo, hu16, (keepR hrt fun k hk => setRow_other _ _ _ _ (by have h1 := Row.own hrt k hk; have h2 : w2.heap.size ≤ w3.heap.size := hb3.size; omega)).lower (by have h2 : w2.heap.size ≤ w3.heap.size := hb3.size; omega), hQ4.row hgB u, (HTd.out.trans (Tn.of_below m1 hb4)).row (by omega) _⟩
      clear hHeld
      refine wpAnyH_ready (rs := [10]) (by kernel_rfl) (by simp) ?_
      refine AllReadyH.cons (o := { dst := none, op := _, type := _, pos := _, after := _, guard := _ }) rfl (fun K hK => ?_) AllReadyH.nil
      rw [if_pos (by rfl)]
      refine y_store (ty := 40) (x := .tmp 5) (y := .tmp 29) (ad := ⟨B + 1, 0, none⟩) (v := .agg (vals u)) (w' := w4.setRow (B + 1) (vals u)) rfl rfl rfl hst ?_
      refine hK.out _ _ trivial (fun hHeld => ?_)
      clear hK K
      simp only [Act.put]
      refine wpAnyH_done (by kernel_rfl) ?_ _
      refine NoPanic.normal ?_
      clear hHeld
      go_wp2
      go_meet
      case rel => exact ⟨rfl, rfl, hrel⟩
    case rest =>
      obtain ⟨rfl, rfl, HA⟩ := hcut
      obtain ⟨T, L, u, hTo, hu16, hr7, hQ7, hT7⟩ := HA.out
      have HTo : Hid (Told S1 v T L u) := hTo
      have hQ8 : Qo g m1 S1 B e u wc.drew := hQ7.below (Below.refl _ _).drew
      have HR7 : Hid (Row wc.drew (B + 2) u7 T) := hr7
      have HT7 : Hid (Tn g m m1 w wc.drew) := hT7.trans (Tn.of_below m1 (Below.refl wc.heap.size wc).drew)
      have hDr := qdrop_any g m1 S1 u hu16 wc.drew hQ8.bf hS1l
      clear HA hr7 hQ7 hT7 hTo HTd hI hQd
      go_upto_region 6 with fail
      refine wp_region_noPanic ?_
      refine wp_region_held_drew (S := fun W' : World => Lies W' (B + 1) u) (by kernel_rfl) hQ8.vec (fun hHeld => ?_)
      refine wpAnyH_take (i := 0) (oi := { dst := some 30, op := _, type := _, pos := _, after := _, guard := _ }) (v := .pointer (some ⟨g, 0, none⟩)) rfl (by kernel_rfl) (by kernel_rfl) (by kernel_rfl) (fun _ _ _ h => h) (Or.inl ⟨by rfl, ?_⟩) (by assumption) ?_
      · intro w9 hSw
        exact y_move rfl rfl
      simp only [Act.put, List.setIfInBounds_toArray, List.set_cons_zero, List.set_cons_succ]
      refine wpAnyH_take (i := 1) (oi := { dst := some 31, op := _, type := _, pos := _, after := _, guard := _ }) (v := .pointer (some ⟨g, 0, none⟩)) rfl (by kernel_rfl) (by kernel_rfl) (by kernel_rfl) (fun _ _ _ h => h) (Or.inl ⟨by rfl, ?_⟩) (by assumption) ?_
      · intro w9 hSw
        exact y_nil rfl rfl
      simp only [Act.put, List.setIfInBounds_toArray, List.set_cons_zero, List.set_cons_succ]
      refine wpAnyH_take (i := 2) (oi := { dst := some 32, op := _, type := _, pos := _, after := _, guard := _ }) (v := .pointer (some ⟨g, 0, none⟩)) rfl (by kernel_rfl) (by kernel_rfl) (by kernel_rfl) (fun _ _ _ h => h) (Or.inl ⟨by rfl, ?_⟩) (by assumption) ?_
      · intro w9 hSw
        exact y_field rfl rfl (field_q _ _)
      simp only [Act.put, List.setIfInBounds_toArray, List.set_cons_zero, List.set_cons_succ]
      refine wpAnyH_take (i := 3) (oi := { dst := some 33, op := _, type := _, pos := _, after := _, guard := _ }) (v := .agg (vals u)) rfl (by kernel_rfl) (by kernel_rfl) (by kernel_rfl) (fun _ _ _ h => h) (Or.inl ⟨by rfl, ?_⟩) (by assumption) ?_
      · intro w9 hSw
        exact y_load rfl rfl (load_v hSw hu16)
      simp only [Act.put, List.setIfInBounds_toArray, List.set_cons_zero, List.set_cons_succ]
      clear hHeld
      refine wpAnyH_ready (rs := [4]) (by kernel_rfl) (by simp) ?_
      refine AllReadyH.cons (o := { dst := some 34, op := _, type := _, pos := _, after := _, guard := _ }) rfl (fun K hK => ?_) AllReadyH.nil
      rw [if_pos (by rfl)]
      refine y_call (f := 21) (xs := [.tmp 32, .tmp 33, .const .nilFunc]) (vs := [.pointer (some ⟨g, 0, none⟩), .agg (vals u), .nilFunc]) rfl rfl (enters_drop _ _) hDr ?_
      rintro ex w8 ⟨⟨nd, rfl⟩, hB8, ht8⟩
      refine ⟨_, rfl, ?_⟩
      have HRF : Hid (Row w8 w.heap.size u7 T) := (Row.tn HR7.out hQ8.bf (by omega) ht8).lower (by omega)
      have HTF : Hid (Tn g m m1 w w8) := HT7.out.trans ht8
      have hV8 : Lies w8 (B + 1) u := (ht8.block (B + 1) hQ8.vec.lt (by omega) (hQ8.bf.notMap hQ8.vec)).trans hQ8.vec
      refine hK.out _ _ hV8 (fun hHeld => ?_)
      clear hK K
      simp only [Act.put, List.setIfInBounds_toArray, List.set_cons_zero, List.set_cons_succ]
      refine wpAnyH_done (by kernel_rfl) ?_ _
      refine NoPanic.normal ?_
      clear hHeld
      go_wp2
      go_ret
      exact ⟨_, T, _, u, m1, rfl, ⟨L, HS1.out ▸ HTo.out, by rw [HS1.out]⟩, hu16, HRF.out, hB8, HTF.out⟩
end Go.Proofs.Ythpkpmcccpfabaa
