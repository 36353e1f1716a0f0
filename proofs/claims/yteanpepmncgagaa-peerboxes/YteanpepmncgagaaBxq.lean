/-
  Boxes of numbers and of texts: a block with a channel of pointers; Put, Take, Len, NewBox.
-/
import Derived.Test.YteanpepmncgagaaGba
import Derived.Conc.LoneCalls
import Derived.Conc.LoneSelect
import Derived.Conc.LoneSelectN
namespace Go.Proofs.Yteanpepmncgagaa
set_option maxRecDepth 100000
open Go.RowKit Go.Conc

def pt (n : Nat) : Value := .pointer (some ⟨n, 0, none⟩)
/-- A box at b: its channel at c, with room for cap; it holds Q's things, each in a block of its own. -/
structure Bv (bt et : TypeId) (w : World) (b c cap : Nat) (Q : List (Nat × Value)) : Prop where
  box : w.heap[b]? = some (.cells #[.chan (some c)] bt (0, 0))
  ch : ∃ s r, w.heap[c]? = some (.chan cap (Q.map (fun p => pt p.1)).toArray false s r false)
  its : ∀ p ∈ Q, w.heap[p.1]? = some (.cells #[p.2] et (0, 0))
/-- A call on a channel turns nothing but it; new blocks may be there. -/
structure Oc (c : Nat) (w w' : World) : Prop where
  os : w'.os = w.os
  tape : w'.tape = w.tape
  output : w'.output = w.output
  size : w.heap.size ≤ w'.heap.size
  block : ∀ k, k < w.heap.size → k ≠ c → w'.heap[k]? = w.heap[k]?
theorem lt_of_heap {w : World} {b : Nat} {o : Obj} (h : w.heap[b]? = some o) : b < w.heap.size := by
  rcases Nat.lt_or_ge b w.heap.size with h' | h'
  · exact h'
  · rw [Array.getElem?_eq_none h'] at h; cases h
theorem setChan_other (w : World) (c c' cap : Nat) (buf : Array Value) (closed : Bool) (s r : Nat) (tm : Bool) (h : c ≠ c') : (w.setChan c cap buf closed s r tm).heap[c']? = w.heap[c']? := by
  simp [World.setChan, Array.getElem?_setIfInBounds_ne h]
theorem Oc.below {c F : Nat} {w w' : World} (h : Oc c w w') (hF : F ≤ c) (hs : F ≤ w.heap.size) : Below F w w' := ⟨h.os, h.tape, h.output, h.size, fun k hk => h.block k (by omega) (by omega)⟩
theorem Oc.set {c : Nat} {w W : World} (hb : Below w.heap.size w W) (cap : Nat) (buf : Array Value) (s r : Nat) : Oc c w (W.setChan c cap buf false s r false) :=
  ⟨hb.os, hb.tape, hb.output, by rw [size_setChan]; exact hb.size, fun k hk hc => by rw [setChan_other _ _ _ _ _ _ _ _ _ (Ne.symm hc)]; exact hb.block k hk⟩
section
variable {bt et : TypeId} {w W : World} {b c cap : Nat} {Q : List (Nat × Value)}
theorem Bv.lt (h : Bv bt et w b c cap Q) : b < w.heap.size ∧ c < w.heap.size := by
  obtain ⟨s, r, h2⟩ := h.ch
  exact ⟨lt_of_heap h.box, lt_of_heap h2⟩
theorem Bv.below (h : Bv bt et w b c cap Q) (hb : Below w.heap.size w W) : Bv bt et W b c cap Q := by
  obtain ⟨s, r, h2⟩ := h.ch
  exact ⟨by rw [hb.block b h.lt.1]; exact h.box, ⟨s, r, by rw [hb.block c h.lt.2]; exact h2⟩, fun p hp => by rw [hb.block p.1 (lt_of_heap (h.its p hp))]; exact h.its p hp⟩
theorem Bv.not (h : Bv bt et w b c cap Q) {g : Nat} {cs : Array Value} {t : TypeId} {fr : Nat × Nat} (hg : w.heap[g]? = some (.cells cs t fr)) : g ≠ c := fun e => by
  obtain ⟨s, r, h2⟩ := h.ch
  rw [e, h2] at hg
  cases hg
theorem Bv.chan {s r : Nat} (h : Bv bt et w b c cap Q) (Q' : List (Nat × Value)) (hq : ∀ p ∈ Q', w.heap[p.1]? = some (.cells #[p.2] et (0, 0))) (buf : Array Value) (hbuf : buf = (Q'.map (fun p => pt p.1)).toArray) : Bv bt et (w.setChan c cap buf false s r false) b c cap Q' :=
  ⟨by rw [setChan_other _ _ _ _ _ _ _ _ _ (h.not h.box).symm]; exact h.box, ⟨s, r, by rw [hbuf]; exact heap_setChan _ _ _ _ _ _ _ _ h.lt.2⟩, fun p hp => by
    rw [setChan_other _ _ _ _ _ _ _ _ _ (h.not (hq p hp)).symm]; exact hq p hp⟩
/-- A call on another channel. -/
theorem Bv.other {bt' et' : TypeId} {b' c' cap' : Nat} {Q' : List (Nat × Value)} (h : Bv bt et w b c cap Q) (h' : Bv bt' et' w b' c' cap' Q') (hO : Oc c' w W) (hne : c ≠ c') : Bv bt et W b c cap Q := by
  obtain ⟨s, r, h2⟩ := h.ch
  exact ⟨by rw [hO.block b h.lt.1 (h'.not h.box)]; exact h.box, ⟨s, r, by rw [hO.block c h.lt.2 hne]; exact h2⟩, fun p hp => by
    rw [hO.block p.1 (lt_of_heap (h.its p hp)) (h'.not (h.its p hp))]; exact h.its p hp⟩
end
theorem exec_box {o : Oper} {a : Act} {w W : World} {t : TypeId} {x : Operand} {v p : Value} (ho : o.op = .box t x) (hx : a.eval x = v) (hr : (Instr.box t v).run Try.prog w = .ok p W) : (execOp a.eval o).run Try.prog w = .ok (.value p) W := by
  unfold execOp; simp only [ho, hx, Sem.run_bind, hr, Result.andThen_ok, Sem.run_pure]
theorem one_cell {w : World} {b : Nat} {v : Value} {t : TypeId} (h : w.heap[b]? = some (.cells #[v] t (0, 0))) : w.cell? ⟨b, 0, none⟩ = some v := by simp [World.cell?, h]
theorem box_i (w : World) (x : Int) : (Instr.box 3 (.int .i64 x)).run Try.prog w = .ok (pt w.heap.size) (w.alloc (.cells #[.int .i64 x] 3)) := by
  simp [Instr.box, newVar, newRow, Value.cells, pt]
theorem put_room_i {w : World} {b c cap : Nat} {Q : List (Nat × Value)} (h : Bv 83 3 w b c cap Q) (x : Int) (hq : Q.length < cap) :
    Calls Try.prog 27 #[pt b, .int .i64 x] w fun e w' => e = .returned (.bool true) ∧ Bv 83 3 w' b c cap (Q ++ [(w.heap.size, .int .i64 x)]) ∧ Oc c w w' := by
  refine calls_of_loneTo fun cs => ?_
  have e : Frame.enter Try.prog 27 #[pt b, .int .i64 x] .normal = (base 27).at ⟨#[pt b, .int .i64 x, undef, undef, undef, undef, undef, undef, undef, undef, undef, undef, undef, undef], []⟩ [.code (Try.f27.body.getD .skip)] := by
    simp [Frame.enter, Frame.at, Try.func27, base, Try.f27]
  rw [e]
  obtain ⟨W, hW⟩ : ∃ W, w.alloc (.cells #[.int .i64 x] 3) = W := ⟨_, rfl⟩
  have hBW : Below w.heap.size w W := by rw [← hW]; exact (Below.refl _ w).alloc (Nat.le_refl _) _
  have hxW : W.heap[w.heap.size]? = some (.cells #[.int .i64 x] 3 (0, 0)) := by rw [← hW]; exact heap_alloc_new w _
  have hb := box_i w x
  rw [hW] at hb
  have h1 := h.below hBW
  have hl := one_cell h1.box
  obtain ⟨s, r, h2⟩ := h1.ch
  refine LoneTo.goes (n := 60) ?_
  simp only [Try.f27, Option.getD_some]
  s_c stepG_seq
  s_reg
  s_in
  rw [stepG_value (v := pt w.heap.size) (w' := W) rfl rfl (by decide) (exec_box rfl rfl hb)]
  simp only [goes_go]
  refine ⟨trivial, ?_⟩
  walk_nrm
  s_op
  s_c stepG_region_end
  s_c stepG_seq
  s_c stepG_seq
  s_reg
  s_op
  s_op
  s_c stepG_region_end
  s_cond false
  s_c stepG_skip
  s_c stepG_seq
  s_reg
  s_op
  s_op
  s_op
  s_op
  s_c stepG_region_end
  s_c stepG_seq
  s_reg
  s_stop
  refine LoneTo.step (step_lone_select_send_room (c := c) (v := pt w.heap.size) (z' := .pointer none) (cap := cap) (buf := (Q.map (fun p => pt p.1)).toArray) (s := s) (r := r) (tm := false)
    (stepG_comm (cases := #[scase c (pt w.heap.size) (.pointer none)]) (blocking := false) (shape := .select) (w' := W) rfl rfl (by decide) (by simp [go_sem, execOp, scase, Act.eval])) h2 (by simpa using hq)) ?_
  have hB9 := Oc.set (c := c) hBW cap ((Q.map (fun p => pt p.1)).toArray.push (pt w.heap.size)) (s + 1) r
  have hX9 := h1.chan (s := s + 1) (r := r) (Q ++ [(w.heap.size, .int .i64 x)]) (fun p hp => by
    rcases List.mem_append.1 hp with hp | hp
    · exact h1.its p hp
    · obtain rfl := List.mem_singleton.1 hp
      exact hxW) ((Q.map (fun p => pt p.1)).toArray.push (pt w.heap.size)) (by simp)
  generalize W.setChan c cap ((Q.map (fun p => pt p.1)).toArray.push (pt w.heap.size)) false (s + 1) r false = W9 at *
  rw [Frame.finish_at]
  walk_nrm
  refine LoneTo.goes (n := 60) ?_
  s_op
  s_op
  s_c stepG_region_end
  s_c stepG_block
  s_cond true
  s_c stepG_seq
  s_reg
  s_op
  s_c stepG_region_end
  s_c stepG_ret'
  s_stop
  refine LoneTo.done ⟨.returned (.bool true), _, rfl, ⟨rfl, hX9, hB9⟩, rfl, rfl, rfl, rfl, _, Try.func27, by simp [results, Try.f27, Frame.at]⟩
theorem put_full_i {w : World} {b c cap : Nat} {Q : List (Nat × Value)} (h : Bv 83 3 w b c cap Q) (x : Int) (hq : cap ≤ Q.length) :
    Calls Try.prog 27 #[pt b, .int .i64 x] w fun e w' => e = .returned (.bool false) ∧ Below w.heap.size w w' := by
  refine calls_of_loneTo fun cs => ?_
  have e : Frame.enter Try.prog 27 #[pt b, .int .i64 x] .normal = (base 27).at ⟨#[pt b, .int .i64 x, undef, undef, undef, undef, undef, undef, undef, undef, undef, undef, undef, undef], []⟩ [.code (Try.f27.body.getD .skip)] := by
    simp [Frame.enter, Frame.at, Try.func27, base, Try.f27]
  rw [e]
  obtain ⟨W, hW⟩ : ∃ W, w.alloc (.cells #[.int .i64 x] 3) = W := ⟨_, rfl⟩
  have hBW : Below w.heap.size w W := by rw [← hW]; exact (Below.refl _ w).alloc (Nat.le_refl _) _
  have hxW : W.heap[w.heap.size]? = some (.cells #[.int .i64 x] 3 (0, 0)) := by rw [← hW]; exact heap_alloc_new w _
  have hb := box_i w x
  rw [hW] at hb
  have h1 := h.below hBW
  have hl := one_cell h1.box
  obtain ⟨s, r, h2⟩ := h1.ch
  refine LoneTo.goes (n := 60) ?_
  simp only [Try.f27, Option.getD_some]
  s_c stepG_seq
  s_reg
  s_in
  rw [stepG_value (v := pt w.heap.size) (w' := W) rfl rfl (by decide) (exec_box rfl rfl hb)]
  simp only [goes_go]
  refine ⟨trivial, ?_⟩
  walk_nrm
  s_op
  s_c stepG_region_end
  s_c stepG_seq
  s_c stepG_seq
  s_reg
  s_op
  s_op
  s_c stepG_region_end
  s_cond false
  s_c stepG_skip
  s_c stepG_seq
  s_reg
  s_op
  s_op
  s_op
  s_op
  s_c stepG_region_end
  s_c stepG_seq
  s_reg
  s_stop
  refine LoneTo.step (step_lone_select_send_full (c := c) (v := pt w.heap.size) (z' := .pointer none) (cap := cap) (buf := (Q.map (fun p => pt p.1)).toArray) (s := s) (r := r) (tm := false)
    (stepG_comm (cases := #[scase c (pt w.heap.size) (.pointer none)]) (blocking := false) (shape := .select) (w' := W) rfl rfl (by decide) (by simp [go_sem, execOp, scase, Act.eval])) h2 (by simpa using hq)) ?_
  rw [Frame.finish_at]
  walk_nrm
  refine LoneTo.goes (n := 60) ?_
  s_op
  s_op
  s_c stepG_region_end
  s_c stepG_block
  s_cond false
  s_c stepG_seq
  s_reg
  s_op
  s_c stepG_region_end
  s_c stepG_ret'
  s_stop
  refine LoneTo.done ⟨.returned (.bool false), _, rfl, ⟨rfl, hBW⟩, rfl, rfl, rfl, rfl, _, Try.func27, by simp [results, Try.f27, Frame.at]⟩
theorem take_some_i {w : World} {b c cap p : Nat} {x : Int} {Q : List (Nat × Value)} (h : Bv 83 3 w b c cap ((p, .int .i64 x) :: Q)) :
    Calls Try.prog 25 #[pt b] w fun e w' => e = .returned (.tuple #[.int .i64 x, .bool true]) ∧ Bv 83 3 w' b c cap Q ∧ Oc c w w' := by
  refine calls_of_loneTo fun cs => ?_
  have e : Frame.enter Try.prog 25 #[pt b] .normal = (base 25).at ⟨#[pt b, undef, undef, undef, undef, undef, undef, undef, undef, undef, undef, undef, undef, undef, undef, undef, undef, undef, undef, undef, undef], []⟩ [.code (Try.f25.body.getD .skip)] := by
    simp [Frame.enter, Frame.at, Try.func25, base, Try.f25]
  rw [e]
  have hl := one_cell h.box
  obtain ⟨s, r, h2⟩ := h.ch
  refine LoneTo.goes (n := 60) ?_
  simp only [Try.f25, Option.getD_some]
  s_c stepG_seq
  s_reg
  s_op
  s_op
  s_c stepG_region_end
  s_c stepG_seq
  s_reg
  s_op
  s_c stepG_region_end
  s_c stepG_seq
  s_c stepG_seq
  s_reg
  s_op
  s_op
  s_c stepG_region_end
  s_cond false
  s_c stepG_skip
  s_c stepG_seq
  s_reg
  s_op
  s_op
  s_op
  s_op
  s_c stepG_region_end
  s_c stepG_seq
  s_reg
  s_stop
  refine LoneTo.step (step_lone_select_recv_buf (c := c) (z := .pointer none) (cap := cap) (buf := (((p, (.int .i64 x : Value)) :: Q).map (fun p => pt p.1)).toArray) (closed := false) (s := s) (r := r) (tm := false)
    (stepG_comm (cases := #[rcase c (.pointer none)]) (blocking := false) (shape := .select) (w' := w) rfl rfl (by decide) (by simp [go_sem, execOp, rcase, Act.eval])) h2 (by simp)) ?_
  have hx3 := h.its (p, .int .i64 x) (by simp)
  have hX9 := h.chan (s := s) (r := r + 1) Q (fun q hq => h.its q (List.mem_cons_of_mem _ hq)) ((((p, (.int .i64 x : Value)) :: Q).map (fun p => pt p.1)).toArray.extract 1 (((p, (.int .i64 x : Value)) :: Q).map (fun p => pt p.1)).toArray.size) (by simp [List.take_of_length_le])
  have hB9 := Oc.set (c := c) (Below.refl _ w) cap ((((p, (.int .i64 x : Value)) :: Q).map (fun p => pt p.1)).toArray.extract 1 (((p, (.int .i64 x : Value)) :: Q).map (fun p => pt p.1)).toArray.size) s (r + 1)
  have hx9 : (w.setChan c cap ((((p, (.int .i64 x : Value)) :: Q).map (fun p => pt p.1)).toArray.extract 1 (((p, (.int .i64 x : Value)) :: Q).map (fun p => pt p.1)).toArray.size) false s (r + 1) false).cell? ⟨p, 0, none⟩ = some (.int .i64 x) := one_cell (by rw [setChan_other _ _ _ _ _ _ _ _ _ (h.not hx3).symm]; exact hx3)
  generalize w.setChan c cap ((((p, (.int .i64 x : Value)) :: Q).map (fun p => pt p.1)).toArray.extract 1 (((p, (.int .i64 x : Value)) :: Q).map (fun p => pt p.1)).toArray.size) false s (r + 1) false = W9 at *
  have hpv : (((p, (.int .i64 x : Value)) :: Q).map (fun p => pt p.1)).toArray.getD 0 undef = pt p := by simp
  rw [hpv]
  rw [Frame.finish_at]
  walk_nrm
  refine LoneTo.goes (n := 60) ?_
  s_op
  s_op
  s_c stepG_region_end
  s_c stepG_block
  s_cond true
  s_c stepG_seq
  s_reg
  s_op
  s_op
  s_c stepG_region_end
  s_c stepG_seq
  s_reg
  s_op
  s_op
  s_op
  s_op
  s_op
  s_c stepG_region_end
  s_c stepG_ret'
  s_stop
  refine LoneTo.done ⟨.returned (.tuple #[.int .i64 x, .bool true]), _, rfl, ⟨rfl, hX9, hB9⟩, rfl, rfl, rfl, rfl, _, Try.func25, by simp [results, Try.f25, Frame.at]⟩
theorem take_none_i {w : World} {b c cap : Nat} (h : Bv 83 3 w b c cap []) :
    Calls Try.prog 25 #[pt b] w fun e w' => e = .returned (.tuple #[.int .i64 0, .bool false]) ∧ w' = w := by
  refine calls_of_loneTo fun cs => ?_
  have e : Frame.enter Try.prog 25 #[pt b] .normal = (base 25).at ⟨#[pt b, undef, undef, undef, undef, undef, undef, undef, undef, undef, undef, undef, undef, undef, undef, undef, undef, undef, undef, undef, undef], []⟩ [.code (Try.f25.body.getD .skip)] := by
    simp [Frame.enter, Frame.at, Try.func25, base, Try.f25]
  rw [e]
  have hl := one_cell h.box
  obtain ⟨s, r, h2⟩ := h.ch
  refine LoneTo.goes (n := 60) ?_
  simp only [Try.f25, Option.getD_some]
  s_c stepG_seq
  s_reg
  s_op
  s_op
  s_c stepG_region_end
  s_c stepG_seq
  s_reg
  s_op
  s_c stepG_region_end
  s_c stepG_seq
  s_c stepG_seq
  s_reg
  s_op
  s_op
  s_c stepG_region_end
  s_cond false
  s_c stepG_skip
  s_c stepG_seq
  s_reg
  s_op
  s_op
  s_op
  s_op
  s_c stepG_region_end
  s_c stepG_seq
  s_reg
  s_stop
  refine LoneTo.step (step_lone_select_default (c := c) (z := .pointer none) (cap := cap) (s := s) (r := r) (tm := false)
    (stepG_comm (cases := #[rcase c (.pointer none)]) (blocking := false) (shape := .select) (w' := w) rfl rfl (by decide) (by simp [go_sem, execOp, rcase, Act.eval])) h2) ?_
  rw [Frame.finish_at]
  walk_nrm
  refine LoneTo.goes (n := 60) ?_
  s_op
  s_op
  s_c stepG_region_end
  s_c stepG_block
  s_cond false
  s_c stepG_seq
  s_reg
  s_op
  s_op
  s_op
  s_c stepG_region_end
  s_c stepG_ret'
  s_stop
  refine LoneTo.done ⟨.returned (.tuple #[.int .i64 0, .bool false]), _, rfl, ⟨rfl, rfl⟩, rfl, rfl, rfl, rfl, _, Try.func25, by simp [results, Try.f25, Frame.at]⟩
theorem blen_i {w : World} {b c cap : Nat} {Q : List (Nat × Value)} (h : Bv 83 3 w b c cap Q) : Calls Try.prog 29 #[pt b] w fun e w' => e = .returned (.int .i64 (Q.length : Int)) ∧ w' = w := by
  refine calls_of_loneTo fun cs => ?_
  have e : Frame.enter Try.prog 29 #[pt b] .normal = (base 29).at ⟨#[pt b, undef, undef, undef, undef, undef, undef, undef, undef, undef], []⟩ [.code (Try.f29.body.getD .skip)] := by
    simp [Frame.enter, Frame.at, Try.func29, base, Try.f29]
  rw [e]
  have hl := one_cell h.box
  obtain ⟨s, r, h2⟩ := h.ch
  have hlen : ∀ ty, (Builtin.len_ #[81] ty #[.chan (some c)]).run Try.prog w = .ok (.int .i64 (Q.length : Int)) w := fun ty => by
    have := run_len_chan (P := Try.prog) 81 ty Try.underlying81 h2
    simpa [goInt] using this
  refine LoneTo.goes (n := 60) ?_
  simp only [Try.f29, Option.getD_some]
  s_c stepG_seq
  s_reg
  s_op
  s_c stepG_region_end
  s_c stepG_seq
  s_c stepG_seq
  s_reg
  s_op
  s_op
  s_c stepG_region_end
  s_cond false
  s_c stepG_skip
  s_c stepG_seq
  s_reg
  s_op
  s_op
  s_op
  s_op
  s_op
  s_op
  s_c stepG_region_end
  s_c stepG_ret'
  s_stop
  refine LoneTo.done ⟨.returned (.int .i64 (Q.length : Int)), _, rfl, ⟨rfl, rfl⟩, rfl, rfl, rfl, rfl, _, Try.func29, by simp [results, Try.f29, Frame.at]⟩
theorem bnew_i (w : World) (m : Int) {n : Nat} (hn : (if m < 0 then 0 else if 65536 < m then 65536 else m) = (n : Int)) : Calls Try.prog 23 #[.int .i64 m] w fun e w' => ∃ b c, e = .returned (pt b) ∧ Bv 83 3 w' b c n [] ∧ w.heap.size ≤ b ∧ w.heap.size ≤ c ∧ Below w.heap.size w w' := by
  refine calls_of_loneTo fun cs => ?_
  have e : Frame.enter Try.prog 23 #[.int .i64 m] .normal = (base 23).at ⟨#[.int .i64 m, undef, undef, undef, undef, undef, undef, undef, undef], []⟩ [.code (Try.f23.body.getD .skip)] := by
    simp [Frame.enter, Frame.at, Try.func23, base, Try.f23]
  rw [e]
  have hn2 : n ≤ 65536 := by
    split at hn
    · omega
    · split at hn <;> omega
  have hmn : (if 65536 < (if m < 0 then 0 else m) then 65536 else if m < 0 then 0 else m) = (n : Int) := by
    rw [← hn]
    by_cases h1 : m < 0
    · simp [h1]
    · simp [h1]
  have hmk : (Instr.makeChan 81 (.int .i64 (n : Int))).run Try.prog w = .ok (.chan (some w.heap.size)) (w.alloc (.chan n #[] false 0 0 false)) := by
    have h : (Try.prog.info? 87).map (·.bytes) = some 8 := by kernel_rfl
    obtain ⟨i, hi, hb⟩ := Option.map_eq_some_iff.1 h
    exact run_makeChan (P := Try.prog) (w := w) Try.underlying81 hi .i64 n (by omega) (by rw [hb]; omega)
  have hBW : Below w.heap.size w (w.alloc (.chan n #[] false 0 0 false)) := (Below.refl _ w).alloc (Nat.le_refl _) _
  have hcn := heap_alloc_new w (.chan n #[] false 0 0 false)
  generalize w.alloc (.chan n #[] false 0 0 false) = W at *
  have hBV : Below W.heap.size W (W.alloc (.cells #[.chan (some w.heap.size)] 83)) := (Below.refl _ W).alloc (Nat.le_refl _) _
  have hbn := heap_alloc_new W (.cells #[.chan (some w.heap.size)] 83)
  have hcV : (W.alloc (.cells #[.chan (some w.heap.size)] 83)).heap[w.heap.size]? = some (.chan n #[] false 0 0 false) := by rw [hBV.block _ (lt_of_heap hcn)]; exact hcn
  refine LoneTo.goes (n := 60) ?_
  simp only [Try.f23, Option.getD_some]
  s_c stepG_seq
  s_reg
  s_op
  s_c stepG_region_end
  s_c stepG_seq
  s_reg
  s_op
  s_op
  s_op
  s_op
  s_op
  s_op
  s_op
  s_c stepG_region_end
  s_c stepG_ret'
  s_stop
  refine LoneTo.done ⟨.returned (pt W.heap.size), _, rfl, ⟨W.heap.size, w.heap.size, rfl, ⟨hbn, ⟨0, 0, hcV⟩, fun p hp => absurd hp (List.not_mem_nil)⟩, hBW.size, Nat.le_refl _, hBW.trans (hBV.mono hBW.size)⟩, rfl, rfl, rfl, rfl, _, Try.func23, by simp [results, Try.f23, Frame.at, pt]⟩
theorem box_s (w : World) (x : ByteArray) : (Instr.box 9 (.string x)).run Try.prog w = .ok (pt w.heap.size) (w.alloc (.cells #[.string x] 9)) := by
  simp [Instr.box, newVar, newRow, Value.cells, pt]
theorem put_room_s {w : World} {b c cap : Nat} {Q : List (Nat × Value)} (h : Bv 86 9 w b c cap Q) (x : ByteArray) (hq : Q.length < cap) :
    Calls Try.prog 28 #[pt b, .string x] w fun e w' => e = .returned (.bool true) ∧ Bv 86 9 w' b c cap (Q ++ [(w.heap.size, .string x)]) ∧ Oc c w w' := by
  refine calls_of_loneTo fun cs => ?_
  have e : Frame.enter Try.prog 28 #[pt b, .string x] .normal = (base 28).at ⟨#[pt b, .string x, undef, undef, undef, undef, undef, undef, undef, undef, undef, undef, undef, undef], []⟩ [.code (Try.f28.body.getD .skip)] := by
    simp [Frame.enter, Frame.at, Try.func28, base, Try.f28]
  rw [e]
  obtain ⟨W, hW⟩ : ∃ W, w.alloc (.cells #[.string x] 9) = W := ⟨_, rfl⟩
  have hBW : Below w.heap.size w W := by rw [← hW]; exact (Below.refl _ w).alloc (Nat.le_refl _) _
  have hxW : W.heap[w.heap.size]? = some (.cells #[.string x] 9 (0, 0)) := by rw [← hW]; exact heap_alloc_new w _
  have hb := box_s w x
  rw [hW] at hb
  have h1 := h.below hBW
  have hl := one_cell h1.box
  obtain ⟨s, r, h2⟩ := h1.ch
  refine LoneTo.goes (n := 60) ?_
  simp only [Try.f28, Option.getD_some]
  s_c stepG_seq
  s_reg
  s_in
  rw [stepG_value (v := pt w.heap.size) (w' := W) rfl rfl (by decide) (exec_box rfl rfl hb)]
  simp only [goes_go]
  refine ⟨trivial, ?_⟩
  walk_nrm
  s_op
  s_c stepG_region_end
  s_c stepG_seq
  s_c stepG_seq
  s_reg
  s_op
  s_op
  s_c stepG_region_end
  s_cond false
  s_c stepG_skip
  s_c stepG_seq
  s_reg
  s_op
  s_op
  s_op
  s_op
  s_c stepG_region_end
  s_c stepG_seq
  s_reg
  s_stop
  refine LoneTo.step (step_lone_select_send_room (c := c) (v := pt w.heap.size) (z' := .pointer none) (cap := cap) (buf := (Q.map (fun p => pt p.1)).toArray) (s := s) (r := r) (tm := false)
    (stepG_comm (cases := #[scase c (pt w.heap.size) (.pointer none)]) (blocking := false) (shape := .select) (w' := W) rfl rfl (by decide) (by simp [go_sem, execOp, scase, Act.eval])) h2 (by simpa using hq)) ?_
  have hB9 := Oc.set (c := c) hBW cap ((Q.map (fun p => pt p.1)).toArray.push (pt w.heap.size)) (s + 1) r
  have hX9 := h1.chan (s := s + 1) (r := r) (Q ++ [(w.heap.size, .string x)]) (fun p hp => by
    rcases List.mem_append.1 hp with hp | hp
    · exact h1.its p hp
    · obtain rfl := List.mem_singleton.1 hp
      exact hxW) ((Q.map (fun p => pt p.1)).toArray.push (pt w.heap.size)) (by simp)
  generalize W.setChan c cap ((Q.map (fun p => pt p.1)).toArray.push (pt w.heap.size)) false (s + 1) r false = W9 at *
  rw [Frame.finish_at]
  walk_nrm
  refine LoneTo.goes (n := 60) ?_
  s_op
  s_op
  s_c stepG_region_end
  s_c stepG_block
  s_cond true
  s_c stepG_seq
  s_reg
  s_op
  s_c stepG_region_end
  s_c stepG_ret'
  s_stop
  refine LoneTo.done ⟨.returned (.bool true), _, rfl, ⟨rfl, hX9, hB9⟩, rfl, rfl, rfl, rfl, _, Try.func28, by simp [results, Try.f28, Frame.at]⟩
theorem put_full_s {w : World} {b c cap : Nat} {Q : List (Nat × Value)} (h : Bv 86 9 w b c cap Q) (x : ByteArray) (hq : cap ≤ Q.length) :
    Calls Try.prog 28 #[pt b, .string x] w fun e w' => e = .returned (.bool false) ∧ Below w.heap.size w w' := by
  refine calls_of_loneTo fun cs => ?_
  have e : Frame.enter Try.prog 28 #[pt b, .string x] .normal = (base 28).at ⟨#[pt b, .string x, undef, undef, undef, undef, undef, undef, undef, undef, undef, undef, undef, undef], []⟩ [.code (Try.f28.body.getD .skip)] := by
    simp [Frame.enter, Frame.at, Try.func28, base, Try.f28]
  rw [e]
  obtain ⟨W, hW⟩ : ∃ W, w.alloc (.cells #[.string x] 9) = W := ⟨_, rfl⟩
  have hBW : Below w.heap.size w W := by rw [← hW]; exact (Below.refl _ w).alloc (Nat.le_refl _) _
  have hxW : W.heap[w.heap.size]? = some (.cells #[.string x] 9 (0, 0)) := by rw [← hW]; exact heap_alloc_new w _
  have hb := box_s w x
  rw [hW] at hb
  have h1 := h.below hBW
  have hl := one_cell h1.box
  obtain ⟨s, r, h2⟩ := h1.ch
  refine LoneTo.goes (n := 60) ?_
  simp only [Try.f28, Option.getD_some]
  s_c stepG_seq
  s_reg
  s_in
  rw [stepG_value (v := pt w.heap.size) (w' := W) rfl rfl (by decide) (exec_box rfl rfl hb)]
  simp only [goes_go]
  refine ⟨trivial, ?_⟩
  walk_nrm
  s_op
  s_c stepG_region_end
  s_c stepG_seq
  s_c stepG_seq
  s_reg
  s_op
  s_op
  s_c stepG_region_end
  s_cond false
  s_c stepG_skip
  s_c stepG_seq
  s_reg
  s_op
  s_op
  s_op
  s_op
  s_c stepG_region_end
  s_c stepG_seq
  s_reg
  s_stop
  refine LoneTo.step (step_lone_select_send_full (c := c) (v := pt w.heap.size) (z' := .pointer none) (cap := cap) (buf := (Q.map (fun p => pt p.1)).toArray) (s := s) (r := r) (tm := false)
    (stepG_comm (cases := #[scase c (pt w.heap.size) (.pointer none)]) (blocking := false) (shape := .select) (w' := W) rfl rfl (by decide) (by simp [go_sem, execOp, scase, Act.eval])) h2 (by simpa using hq)) ?_
  rw [Frame.finish_at]
  walk_nrm
  refine LoneTo.goes (n := 60) ?_
  s_op
  s_op
  s_c stepG_region_end
  s_c stepG_block
  s_cond false
  s_c stepG_seq
  s_reg
  s_op
  s_c stepG_region_end
  s_c stepG_ret'
  s_stop
  refine LoneTo.done ⟨.returned (.bool false), _, rfl, ⟨rfl, hBW⟩, rfl, rfl, rfl, rfl, _, Try.func28, by simp [results, Try.f28, Frame.at]⟩
theorem take_some_s {w : World} {b c cap p : Nat} {x : ByteArray} {Q : List (Nat × Value)} (h : Bv 86 9 w b c cap ((p, .string x) :: Q)) :
    Calls Try.prog 26 #[pt b] w fun e w' => e = .returned (.tuple #[.string x, .bool true]) ∧ Bv 86 9 w' b c cap Q ∧ Oc c w w' := by
  refine calls_of_loneTo fun cs => ?_
  have e : Frame.enter Try.prog 26 #[pt b] .normal = (base 26).at ⟨#[pt b, undef, undef, undef, undef, undef, undef, undef, undef, undef, undef, undef, undef, undef, undef, undef, undef, undef, undef, undef, undef], []⟩ [.code (Try.f26.body.getD .skip)] := by
    simp [Frame.enter, Frame.at, Try.func26, base, Try.f26]
  rw [e]
  have hl := one_cell h.box
  obtain ⟨s, r, h2⟩ := h.ch
  refine LoneTo.goes (n := 60) ?_
  simp only [Try.f26, Option.getD_some]
  s_c stepG_seq
  s_reg
  s_op
  s_op
  s_c stepG_region_end
  s_c stepG_seq
  s_reg
  s_op
  s_c stepG_region_end
  s_c stepG_seq
  s_c stepG_seq
  s_reg
  s_op
  s_op
  s_c stepG_region_end
  s_cond false
  s_c stepG_skip
  s_c stepG_seq
  s_reg
  s_op
  s_op
  s_op
  s_op
  s_c stepG_region_end
  s_c stepG_seq
  s_reg
  s_stop
  refine LoneTo.step (step_lone_select_recv_buf (c := c) (z := .pointer none) (cap := cap) (buf := (((p, (.string x : Value)) :: Q).map (fun p => pt p.1)).toArray) (closed := false) (s := s) (r := r) (tm := false)
    (stepG_comm (cases := #[rcase c (.pointer none)]) (blocking := false) (shape := .select) (w' := w) rfl rfl (by decide) (by simp [go_sem, execOp, rcase, Act.eval])) h2 (by simp)) ?_
  have hx3 := h.its (p, .string x) (by simp)
  have hX9 := h.chan (s := s) (r := r + 1) Q (fun q hq => h.its q (List.mem_cons_of_mem _ hq)) ((((p, (.string x : Value)) :: Q).map (fun p => pt p.1)).toArray.extract 1 (((p, (.string x : Value)) :: Q).map (fun p => pt p.1)).toArray.size) (by simp [List.take_of_length_le])
  have hB9 := Oc.set (c := c) (Below.refl _ w) cap ((((p, (.string x : Value)) :: Q).map (fun p => pt p.1)).toArray.extract 1 (((p, (.string x : Value)) :: Q).map (fun p => pt p.1)).toArray.size) s (r + 1)
  have hx9 : (w.setChan c cap ((((p, (.string x : Value)) :: Q).map (fun p => pt p.1)).toArray.extract 1 (((p, (.string x : Value)) :: Q).map (fun p => pt p.1)).toArray.size) false s (r + 1) false).cell? ⟨p, 0, none⟩ = some (.string x) := one_cell (by rw [setChan_other _ _ _ _ _ _ _ _ _ (h.not hx3).symm]; exact hx3)
  generalize w.setChan c cap ((((p, (.string x : Value)) :: Q).map (fun p => pt p.1)).toArray.extract 1 (((p, (.string x : Value)) :: Q).map (fun p => pt p.1)).toArray.size) false s (r + 1) false = W9 at *
  have hpv : (((p, (.string x : Value)) :: Q).map (fun p => pt p.1)).toArray.getD 0 undef = pt p := by simp
  rw [hpv]
  rw [Frame.finish_at]
  walk_nrm
  refine LoneTo.goes (n := 60) ?_
  s_op
  s_op
  s_c stepG_region_end
  s_c stepG_block
  s_cond true
  s_c stepG_seq
  s_reg
  s_op
  s_op
  s_c stepG_region_end
  s_c stepG_seq
  s_reg
  s_op
  s_op
  s_op
  s_op
  s_op
  s_c stepG_region_end
  s_c stepG_ret'
  s_stop
  refine LoneTo.done ⟨.returned (.tuple #[.string x, .bool true]), _, rfl, ⟨rfl, hX9, hB9⟩, rfl, rfl, rfl, rfl, _, Try.func26, by simp [results, Try.f26, Frame.at]⟩
theorem take_none_s {w : World} {b c cap : Nat} (h : Bv 86 9 w b c cap []) :
    Calls Try.prog 26 #[pt b] w fun e w' => e = .returned (.tuple #[.string ⟨#[]⟩, .bool false]) ∧ w' = w := by
  refine calls_of_loneTo fun cs => ?_
  have e : Frame.enter Try.prog 26 #[pt b] .normal = (base 26).at ⟨#[pt b, undef, undef, undef, undef, undef, undef, undef, undef, undef, undef, undef, undef, undef, undef, undef, undef, undef, undef, undef, undef], []⟩ [.code (Try.f26.body.getD .skip)] := by
    simp [Frame.enter, Frame.at, Try.func26, base, Try.f26]
  rw [e]
  have hl := one_cell h.box
  obtain ⟨s, r, h2⟩ := h.ch
  refine LoneTo.goes (n := 60) ?_
  simp only [Try.f26, Option.getD_some]
  s_c stepG_seq
  s_reg
  s_op
  s_op
  s_c stepG_region_end
  s_c stepG_seq
  s_reg
  s_op
  s_c stepG_region_end
  s_c stepG_seq
  s_c stepG_seq
  s_reg
  s_op
  s_op
  s_c stepG_region_end
  s_cond false
  s_c stepG_skip
  s_c stepG_seq
  s_reg
  s_op
  s_op
  s_op
  s_op
  s_c stepG_region_end
  s_c stepG_seq
  s_reg
  s_stop
  refine LoneTo.step (step_lone_select_default (c := c) (z := .pointer none) (cap := cap) (s := s) (r := r) (tm := false)
    (stepG_comm (cases := #[rcase c (.pointer none)]) (blocking := false) (shape := .select) (w' := w) rfl rfl (by decide) (by simp [go_sem, execOp, rcase, Act.eval])) h2) ?_
  rw [Frame.finish_at]
  walk_nrm
  refine LoneTo.goes (n := 60) ?_
  s_op
  s_op
  s_c stepG_region_end
  s_c stepG_block
  s_cond false
  s_c stepG_seq
  s_reg
  s_op
  s_op
  s_op
  s_c stepG_region_end
  s_c stepG_ret'
  s_stop
  refine LoneTo.done ⟨.returned (.tuple #[.string ⟨#[]⟩, .bool false]), _, rfl, ⟨rfl, rfl⟩, rfl, rfl, rfl, rfl, _, Try.func26, by simp [results, Try.f26, Frame.at]⟩
theorem blen_s {w : World} {b c cap : Nat} {Q : List (Nat × Value)} (h : Bv 86 9 w b c cap Q) : Calls Try.prog 30 #[pt b] w fun e w' => e = .returned (.int .i64 (Q.length : Int)) ∧ w' = w := by
  refine calls_of_loneTo fun cs => ?_
  have e : Frame.enter Try.prog 30 #[pt b] .normal = (base 30).at ⟨#[pt b, undef, undef, undef, undef, undef, undef, undef, undef, undef], []⟩ [.code (Try.f30.body.getD .skip)] := by
    simp [Frame.enter, Frame.at, Try.func30, base, Try.f30]
  rw [e]
  have hl := one_cell h.box
  obtain ⟨s, r, h2⟩ := h.ch
  have hlen : ∀ ty, (Builtin.len_ #[84] ty #[.chan (some c)]).run Try.prog w = .ok (.int .i64 (Q.length : Int)) w := fun ty => by
    have := run_len_chan (P := Try.prog) 84 ty Try.underlying84 h2
    simpa [goInt] using this
  refine LoneTo.goes (n := 60) ?_
  simp only [Try.f30, Option.getD_some]
  s_c stepG_seq
  s_reg
  s_op
  s_c stepG_region_end
  s_c stepG_seq
  s_c stepG_seq
  s_reg
  s_op
  s_op
  s_c stepG_region_end
  s_cond false
  s_c stepG_skip
  s_c stepG_seq
  s_reg
  s_op
  s_op
  s_op
  s_op
  s_op
  s_op
  s_c stepG_region_end
  s_c stepG_ret'
  s_stop
  refine LoneTo.done ⟨.returned (.int .i64 (Q.length : Int)), _, rfl, ⟨rfl, rfl⟩, rfl, rfl, rfl, rfl, _, Try.func30, by simp [results, Try.f30, Frame.at]⟩
theorem bnew_s (w : World) (m : Int) {n : Nat} (hn : (if m < 0 then 0 else if 65536 < m then 65536 else m) = (n : Int)) : Calls Try.prog 24 #[.int .i64 m] w fun e w' => ∃ b c, e = .returned (pt b) ∧ Bv 86 9 w' b c n [] ∧ w.heap.size ≤ b ∧ w.heap.size ≤ c ∧ Below w.heap.size w w' := by
  refine calls_of_loneTo fun cs => ?_
  have e : Frame.enter Try.prog 24 #[.int .i64 m] .normal = (base 24).at ⟨#[.int .i64 m, undef, undef, undef, undef, undef, undef, undef, undef], []⟩ [.code (Try.f24.body.getD .skip)] := by
    simp [Frame.enter, Frame.at, Try.func24, base, Try.f24]
  rw [e]
  have hn2 : n ≤ 65536 := by
    split at hn
    · omega
    · split at hn <;> omega
  have hmn : (if 65536 < (if m < 0 then 0 else m) then 65536 else if m < 0 then 0 else m) = (n : Int) := by
    rw [← hn]
    by_cases h1 : m < 0
    · simp [h1]
    · simp [h1]
  have hmk : (Instr.makeChan 84 (.int .i64 (n : Int))).run Try.prog w = .ok (.chan (some w.heap.size)) (w.alloc (.chan n #[] false 0 0 false)) := by
    have h : (Try.prog.info? 88).map (·.bytes) = some 8 := by kernel_rfl
    obtain ⟨i, hi, hb⟩ := Option.map_eq_some_iff.1 h
    exact run_makeChan (P := Try.prog) (w := w) Try.underlying84 hi .i64 n (by omega) (by rw [hb]; omega)
  have hBW : Below w.heap.size w (w.alloc (.chan n #[] false 0 0 false)) := (Below.refl _ w).alloc (Nat.le_refl _) _
  have hcn := heap_alloc_new w (.chan n #[] false 0 0 false)
  generalize w.alloc (.chan n #[] false 0 0 false) = W at *
  have hBV : Below W.heap.size W (W.alloc (.cells #[.chan (some w.heap.size)] 86)) := (Below.refl _ W).alloc (Nat.le_refl _) _
  have hbn := heap_alloc_new W (.cells #[.chan (some w.heap.size)] 86)
  have hcV : (W.alloc (.cells #[.chan (some w.heap.size)] 86)).heap[w.heap.size]? = some (.chan n #[] false 0 0 false) := by rw [hBV.block _ (lt_of_heap hcn)]; exact hcn
  refine LoneTo.goes (n := 60) ?_
  simp only [Try.f24, Option.getD_some]
  s_c stepG_seq
  s_reg
  s_op
  s_c stepG_region_end
  s_c stepG_seq
  s_reg
  s_op
  s_op
  s_op
  s_op
  s_op
  s_op
  s_op
  s_c stepG_region_end
  s_c stepG_ret'
  s_stop
  refine LoneTo.done ⟨.returned (pt W.heap.size), _, rfl, ⟨W.heap.size, w.heap.size, rfl, ⟨hbn, ⟨0, 0, hcV⟩, fun p hp => absurd hp (List.not_mem_nil)⟩, hBW.size, Nat.le_refl _, hBW.trans (hBV.mono hBW.size)⟩, rfl, rfl, rfl, rfl, _, Try.func24, by simp [results, Try.f24, Frame.at, pt]⟩
end Go.Proofs.Yteanpepmncgagaa
