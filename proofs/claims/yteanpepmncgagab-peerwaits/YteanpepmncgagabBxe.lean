/-
  A box of events: a block with a channel of pointers; Put, Take, Len, NewBox.
-/
import Derived.Test.YteanpepmncgagabGba
import Derived.Test.YteanpepmncgagabRop
import Derived.Laws.ResultCell
import Derived.Conc.LoneCalls
import Derived.Conc.LoneSelect
import Derived.Conc.LoneSelectN
namespace Go.Proofs.Yteanpepmncgagab
set_option maxRecDepth 100000
open Go.RowKit Go.Conc

def pt (n : Nat) : Value := .pointer (some ⟨n, 0, none⟩)
/-- A box at b: its channel at c, with room for cap; it holds Q's events, each in a block of its own. -/
structure Bx (w : World) (b c cap : Nat) (Q : List (Nat × Ev)) : Prop where
  box : w.heap[b]? = some (.cells #[.chan (some c)] 39 (0, 0))
  ch : ∃ s r, w.heap[c]? = some (.chan cap (Q.map (fun p => pt p.1)).toArray false s r false)
  its : ∀ p ∈ Q, LiesE w p.1 p.2 ∧ p.2.deps.length = 16
theorem lt_of_heap {w : World} {b : Nat} {o : Obj} (h : w.heap[b]? = some o) : b < w.heap.size := by
  rcases Nat.lt_or_ge b w.heap.size with h' | h'
  · exact h'
  · rw [Array.getElem?_eq_none h'] at h; cases h
theorem setChan_other (w : World) (c c' cap : Nat) (buf : Array Value) (closed : Bool) (s r : Nat) (tm : Bool) (h : c ≠ c') : (w.setChan c cap buf closed s r tm).heap[c']? = w.heap[c']? := by
  simp [World.setChan, Array.getElem?_setIfInBounds_ne h]
theorem Bx.lt {w : World} {b c cap : Nat} {Q : List (Nat × Ev)} (h : Bx w b c cap Q) : b < w.heap.size ∧ c < w.heap.size := by
  obtain ⟨s, r, h2⟩ := h.ch
  exact ⟨lt_of_heap h.box, lt_of_heap h2⟩
theorem Bx.below {w W : World} {b c cap : Nat} {Q : List (Nat × Ev)} (h : Bx w b c cap Q) (hb : Below w.heap.size w W) : Bx W b c cap Q := by
  obtain ⟨s, r, h2⟩ := h.ch
  exact ⟨by rw [hb.block b h.lt.1]; exact h.box, ⟨s, r, by rw [hb.block c h.lt.2]; exact h2⟩, fun p hp => ⟨(h.its p hp).1.below hb (lt_of_heap (h.its p hp).1), (h.its p hp).2⟩⟩
theorem Bx.chan {w : World} {b c cap s r : Nat} {Q : List (Nat × Ev)} (h : Bx w b c cap Q) (Q' : List (Nat × Ev)) (hq : ∀ p ∈ Q', LiesE w p.1 p.2 ∧ p.2.deps.length = 16) (buf : Array Value) (hbuf : buf = (Q'.map (fun p => pt p.1)).toArray) : Bx (w.setChan c cap buf false s r false) b c cap Q' := by
  obtain ⟨s1, r1, h2⟩ := h.ch
  have hcb : c ≠ b := fun e => by
    have := h.box
    rw [← e, h2] at this
    cases this
  refine ⟨by rw [setChan_other _ _ _ _ _ _ _ _ _ hcb]; exact h.box, ⟨s, r, by rw [hbuf]; exact heap_setChan _ _ _ _ _ _ _ _ h.lt.2⟩, fun p hp => ⟨?_, (hq p hp).2⟩⟩
  have hcp : c ≠ p.1 := fun e => by
    have := (hq p hp).1
    rw [LiesE, ← e, h2] at this
    cases this
  show (w.setChan c cap buf false s r false).heap[p.1]? = _
  rw [setChan_other _ _ _ _ _ _ _ _ _ hcp]
  exact (hq p hp).1
theorem Bx.below_c {w W : World} {b c cap : Nat} {Q : List (Nat × Ev)} (h : Bx w b c cap Q) (hb : Below w.heap.size w W) : Below c w W := hb.mono (Nat.le_of_lt h.lt.2)
theorem Bx.row {w : World} {b c cap g : Nat} {Q : List (Nat × Ev)} (h : Bx w b c cap Q) (hb : b ≠ g) (hc : c ≠ g) (hq : ∀ p ∈ Q, p.1 ≠ g) (cs : Array Value) : Bx (w.setRow g cs) b c cap Q := by
  obtain ⟨s, r, h2⟩ := h.ch
  exact ⟨by rw [setRow_other w g b cs hb]; exact h.box, ⟨s, r, by rw [setRow_other w g c cs hc]; exact h2⟩, fun p hp => ⟨by rw [LiesE, setRow_other w g p.1 cs (hq p hp)]; exact (h.its p hp).1, (h.its p hp).2⟩⟩
theorem exec_box {o : Oper} {a : Act} {w W : World} {t : TypeId} {x : Operand} {v p : Value} (ho : o.op = .box t x) (hx : a.eval x = v) (hr : (Instr.box t v).run Try.prog w = .ok p W) : (execOp a.eval o).run Try.prog w = .ok (.value p) W := by
  unfold execOp; simp only [ho, hx, Sem.run_bind, hr, Result.andThen_ok, Sem.run_pure]
theorem exec_store {o : Oper} {a : Act} {w W : World} {t : TypeId} {x y : Operand} {ad : Addr} {v : Value} (ho : o.op = .store t x y) (hx : a.eval x = .pointer (some ad)) (hy : a.eval y = v) (hr : (storeVar t ad v).run Try.prog w = .ok () W) : (execOp a.eval o).run Try.prog w = .ok .skip W := by
  unfold execOp
  simp only [ho, hx, hy, Instr.storeAt, Instr.sureAddr, Sem.run_bind, Sem.run_pure, Result.andThen_ok, hr]
theorem box_ev (w : World) (x : Ev) (hx : x.deps.length = 16) : (Instr.box 33 (.agg (evc x))).run Try.prog w = .ok (pt w.heap.size) (w.alloc (.cells (evc x) 33)) := by
  have h1 := evc_one x
  have h2 := size26 x hx
  simp [Instr.box, newVar, newRow, Value.cells, pt]
theorem box_cell {w : World} {b : Nat} {v : Value} (h : w.heap[b]? = some (.cells #[v] 39 (0, 0))) : w.cell? ⟨b, 0, none⟩ = some v := by simp [World.cell?, h]
theorem put_room {w : World} {b c cap : Nat} {Q : List (Nat × Ev)} (h : Bx w b c cap Q) (x : Ev) (hx : x.deps.length = 16) (hq : Q.length < cap) :
    Calls Try.prog 6 #[pt b, .agg (evc x)] w fun e w' => e = .returned (.bool true) ∧ Bx w' b c cap (Q ++ [(w.heap.size, x)]) ∧ Below c w w' := by
  refine calls_of_loneTo fun cs => ?_
  have e : Frame.enter Try.prog 6 #[pt b, .agg (evc x)] .normal = (base 6).at ⟨#[pt b, .agg (evc x), undef, undef, undef, undef, undef, undef, undef, undef, undef, undef, undef, undef], []⟩ [.code (Try.f6.body.getD .skip)] := by
    simp [Frame.enter, Frame.at, Try.func6, base, Try.f6]
  rw [e]
  obtain ⟨W, hW⟩ : ∃ W, w.alloc (.cells (evc x) 33) = W := ⟨_, rfl⟩
  have hBW : Below w.heap.size w W := by rw [← hW]; exact (Below.refl _ w).alloc (Nat.le_refl _) _
  have hxW : LiesE W w.heap.size x := by rw [← hW]; exact liesE_new w x
  have hb := box_ev w x hx
  rw [hW] at hb
  have h1 := h.below hBW
  have hl := box_cell h1.box
  obtain ⟨s, r, h2⟩ := h1.ch
  refine LoneTo.goes (n := 60) ?_
  simp only [Try.f6, Option.getD_some]
  s_c stepG_seq
  s_reg
  s_in
  rw [stepG_value (v := pt w.heap.size) (w' := W) rfl rfl (by decide) (exec_box rfl rfl hb)]
  simp only [goes_go]
  refine ⟨trivial, ?_⟩
  walk_nrm
  s_op
  s_c stepG_region_end
  s_c stepG_seq
  s_c stepG_seq
  s_reg
  s_op
  s_op
  s_c stepG_region_end
  s_cond false
  s_c stepG_skip
  s_c stepG_seq
  s_reg
  s_op
  s_op
  s_op
  s_op
  s_c stepG_region_end
  s_c stepG_seq
  s_reg
  s_stop
  refine LoneTo.step (step_lone_select_send_room (c := c) (v := pt w.heap.size) (z' := .pointer none) (cap := cap) (buf := (Q.map (fun p => pt p.1)).toArray) (s := s) (r := r) (tm := false)
    (stepG_comm (cases := #[scase c (pt w.heap.size) (.pointer none)]) (blocking := false) (shape := .select) (w' := W) rfl rfl (by decide) (by simp [go_sem, execOp, scase, Act.eval])) h2 (by simpa using hq)) ?_
  have hB9 := below_setChan (h.below_c hBW) (Nat.le_refl c) cap ((Q.map (fun p => pt p.1)).toArray.push (pt w.heap.size)) false (s + 1) r false
  have hX9 := h1.chan (s := s + 1) (r := r) (Q ++ [(w.heap.size, x)]) (fun p hp => by
    rcases List.mem_append.1 hp with hp | hp
    · exact h1.its p hp
    · obtain rfl := List.mem_singleton.1 hp
      exact ⟨hxW, hx⟩) ((Q.map (fun p => pt p.1)).toArray.push (pt w.heap.size)) (by simp)
  generalize W.setChan c cap ((Q.map (fun p => pt p.1)).toArray.push (pt w.heap.size)) false (s + 1) r false = W9 at *
  rw [Frame.finish_at]
  walk_nrm
  refine LoneTo.goes (n := 60) ?_
  s_op
  s_op
  s_c stepG_region_end
  s_c stepG_block
  s_cond true
  s_c stepG_seq
  s_reg
  s_op
  s_c stepG_region_end
  s_c stepG_ret'
  s_stop
  refine LoneTo.done ⟨.returned (.bool true), _, rfl, ⟨rfl, hX9, hB9⟩, rfl, rfl, rfl, rfl, _, Try.func6, by simp [results, Try.f6, Frame.at]⟩
theorem put_full {w : World} {b c cap : Nat} {Q : List (Nat × Ev)} (h : Bx w b c cap Q) (x : Ev) (hx : x.deps.length = 16) (hq : cap ≤ Q.length) :
    Calls Try.prog 6 #[pt b, .agg (evc x)] w fun e w' => e = .returned (.bool false) ∧ Below w.heap.size w w' := by
  refine calls_of_loneTo fun cs => ?_
  have e : Frame.enter Try.prog 6 #[pt b, .agg (evc x)] .normal = (base 6).at ⟨#[pt b, .agg (evc x), undef, undef, undef, undef, undef, undef, undef, undef, undef, undef, undef, undef], []⟩ [.code (Try.f6.body.getD .skip)] := by
    simp [Frame.enter, Frame.at, Try.func6, base, Try.f6]
  rw [e]
  obtain ⟨W, hW⟩ : ∃ W, w.alloc (.cells (evc x) 33) = W := ⟨_, rfl⟩
  have hBW : Below w.heap.size w W := by rw [← hW]; exact (Below.refl _ w).alloc (Nat.le_refl _) _
  have hb := box_ev w x hx
  rw [hW] at hb
  have h1 := h.below hBW
  have hl := box_cell h1.box
  obtain ⟨s, r, h2⟩ := h1.ch
  refine LoneTo.goes (n := 60) ?_
  simp only [Try.f6, Option.getD_some]
  s_c stepG_seq
  s_reg
  s_in
  rw [stepG_value (v := pt w.heap.size) (w' := W) rfl rfl (by decide) (exec_box rfl rfl hb)]
  simp only [goes_go]
  refine ⟨trivial, ?_⟩
  walk_nrm
  s_op
  s_c stepG_region_end
  s_c stepG_seq
  s_c stepG_seq
  s_reg
  s_op
  s_op
  s_c stepG_region_end
  s_cond false
  s_c stepG_skip
  s_c stepG_seq
  s_reg
  s_op
  s_op
  s_op
  s_op
  s_c stepG_region_end
  s_c stepG_seq
  s_reg
  s_stop
  refine LoneTo.step (step_lone_select_send_full (c := c) (v := pt w.heap.size) (z' := .pointer none) (cap := cap) (buf := (Q.map (fun p => pt p.1)).toArray) (s := s) (r := r) (tm := false)
    (stepG_comm (cases := #[scase c (pt w.heap.size) (.pointer none)]) (blocking := false) (shape := .select) (w' := W) rfl rfl (by decide) (by simp [go_sem, execOp, scase, Act.eval])) h2 (by simpa using hq)) ?_
  rw [Frame.finish_at]
  walk_nrm
  refine LoneTo.goes (n := 60) ?_
  s_op
  s_op
  s_c stepG_region_end
  s_c stepG_block
  s_cond false
  s_c stepG_seq
  s_reg
  s_op
  s_c stepG_region_end
  s_c stepG_ret'
  s_stop
  refine LoneTo.done ⟨.returned (.bool false), _, rfl, ⟨rfl, hBW⟩, rfl, rfl, rfl, rfl, _, Try.func6, by simp [results, Try.f6, Frame.at]⟩
theorem put_zero {w : World} {b : Nat} (h : w.heap[b]? = some (.cells #[.chan none] 39 (0, 0))) (x : Ev) (hx : x.deps.length = 16) :
    Calls Try.prog 6 #[pt b, .agg (evc x)] w fun e w' => e = .returned (.bool false) ∧ Below w.heap.size w w' := by
  refine calls_of_loneTo fun cs => ?_
  have e : Frame.enter Try.prog 6 #[pt b, .agg (evc x)] .normal = (base 6).at ⟨#[pt b, .agg (evc x), undef, undef, undef, undef, undef, undef, undef, undef, undef, undef, undef, undef], []⟩ [.code (Try.f6.body.getD .skip)] := by
    simp [Frame.enter, Frame.at, Try.func6, base, Try.f6]
  rw [e]
  obtain ⟨W, hW⟩ : ∃ W, w.alloc (.cells (evc x) 33) = W := ⟨_, rfl⟩
  have hBW : Below w.heap.size w W := by rw [← hW]; exact (Below.refl _ w).alloc (Nat.le_refl _) _
  have hb := box_ev w x hx
  rw [hW] at hb
  have hl : W.cell? ⟨b, 0, none⟩ = some (.chan none) := box_cell (by rw [hBW.block b (lt_of_heap h)]; exact h)
  refine LoneTo.goes (n := 60) ?_
  simp only [Try.f6, Option.getD_some]
  s_c stepG_seq
  s_reg
  s_in
  rw [stepG_value (v := pt w.heap.size) (w' := W) rfl rfl (by decide) (exec_box rfl rfl hb)]
  simp only [goes_go]
  refine ⟨trivial, ?_⟩
  walk_nrm
  s_op
  s_c stepG_region_end
  s_c stepG_seq
  s_c stepG_seq
  s_reg
  s_op
  s_op
  s_c stepG_region_end
  s_cond false
  s_c stepG_skip
  s_c stepG_seq
  s_reg
  s_op
  s_op
  s_op
  s_op
  s_c stepG_region_end
  s_c stepG_seq
  s_reg
  s_stop
  refine LoneTo.step (step_lone_select_send_nil (v := pt w.heap.size) (z' := .pointer none)
    (stepG_comm (cases := #[scaseNil (pt w.heap.size) (.pointer none)]) (blocking := false) (shape := .select) (w' := W) rfl rfl (by decide) (by simp [go_sem, execOp, scaseNil, Act.eval]))) ?_
  rw [Frame.finish_at]
  walk_nrm
  refine LoneTo.goes (n := 60) ?_
  s_op
  s_op
  s_c stepG_region_end
  s_c stepG_block
  s_cond false
  s_c stepG_seq
  s_reg
  s_op
  s_c stepG_region_end
  s_c stepG_ret'
  s_stop
  refine LoneTo.done ⟨.returned (.bool false), _, rfl, ⟨rfl, hBW⟩, rfl, rfl, rfl, rfl, _, Try.func6, by simp [results, Try.f6, Frame.at]⟩
theorem put_nil (w : World) (x : Ev) (hx : x.deps.length = 16) :
    Calls Try.prog 6 #[.pointer none, .agg (evc x)] w fun e w' => e = .returned (.bool false) ∧ Below w.heap.size w w' := by
  refine calls_of_loneTo fun cs => ?_
  have e : Frame.enter Try.prog 6 #[.pointer none, .agg (evc x)] .normal = (base 6).at ⟨#[.pointer none, .agg (evc x), undef, undef, undef, undef, undef, undef, undef, undef, undef, undef, undef, undef], []⟩ [.code (Try.f6.body.getD .skip)] := by
    simp [Frame.enter, Frame.at, Try.func6, base, Try.f6]
  rw [e]
  obtain ⟨W, hW⟩ : ∃ W, w.alloc (.cells (evc x) 33) = W := ⟨_, rfl⟩
  have hBW : Below w.heap.size w W := by rw [← hW]; exact (Below.refl _ w).alloc (Nat.le_refl _) _
  have hb := box_ev w x hx
  rw [hW] at hb
  refine LoneTo.goes (n := 60) ?_
  simp only [Try.f6, Option.getD_some]
  s_c stepG_seq
  s_reg
  s_in
  rw [stepG_value (v := pt w.heap.size) (w' := W) rfl rfl (by decide) (exec_box rfl rfl hb)]
  simp only [goes_go]
  refine ⟨trivial, ?_⟩
  walk_nrm
  s_op
  s_c stepG_region_end
  s_c stepG_seq
  s_c stepG_seq
  s_reg
  s_op
  s_op
  s_c stepG_region_end
  s_cond true
  s_c stepG_seq
  s_reg
  s_op
  s_c stepG_region_end
  s_c stepG_ret'
  s_stop
  refine LoneTo.done ⟨.returned (.bool false), _, rfl, ⟨rfl, hBW⟩, rfl, rfl, rfl, rfl, _, Try.func6, by simp [results, Try.f6, Frame.at]⟩
theorem alloc_ev (w : World) : (Instr.alloc 33 true (.tuple #[])).run Try.prog w = .ok (pt w.heap.size) (w.alloc (.cells (evc zv) 33)) := by
  simp [go_sem]
  exact ⟨rfl, rfl⟩
theorem exec_alloc {o : Oper} {a : Act} {w W : World} {t : TypeId} {p : Value} (ho : o.op = .alloc t) (hr : (Instr.alloc t true (.tuple #[])).run Try.prog w = .ok p W) : (execOp a.eval o).run Try.prog w = .ok (.value p) W := by
  unfold execOp; simp only [ho, Sem.run_bind, hr, Result.andThen_ok, Sem.run_pure]
theorem store_ev_run {w : World} {g : Nat} {e e' : Ev} (h : LiesE w g e') (hl : e.deps.length = 16) (hl' : e'.deps.length = 16) : (storeVar 33 ⟨g, 0, none⟩ (.agg (evc e))).run Try.prog w = .ok () (w.setRow g (evc e)) :=
  run_storeVar_row w g 33 33 _ _ h (size26 e hl) (by rw [evc_size e hl, evc_size e' hl']) (evc_one e)
theorem res_ev2 {fn : Func} {tmps : Array Value} {w : World} {p u : Tmp} {g : Nat} {e : Ev} {v : Value} (h : fn.results = #[.cell p 33, .tmp u]) (hp : tmps.getD p undef = pt g) (hu : tmps.getD u undef = v) (hg : LiesE w g e) (hl : e.deps.length = 16) :
    (results fn tmps).run Try.prog w = .ok (.tuple #[.agg (evc e), v]) w := by
  rw [results_cell_tmp h, hp, hu]
  simp only [pt, asAddr, Sem.run_pure, Result.andThen_ok, run_loadVar_row w g 33 33 _ (0, 0) _ hg Try.underlying33 rfl (size26 e hl)]
theorem take_some {w : World} {b c cap p : Nat} {x : Ev} {Q : List (Nat × Ev)} (h : Bx w b c cap ((p, x) :: Q)) :
    Calls Try.prog 7 #[pt b] w fun e w' => e = .returned (.tuple #[.agg (evc x), .bool true]) ∧ Bx w' b c cap Q ∧ Below c w w' := by
  refine calls_of_loneTo fun cs => ?_
  have e : Frame.enter Try.prog 7 #[pt b] .normal = (base 7).at ⟨#[pt b, undef, undef, undef, undef, undef, undef, undef, undef, undef, undef, undef, undef, undef, undef, undef, undef, undef, undef, undef, undef], []⟩ [.code (Try.f7.body.getD .skip)] := by
    simp [Frame.enter, Frame.at, Try.func7, base, Try.f7]
  rw [e]
  obtain ⟨g, hg⟩ : ∃ g, w.heap.size = g := ⟨_, rfl⟩
  have ha1 := alloc_ev w
  have hL1 := liesE_new w zv
  have hB1 : Below w.heap.size w (w.alloc (.cells (evc zv) 33)) := (Below.refl _ w).alloc (Nat.le_refl _) _
  generalize hW1 : w.alloc (.cells (evc zv) 33) = W1 at *
  have ha2 := alloc_ev W1
  have hL2 := liesE_new W1 zv
  have hB2 : Below W1.heap.size W1 (W1.alloc (.cells (evc zv) 33)) := (Below.refl _ W1).alloc (Nat.le_refl _) _
  generalize hW2 : W1.alloc (.cells (evc zv) 33) = W at *
  rw [hg] at ha1 hL1
  have hL1 := hL1.below hB2 (lt_of_heap hL1)
  have hBW : Below w.heap.size w W := hB1.trans (hB2.mono hB1.size)
  obtain ⟨g2, hg2⟩ : ∃ g2, W1.heap.size = g2 := ⟨_, rfl⟩
  rw [hg2] at ha2 hL2
  have h1 := h.below hBW
  have hcl := h.lt
  have hl := box_cell h1.box
  obtain ⟨s, r, h2⟩ := h1.ch
  refine LoneTo.goes (n := 60) ?_
  simp only [Try.f7, Option.getD_some]
  s_c stepG_seq
  s_reg
  s_in
  rw [stepG_value (v := pt g) (w' := W1) rfl rfl (by decide) (exec_alloc rfl ha1)]
  simp only [goes_go]
  refine ⟨trivial, ?_⟩
  walk_nrm
  s_op
  s_c stepG_region_end
  s_c stepG_seq
  s_reg
  s_in
  rw [stepG_value (v := pt g2) (w' := W) rfl rfl (by decide) (exec_alloc rfl ha2)]
  simp only [goes_go]
  refine ⟨trivial, ?_⟩
  walk_nrm
  s_c stepG_region_end
  s_c stepG_seq
  s_c stepG_seq
  s_reg
  s_op
  s_op
  s_c stepG_region_end
  s_cond false
  s_c stepG_skip
  s_c stepG_seq
  s_reg
  s_op
  s_op
  s_op
  s_op
  s_c stepG_region_end
  s_c stepG_seq
  s_reg
  s_stop
  refine LoneTo.step (step_lone_select_recv_buf (c := c) (z := .pointer none) (cap := cap) (buf := (((p, x) :: Q).map (fun p => pt p.1)).toArray) (closed := false) (s := s) (r := r) (tm := false)
    (stepG_comm (cases := #[rcase c (.pointer none)]) (blocking := false) (shape := .select) (w' := W) rfl rfl (by decide) (by simp [go_sem, execOp, rcase, Act.eval])) h2 (by simp)) ?_
  have hx3 := h1.its (p, x) (by simp)
  have hcg : c ≠ g := by omega
  have hX9 := h1.chan (s := s) (r := r + 1) Q (fun q hq => h1.its q (List.mem_cons_of_mem _ hq)) ((((p, x) :: Q).map (fun p => pt p.1)).toArray.extract 1 (((p, x) :: Q).map (fun p => pt p.1)).toArray.size) (by simp [List.take_of_length_le])
  have hB9 := below_setChan (h.below_c hBW) (Nat.le_refl c) cap ((((p, x) :: Q).map (fun p => pt p.1)).toArray.extract 1 (((p, x) :: Q).map (fun p => pt p.1)).toArray.size) false s (r + 1) false
  have hx9 : LiesE (W.setChan c cap ((((p, x) :: Q).map (fun p => pt p.1)).toArray.extract 1 (((p, x) :: Q).map (fun p => pt p.1)).toArray.size) false s (r + 1) false) p x := by
    have hcp : c ≠ p := fun e => by
      have := hx3.1
      rw [LiesE, ← e, h2] at this
      cases this
    show (W.setChan c cap _ false s (r + 1) false).heap[p]? = _
    rw [setChan_other _ _ _ _ _ _ _ _ _ hcp]
    exact hx3.1
  have hg9 : LiesE (W.setChan c cap ((((p, x) :: Q).map (fun p => pt p.1)).toArray.extract 1 (((p, x) :: Q).map (fun p => pt p.1)).toArray.size) false s (r + 1) false) g zv := by
    show (W.setChan c cap _ false s (r + 1) false).heap[g]? = _
    rw [setChan_other _ _ _ _ _ _ _ _ _ hcg]
    exact hL1
  generalize W.setChan c cap ((((p, x) :: Q).map (fun p => pt p.1)).toArray.extract 1 (((p, x) :: Q).map (fun p => pt p.1)).toArray.size) false s (r + 1) false = W9 at *
  have hpv : (((p, x) :: Q).map (fun p => pt p.1)).toArray.getD 0 undef = pt p := by simp
  rw [hpv]
  have hc9 : W9.cell? ⟨p, 0, none⟩ = some (.int .i64 x.r) := hx9.c0
  rw [Frame.finish_at]
  walk_nrm
  refine LoneTo.goes (n := 60) ?_
  s_op
  s_op
  s_c stepG_region_end
  s_c stepG_block
  s_cond true
  s_c stepG_seq
  s_reg
  s_op
  s_op
  s_c stepG_region_end
  s_c stepG_seq
  s_reg
  s_op
  s_op
  s_in
  rw [stepG_value (v := .agg (evc x)) (w' := W9) rfl rfl (by decide) (exec_load (ad := ⟨p, 0, none⟩) rfl rfl (load_ev_run hx9 hx3.2))]
  simp only [goes_go]
  refine ⟨trivial, ?_⟩
  walk_nrm
  s_in
  rw [stepG_none (w' := W9.setRow g (evc x)) rfl rfl (by decide) (exec_store (ad := ⟨g, 0, none⟩) rfl rfl rfl (store_ev_run hg9 hx3.2 rfl))]
  simp only [goes_go]
  refine ⟨trivial, ?_⟩
  walk_nrm
  s_op
  s_c stepG_region_end
  s_c stepG_ret'
  s_stop
  refine LoneTo.done ⟨.returned (.tuple #[.agg (evc x), .bool true]), _, rfl, ⟨rfl, hX9.row (by omega) (by omega) (fun q hq => by have := lt_of_heap (h.its q (List.mem_cons_of_mem _ hq)).1; omega) _, below_setRow hB9 (by omega) _⟩, rfl, rfl, rfl, rfl, _, Try.func7, ?_⟩
  exact res_ev2 (fn := Try.f7) (p := 2) (u := 3) (g := g) rfl rfl rfl (hg9.row x) hx3.2
theorem take_none {w : World} {b c cap : Nat} (h : Bx w b c cap []) :
    Calls Try.prog 7 #[pt b] w fun e w' => e = .returned (.tuple #[.agg (evc zv), .bool false]) ∧ Below w.heap.size w w' := by
  refine calls_of_loneTo fun cs => ?_
  have e : Frame.enter Try.prog 7 #[pt b] .normal = (base 7).at ⟨#[pt b, undef, undef, undef, undef, undef, undef, undef, undef, undef, undef, undef, undef, undef, undef, undef, undef, undef, undef, undef, undef], []⟩ [.code (Try.f7.body.getD .skip)] := by
    simp [Frame.enter, Frame.at, Try.func7, base, Try.f7]
  rw [e]
  obtain ⟨g, hg⟩ : ∃ g, w.heap.size = g := ⟨_, rfl⟩
  have ha1 := alloc_ev w
  have hL1 := liesE_new w zv
  have hB1 : Below w.heap.size w (w.alloc (.cells (evc zv) 33)) := (Below.refl _ w).alloc (Nat.le_refl _) _
  generalize hW1 : w.alloc (.cells (evc zv) 33) = W1 at *
  have ha2 := alloc_ev W1
  have hL2 := liesE_new W1 zv
  have hB2 : Below W1.heap.size W1 (W1.alloc (.cells (evc zv) 33)) := (Below.refl _ W1).alloc (Nat.le_refl _) _
  generalize hW2 : W1.alloc (.cells (evc zv) 33) = W at *
  rw [hg] at ha1 hL1
  have hL1 := hL1.below hB2 (lt_of_heap hL1)
  have hBW : Below w.heap.size w W := hB1.trans (hB2.mono hB1.size)
  obtain ⟨g2, hg2⟩ : ∃ g2, W1.heap.size = g2 := ⟨_, rfl⟩
  rw [hg2] at ha2 hL2
  have h1 := h.below hBW
  have hl := box_cell h1.box
  obtain ⟨s, r, h2⟩ := h1.ch
  refine LoneTo.goes (n := 60) ?_
  simp only [Try.f7, Option.getD_some]
  s_c stepG_seq
  s_reg
  s_in
  rw [stepG_value (v := pt g) (w' := W1) rfl rfl (by decide) (exec_alloc rfl ha1)]
  simp only [goes_go]
  refine ⟨trivial, ?_⟩
  walk_nrm
  s_op
  s_c stepG_region_end
  s_c stepG_seq
  s_reg
  s_in
  rw [stepG_value (v := pt g2) (w' := W) rfl rfl (by decide) (exec_alloc rfl ha2)]
  simp only [goes_go]
  refine ⟨trivial, ?_⟩
  walk_nrm
  s_c stepG_region_end
  s_c stepG_seq
  s_c stepG_seq
  s_reg
  s_op
  s_op
  s_c stepG_region_end
  s_cond false
  s_c stepG_skip
  s_c stepG_seq
  s_reg
  s_op
  s_op
  s_op
  s_op
  s_c stepG_region_end
  s_c stepG_seq
  s_reg
  s_stop
  refine LoneTo.step (step_lone_select_default (c := c) (z := .pointer none) (cap := cap) (s := s) (r := r) (tm := false)
    (stepG_comm (cases := #[rcase c (.pointer none)]) (blocking := false) (shape := .select) (w' := W) rfl rfl (by decide) (by simp [go_sem, execOp, rcase, Act.eval])) h2) ?_
  rw [Frame.finish_at]
  walk_nrm
  refine LoneTo.goes (n := 60) ?_
  s_op
  s_op
  s_c stepG_region_end
  s_c stepG_block
  s_cond false
  s_c stepG_seq
  s_reg
  s_in
  rw [stepG_value (v := .agg (evc zv)) (w' := W) rfl rfl (by decide) (exec_load (ad := ⟨g2, 0, none⟩) rfl rfl (load_ev_run hL2 rfl))]
  simp only [goes_go]
  refine ⟨trivial, ?_⟩
  walk_nrm
  s_in
  rw [stepG_none (w' := W.setRow g (evc zv)) rfl rfl (by decide) (exec_store (ad := ⟨g, 0, none⟩) rfl rfl rfl (store_ev_run hL1 rfl rfl))]
  simp only [goes_go]
  refine ⟨trivial, ?_⟩
  walk_nrm
  s_op
  s_c stepG_region_end
  s_c stepG_ret'
  s_stop
  refine LoneTo.done ⟨.returned (.tuple #[.agg (evc zv), .bool false]), _, rfl, ⟨rfl, below_setRow hBW (by rw [hg]; exact Nat.le_refl _) _⟩, rfl, rfl, rfl, rfl, _, Try.func7, ?_⟩
  exact res_ev2 (fn := Try.f7) (p := 2) (u := 3) (g := g) rfl rfl rfl (hL1.row zv) rfl
theorem take_zero {w : World} {b : Nat} (h : w.heap[b]? = some (.cells #[.chan none] 39 (0, 0))) :
    Calls Try.prog 7 #[pt b] w fun e w' => e = .returned (.tuple #[.agg (evc zv), .bool false]) ∧ Below w.heap.size w w' := by
  refine calls_of_loneTo fun cs => ?_
  have e : Frame.enter Try.prog 7 #[pt b] .normal = (base 7).at ⟨#[pt b, undef, undef, undef, undef, undef, undef, undef, undef, undef, undef, undef, undef, undef, undef, undef, undef, undef, undef, undef, undef], []⟩ [.code (Try.f7.body.getD .skip)] := by
    simp [Frame.enter, Frame.at, Try.func7, base, Try.f7]
  rw [e]
  obtain ⟨g, hg⟩ : ∃ g, w.heap.size = g := ⟨_, rfl⟩
  have ha1 := alloc_ev w
  have hL1 := liesE_new w zv
  have hB1 : Below w.heap.size w (w.alloc (.cells (evc zv) 33)) := (Below.refl _ w).alloc (Nat.le_refl _) _
  generalize hW1 : w.alloc (.cells (evc zv) 33) = W1 at *
  have ha2 := alloc_ev W1
  have hL2 := liesE_new W1 zv
  have hB2 : Below W1.heap.size W1 (W1.alloc (.cells (evc zv) 33)) := (Below.refl _ W1).alloc (Nat.le_refl _) _
  generalize hW2 : W1.alloc (.cells (evc zv) 33) = W at *
  rw [hg] at ha1 hL1
  have hL1 := hL1.below hB2 (lt_of_heap hL1)
  have hBW : Below w.heap.size w W := hB1.trans (hB2.mono hB1.size)
  obtain ⟨g2, hg2⟩ : ∃ g2, W1.heap.size = g2 := ⟨_, rfl⟩
  rw [hg2] at ha2 hL2
  have hl : W.cell? ⟨b, 0, none⟩ = some (.chan none) := box_cell (by rw [hBW.block b (lt_of_heap h)]; exact h)
  refine LoneTo.goes (n := 60) ?_
  simp only [Try.f7, Option.getD_some]
  s_c stepG_seq
  s_reg
  s_in
  rw [stepG_value (v := pt g) (w' := W1) rfl rfl (by decide) (exec_alloc rfl ha1)]
  simp only [goes_go]
  refine ⟨trivial, ?_⟩
  walk_nrm
  s_op
  s_c stepG_region_end
  s_c stepG_seq
  s_reg
  s_in
  rw [stepG_value (v := pt g2) (w' := W) rfl rfl (by decide) (exec_alloc rfl ha2)]
  simp only [goes_go]
  refine ⟨trivial, ?_⟩
  walk_nrm
  s_c stepG_region_end
  s_c stepG_seq
  s_c stepG_seq
  s_reg
  s_op
  s_op
  s_c stepG_region_end
  s_cond false
  s_c stepG_skip
  s_c stepG_seq
  s_reg
  s_op
  s_op
  s_op
  s_op
  s_c stepG_region_end
  s_c stepG_seq
  s_reg
  s_stop
  refine LoneTo.step (step_lone_select_recv_nil (z := .pointer none)
    (stepG_comm (cases := #[rcaseNil (.pointer none)]) (blocking := false) (shape := .select) (w' := W) rfl rfl (by decide) (by simp [go_sem, execOp, rcaseNil, Act.eval]))) ?_
  rw [Frame.finish_at]
  walk_nrm
  refine LoneTo.goes (n := 60) ?_
  s_op
  s_op
  s_c stepG_region_end
  s_c stepG_block
  s_cond false
  s_c stepG_seq
  s_reg
  s_in
  rw [stepG_value (v := .agg (evc zv)) (w' := W) rfl rfl (by decide) (exec_load (ad := ⟨g2, 0, none⟩) rfl rfl (load_ev_run hL2 rfl))]
  simp only [goes_go]
  refine ⟨trivial, ?_⟩
  walk_nrm
  s_in
  rw [stepG_none (w' := W.setRow g (evc zv)) rfl rfl (by decide) (exec_store (ad := ⟨g, 0, none⟩) rfl rfl rfl (store_ev_run hL1 rfl rfl))]
  simp only [goes_go]
  refine ⟨trivial, ?_⟩
  walk_nrm
  s_op
  s_c stepG_region_end
  s_c stepG_ret'
  s_stop
  refine LoneTo.done ⟨.returned (.tuple #[.agg (evc zv), .bool false]), _, rfl, ⟨rfl, below_setRow hBW (by rw [hg]; exact Nat.le_refl _) _⟩, rfl, rfl, rfl, rfl, _, Try.func7, ?_⟩
  exact res_ev2 (fn := Try.f7) (p := 2) (u := 3) (g := g) rfl rfl rfl (hL1.row zv) rfl
theorem take_nil (w : World) :
    Calls Try.prog 7 #[.pointer none] w fun e w' => e = .returned (.tuple #[.agg (evc zv), .bool false]) ∧ Below w.heap.size w w' := by
  refine calls_of_loneTo fun cs => ?_
  have e : Frame.enter Try.prog 7 #[.pointer none] .normal = (base 7).at ⟨#[.pointer none, undef, undef, undef, undef, undef, undef, undef, undef, undef, undef, undef, undef, undef, undef, undef, undef, undef, undef, undef, undef], []⟩ [.code (Try.f7.body.getD .skip)] := by
    simp [Frame.enter, Frame.at, Try.func7, base, Try.f7]
  rw [e]
  obtain ⟨g, hg⟩ : ∃ g, w.heap.size = g := ⟨_, rfl⟩
  have ha1 := alloc_ev w
  have hL1 := liesE_new w zv
  have hB1 : Below w.heap.size w (w.alloc (.cells (evc zv) 33)) := (Below.refl _ w).alloc (Nat.le_refl _) _
  generalize hW1 : w.alloc (.cells (evc zv) 33) = W1 at *
  have ha2 := alloc_ev W1
  have hL2 := liesE_new W1 zv
  have hB2 : Below W1.heap.size W1 (W1.alloc (.cells (evc zv) 33)) := (Below.refl _ W1).alloc (Nat.le_refl _) _
  generalize hW2 : W1.alloc (.cells (evc zv) 33) = W at *
  rw [hg] at ha1 hL1
  have hL1 := hL1.below hB2 (lt_of_heap hL1)
  have hBW : Below w.heap.size w W := hB1.trans (hB2.mono hB1.size)
  obtain ⟨g2, hg2⟩ : ∃ g2, W1.heap.size = g2 := ⟨_, rfl⟩
  rw [hg2] at ha2 hL2
  refine LoneTo.goes (n := 60) ?_
  simp only [Try.f7, Option.getD_some]
  s_c stepG_seq
  s_reg
  s_in
  rw [stepG_value (v := pt g) (w' := W1) rfl rfl (by decide) (exec_alloc rfl ha1)]
  simp only [goes_go]
  refine ⟨trivial, ?_⟩
  walk_nrm
  s_op
  s_c stepG_region_end
  s_c stepG_seq
  s_reg
  s_in
  rw [stepG_value (v := pt g2) (w' := W) rfl rfl (by decide) (exec_alloc rfl ha2)]
  simp only [goes_go]
  refine ⟨trivial, ?_⟩
  walk_nrm
  s_c stepG_region_end
  s_c stepG_seq
  s_c stepG_seq
  s_reg
  s_op
  s_op
  s_c stepG_region_end
  s_cond true
  s_c stepG_seq
  s_reg
  s_in
  rw [stepG_value (v := .agg (evc zv)) (w' := W) rfl rfl (by decide) (exec_load (ad := ⟨g2, 0, none⟩) rfl rfl (load_ev_run hL2 rfl))]
  simp only [goes_go]
  refine ⟨trivial, ?_⟩
  walk_nrm
  s_in
  rw [stepG_none (w' := W.setRow g (evc zv)) rfl rfl (by decide) (exec_store (ad := ⟨g, 0, none⟩) rfl rfl rfl (store_ev_run hL1 rfl rfl))]
  simp only [goes_go]
  refine ⟨trivial, ?_⟩
  walk_nrm
  s_op
  s_c stepG_region_end
  s_c stepG_ret'
  s_stop
  refine LoneTo.done ⟨.returned (.tuple #[.agg (evc zv), .bool false]), _, rfl, ⟨rfl, below_setRow hBW (by rw [hg]; exact Nat.le_refl _) _⟩, rfl, rfl, rfl, rfl, _, Try.func7, ?_⟩
  exact res_ev2 (fn := Try.f7) (p := 2) (u := 3) (g := g) rfl rfl rfl (hL1.row zv) rfl
theorem blen_nil (w : World) : Calls Try.prog 8 #[.pointer none] w fun e w' => e = .returned (.int .i64 0) ∧ w' = w := by
  refine calls_of_loneTo fun cs => ?_
  have e : Frame.enter Try.prog 8 #[.pointer none] .normal = (base 8).at ⟨#[.pointer none, undef, undef, undef, undef, undef, undef, undef, undef, undef], []⟩ [.code (Try.f8.body.getD .skip)] := by
    simp [Frame.enter, Frame.at, Try.func8, base, Try.f8]
  rw [e]
  refine LoneTo.goes (n := 60) ?_
  simp only [Try.f8, Option.getD_some]
  s_c stepG_seq
  s_reg
  s_op
  s_c stepG_region_end
  s_c stepG_seq
  s_c stepG_seq
  s_reg
  s_op
  s_op
  s_c stepG_region_end
  s_cond true
  s_c stepG_seq
  s_reg
  s_op
  s_c stepG_region_end
  s_c stepG_ret'
  s_stop
  refine LoneTo.done ⟨.returned (.int .i64 0), _, rfl, ⟨rfl, rfl⟩, rfl, rfl, rfl, rfl, _, Try.func8, by simp [results, Try.f8, Frame.at]⟩
theorem blen_zero {w : World} {b : Nat} (h : w.heap[b]? = some (.cells #[.chan none] 39 (0, 0))) : Calls Try.prog 8 #[pt b] w fun e w' => e = .returned (.int .i64 0) ∧ w' = w := by
  refine calls_of_loneTo fun cs => ?_
  have e : Frame.enter Try.prog 8 #[pt b] .normal = (base 8).at ⟨#[pt b, undef, undef, undef, undef, undef, undef, undef, undef, undef], []⟩ [.code (Try.f8.body.getD .skip)] := by
    simp [Frame.enter, Frame.at, Try.func8, base, Try.f8]
  rw [e]
  have hl : w.cell? ⟨b, 0, none⟩ = some (.chan none) := box_cell h
  refine LoneTo.goes (n := 60) ?_
  simp only [Try.f8, Option.getD_some]
  s_c stepG_seq
  s_reg
  s_op
  s_c stepG_region_end
  s_c stepG_seq
  s_c stepG_seq
  s_reg
  s_op
  s_op
  s_c stepG_region_end
  s_cond false
  s_c stepG_skip
  s_c stepG_seq
  s_reg
  s_op
  s_op
  s_op
  s_op
  s_op
  s_op
  s_c stepG_region_end
  s_c stepG_ret'
  s_stop
  refine LoneTo.done ⟨.returned (.int .i64 0), _, rfl, ⟨rfl, rfl⟩, rfl, rfl, rfl, rfl, _, Try.func8, by simp [results, Try.f8, Frame.at]⟩
theorem bnew_any (w : World) {n : Nat} (hn : n ≤ 65536) : Calls Try.prog 5 #[.int .i64 (n : Int)] w fun e w' => ∃ b c, e = .returned (pt b) ∧ Bx w' b c n [] ∧ w.heap.size ≤ b ∧ w.heap.size ≤ c ∧ Below w.heap.size w w' := by
  refine calls_of_loneTo fun cs => ?_
  have e : Frame.enter Try.prog 5 #[.int .i64 (n : Int)] .normal = (base 5).at ⟨#[.int .i64 (n : Int), undef, undef, undef, undef, undef, undef, undef, undef], []⟩ [.code (Try.f5.body.getD .skip)] := by
    simp [Frame.enter, Frame.at, Try.func5, base, Try.f5]
  rw [e]
  have hmx : ¬ ((n : Int) < 0) := by omega
  have hmn : ¬ ((65536 : Int) < (n : Int)) := by omega
  have hmk : (Instr.makeChan 37 (.int .i64 (n : Int))).run Try.prog w = .ok (.chan (some w.heap.size)) (w.alloc (.chan n #[] false 0 0 false)) := by
    have h : (Try.prog.info? 46).map (·.bytes) = some 8 := by kernel_rfl
    obtain ⟨i, hi, hb⟩ := Option.map_eq_some_iff.1 h
    exact run_makeChan (P := Try.prog) (w := w) Try.underlying37 hi .i64 n (by omega) (by rw [hb]; omega)
  have hBW : Below w.heap.size w (w.alloc (.chan n #[] false 0 0 false)) := (Below.refl _ w).alloc (Nat.le_refl _) _
  have hcn := heap_alloc_new w (.chan n #[] false 0 0 false)
  generalize w.alloc (.chan n #[] false 0 0 false) = W at *
  have hBV : Below W.heap.size W (W.alloc (.cells #[.chan (some w.heap.size)] 39)) := (Below.refl _ W).alloc (Nat.le_refl _) _
  have hbn := heap_alloc_new W (.cells #[.chan (some w.heap.size)] 39)
  have hcV : (W.alloc (.cells #[.chan (some w.heap.size)] 39)).heap[w.heap.size]? = some (.chan n #[] false 0 0 false) := by rw [hBV.block _ (lt_of_heap hcn)]; exact hcn
  refine LoneTo.goes (n := 60) ?_
  simp only [Try.f5, Option.getD_some]
  s_c stepG_seq
  s_reg
  s_op
  s_c stepG_region_end
  s_c stepG_seq
  s_reg
  s_op
  s_op
  s_op
  s_op
  s_op
  s_op
  s_op
  s_c stepG_region_end
  s_c stepG_ret'
  s_stop
  refine LoneTo.done ⟨.returned (pt W.heap.size), _, rfl, ⟨W.heap.size, w.heap.size, rfl, ⟨hbn, ⟨0, 0, hcV⟩, fun p hp => absurd hp (List.not_mem_nil)⟩, hBW.size, Nat.le_refl _, hBW.trans (hBV.mono hBW.size)⟩, rfl, rfl, rfl, rfl, _, Try.func5, by simp [results, Try.f5, Frame.at, pt]⟩
end Go.Proofs.Yteanpepmncgagab
