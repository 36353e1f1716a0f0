/-
  What a log tells, plainly.
-/
import Derived.Test.YteanpepmncgagaaGba
namespace Go.Proofs.Yteanpepmncgagaa
set_option maxRecDepth 100000
open Go.RowKit

/-- May it be told to one who has seen v? -/
def tellE (v t : List Int) (e : Ev) : Bool := hasv t e.r e.n && !hasv v e.r e.n
def forE (E : List Ev) (v t : List Int) (m : Int) : List Ev := (E.filter (tellE v t)).take m.toNat
def trimE (E : List Ev) (v : List Int) : List Ev := E.filter fun e => !hasv v e.r e.n
theorem trim_len (E : List Ev) (v : List Int) : (trimE E v).length ≤ E.length := List.length_filter_le _ _
theorem for_len (E : List Ev) (v t : List Int) (m : Int) : (forE E v t m).length ≤ E.length := by
  unfold forE
  have := List.length_filter_le (tellE v t) E
  rw [List.length_take]; omega
theorem for_mem {E : List Ev} {v t : List Int} {m : Int} {e : Ev} (h : e ∈ forE E v t m) : e ∈ E := (List.mem_filter.1 (List.mem_of_mem_take h)).1
theorem trim_mem {E : List Ev} {v : List Int} {e : Ev} (h : e ∈ trimE E v) : e ∈ E := (List.mem_filter.1 h).1
theorem filter_snoc {p : Ev → Bool} {E : List Ev} {i : Nat} {u : Ev} (h : E[i]? = some u) : (E.take (i + 1)).filter p = (E.take i).filter p ++ if p u = true then [u] else [] := by
  rw [take_snoc h, List.filter_append, List.filter_cons, List.filter_nil]
theorem take_app_one {α : Type} (L : List α) (x : α) (m : Nat) (h : (L.take m).length < m) : (L ++ [x]).take m = L.take m ++ [x] := by
  have hl : L.length < m := by rw [List.length_take] at h; omega
  have h2 : (L ++ [x]).length ≤ m := by rw [List.length_append]; simp; omega
  rw [List.take_of_length_le (Nat.le_of_lt hl), List.take_of_length_le h2]
theorem take_app_full {α : Type} (L M : List α) (m : Nat) (h : m ≤ (L.take m).length) : (L ++ M).take m = L.take m := by
  have hl : m ≤ L.length := by rw [List.length_take] at h; omega
  rw [List.take_append_of_le_length hl]
/-- One event more, that is told. -/
theorem for_step {E : List Ev} {v t : List Int} {m : Int} {i : Nat} {u : Ev} (h : E[i]? = some u) (hp : tellE v t u = true) (hl : ((forE (E.take i) v t m).length : Int) < m) : forE (E.take (i + 1)) v t m = forE (E.take i) v t m ++ [u] := by
  unfold forE at *
  rw [filter_snoc h, if_pos hp, take_app_one]
  omega
theorem for_skip {E : List Ev} {v t : List Int} {m : Int} {i : Nat} {u : Ev} (h : E[i]? = some u) (hp : tellE v t u = false) : forE (E.take (i + 1)) v t m = forE (E.take i) v t m := by
  unfold forE
  rw [filter_snoc h, if_neg (by rw [hp]; decide), List.append_nil]
theorem for_full {E : List Ev} {v t : List Int} {m : Int} {i : Nat} (hl : m ≤ ((forE (E.take i) v t m).length : Int)) : forE E v t m = forE (E.take i) v t m := by
  have e : E.filter (tellE v t) = (E.take i).filter (tellE v t) ++ (E.drop i).filter (tellE v t) := by rw [← List.filter_append, List.take_append_drop]
  unfold forE at *
  rw [e, take_app_full]
  omega
theorem for_more {E : List Ev} {v t : List Int} {m : Int} {i : Nat} (hl : m ≤ ((forE (E.take i) v t m).length : Int)) : forE (E.take (i + 1)) v t m = forE (E.take i) v t m := by
  have h1 : (E.take (i + 1)).take i = E.take i := by rw [List.take_take, Nat.min_eq_left (Nat.le_succ i)]
  have := for_full (E := E.take (i + 1)) (i := i) (by rw [h1]; exact hl)
  rw [this, h1]
theorem for_zero (v t : List Int) (m : Int) : forE [] v t m = [] := by simp [forE]
theorem trim_step {E : List Ev} {v : List Int} {i : Nat} {u : Ev} (h : E[i]? = some u) : trimE (E.take (i + 1)) v = trimE (E.take i) v ++ if hasv v u.r u.n = false then [u] else [] := by
  unfold trimE
  rw [filter_snoc h]
  cases hasv v u.r u.n <;> rfl

/-- What a call may have turned: a log's block and its row; the row is then the old one, or a new one. -/
structure Tn (g : Nat) (m m' : Option Nat) (w w' : World) : Prop where
  os : w'.os = w.os
  tape : w'.tape = w.tape
  output : w'.output = w.output
  size : w.heap.size ≤ w'.heap.size
  block : ∀ k, k < w.heap.size → k ≠ g → m ≠ some k → w'.heap[k]? = w.heap[k]?
  own : ∀ k, m' = some k → m = some k ∨ w.heap.size ≤ k
theorem Tn.refl (g : Nat) (m : Option Nat) (w : World) : Tn g m m w w := ⟨rfl, rfl, rfl, Nat.le_refl _, fun _ _ _ _ => rfl, fun _ h => .inl h⟩
theorem Tn.trans {g : Nat} {m m' m'' : Option Nat} {a b c : World} (h : Tn g m m' a b) (k : Tn g m' m'' b c) : Tn g m m'' a c :=
  ⟨k.os.trans h.os, k.tape.trans h.tape, k.output.trans h.output, Nat.le_trans h.size k.size,
   fun i hi hg hv => (k.block i (Nat.lt_of_lt_of_le hi h.size) hg (fun e => by rcases h.own i e with h1 | h1; · exact hv h1
                                                                               · omega)).trans (h.block i hi hg hv),
   fun i hi => by
    rcases k.own i hi with h1 | h1
    · exact h.own i h1
    · exact .inr (Nat.le_trans h.size h1)⟩
theorem Tn.of_below {g : Nat} (m : Option Nat) {w w' : World} (h : Below w.heap.size w w') : Tn g m m w w' :=
  ⟨h.os, h.tape, h.output, h.size, fun k hk _ _ => h.block k hk, fun _ e => .inl e⟩
theorem Tn.below {g B : Nat} {m m' : Option Nat} {w w' : World} (h : Tn g m m' w w') (hB : B ≤ w.heap.size) (hg : B ≤ g) (hv : ∀ k, m = some k → B ≤ k) : Below B w w' :=
  ⟨h.os, h.tape, h.output, h.size, fun k hk => h.block k (by omega) (by omega) (fun e => by have := hv k e; omega)⟩
theorem grown_of_below {a b : World} (h : Below a.heap.size a b) (r : Option Nat) : a.grownBy b r := ⟨h.os, h.tape, h.output, h.size, fun k hk _ => h.block k hk⟩
theorem grown_tr {a b c : World} {row : Option Nat} (h : a.grownBy b row) (k : b.grownBy c row) : a.grownBy c row :=
  ⟨k.os.trans h.os, k.tape.trans h.tape, k.output.trans h.output, Nat.le_trans h.size k.size, fun i hi hr => (k.block i (Nat.lt_of_lt_of_le hi h.size) hr).trans (h.block i hi hr)⟩

/-- A log lies in a block: its one cell is a row of the program's own. -/
structure Lp (t : TypeId) (w : World) (g : Nat) (v : Value) (E : List Ev) : Prop where
  cell : w.heap[g]? = some (.cells #[v] t (0, 0))
  row : Row w 0 v E
  wide : ∀ e ∈ E, Wide e
section
variable {t : TypeId} {w w' : World} {g : Nat} {v v' : Value} {E : List Ev}
theorem Lp.lt (h : Lp t w g v E) : g < w.heap.size := (Array.getElem?_eq_some_iff.1 h.cell).1
theorem Lp.c0 (h : Lp t w g v E) : w.cell? ⟨g, 0, none⟩ = some v := by rw [cell_of_row w g 0 _ _ _ h.cell]; rfl
theorem Lp.val (h : Lp t w g v E) : ∃ ao c, v = .slice ao E.length c ∧ Evs w ao E.length c E := h.row.evs h.wide
theorem row_block {w : World} {base : Nat} {v : Value} {E : List Ev} (h : Row w base v E) {k : Nat} (hk : v.ownBlock = some k) : ∃ cur, w.heap[k]? = some (.cells cur 39 (0, 0)) := by
  rcases h.2 with ⟨rfl, -⟩ | ⟨g, cap, cur, rfl, hb, hg, rest⟩
  · cases hk
  · simp only [Value.ownBlock, Option.some.injEq] at hk
    subst hk
    exact ⟨cur, hg⟩
theorem Lp.rowLt (h : Lp t w g v E) {k : Nat} (hk : v.ownBlock = some k) : k < w.heap.size := by
  obtain ⟨cur, hc⟩ := row_block h.row hk
  exact (Array.getElem?_eq_some_iff.1 hc).1
theorem Lp.apart (h : Lp t w g v E) (ht : t ≠ 39) {k : Nat} (hk : v.ownBlock = some k) : k ≠ g := by
  rintro rfl
  obtain ⟨cur, hc⟩ := row_block h.row hk
  rw [h.cell] at hc
  injection hc with e1
  injection e1 with _ e2
  exact ht e2
theorem Lp.kept (h : Lp t w g v E) (hg : w'.heap[g]? = w.heap[g]?) (hr : ∀ k, v.ownBlock = some k → w'.heap[k]? = w.heap[k]?) : Lp t w' g v E := by
  refine ⟨hg.trans h.cell, ⟨h.row.1, ?_⟩, h.wide⟩
  rcases h.row.2 with hn | ⟨b, cap, cur, e, hbg, hb, rest⟩
  · exact .inl hn
  · exact .inr ⟨b, cap, cur, e, hbg, (hr b (by rw [e]; rfl)).trans hb, rest⟩
theorem Lp.below {B : Nat} (h : Lp t w g v E) (hb : Below B w w') (hB : w.heap.size ≤ B) : Lp t w' g v E :=
  h.kept (hb.block g (by have := h.lt; omega)) fun k hk => hb.block k (by have := h.rowLt hk; omega)
/-- Another log's call changes nothing here. -/
theorem Lp.other {t' : TypeId} {g' : Nat} {u : Value} {m' : Option Nat} {E' : List Ev} (h : Lp t w g v E) (ht : t ≠ 39) (h' : Lp t' w g' u E') (ht' : t' ≠ 39) (hT : Tn g' u.ownBlock m' w w') (hg : g ≠ g') (hr : ∀ k, v.ownBlock = some k → u.ownBlock ≠ some k) : Lp t w' g v E :=
  h.kept (hT.block g h.lt hg (fun e => h'.apart ht' e (by
      obtain ⟨cur, hc⟩ := row_block h'.row e
      rw [h.cell] at hc
      injection hc with e1
      injection e1 with _ e2
      exact absurd e2 ht))) fun k hk => hT.block k (h.rowLt hk) (by
      rintro rfl
      obtain ⟨cur, hc⟩ := row_block h.row hk
      rw [h'.cell] at hc
      injection hc with e1
      injection e1 with _ e2
      exact ht' e2) (hr k hk)
theorem lp_new (w : World) (t : TypeId) : Lp t (w.alloc (.cells #[.slice none 0 0] t)) w.heap.size (.slice none 0 0) [] :=
  ⟨heap_alloc_new w _, row_nil _ _, by simp⟩
theorem Lp.uniq {u : Value} (h : Lp t w g v E) (hc : w.heap[g]? = some (.cells #[u] t (0, 0))) : u = v := by
  rw [h.cell] at hc
  injection hc with e1
  injection e1 with e2 _
  simpa using e2.symm
end
theorem size_setC (w : World) (a : Addr) (v : Value) : (w.setCell a v).heap.size = w.heap.size := by simp [World.setCell]
theorem load_evs {w : World} {ad : Addr} {v : Value} (h : w.cell? ad = some v) : (loadVar 27 ad).run Try.prog w = .ok v w := by
  have h3 : Try.prog.underlying 27 = some (.slice 39) := Try.underlying27
  simp [loadVar, isAgg, run_underlying h3, Sem.run_bind, h]
theorem store_evs {w : World} {v : Value} {g i n c : Nat} {ao : Option Addr} (h : w.cell? ⟨g, i, none⟩ = some v) (hf : w.frozen? ⟨g, i, none⟩ = false) : (storeVar 27 ⟨g, i, none⟩ (.slice ao n c)).run Try.prog w = .ok () (w.setCell ⟨g, i, none⟩ (.slice ao n c)) := by
  have hs : (Try.prog.info? 27).map (·.size) = some 1 := by kernel_rfl
  cases hi : Try.prog.info? 27 with
  | none => rw [hi] at hs; cases hs
  | some i0 =>
    rw [hi] at hs
    have h1 : i0.size = 1 := by simpa using hs
    have h3 : Try.prog.underlying 27 = some (.slice 39) := Try.underlying27
    go_simp
/-- A log's cell is set to another row. -/
theorem set_log {t : TypeId} {w : World} {g n c : Nat} {v : Value} {ao : Option Addr} {F : List Ev} (h : w.heap[g]? = some (.cells #[v] t (0, 0))) (ht : t ≠ 39) (hr : Row w 0 (.slice ao n c) F) (hw : ∀ e ∈ F, Wide e) :
    (storeVar 27 ⟨g, 0, none⟩ (.slice ao n c)).run Try.prog w = .ok () (w.setCell ⟨g, 0, none⟩ (.slice ao n c)) ∧ Lp t (w.setCell ⟨g, 0, none⟩ (.slice ao n c)) g (.slice ao n c) F := by
  refine ⟨store_evs (v := v) (by rw [cell_of_row w g 0 _ _ _ h]; rfl) (frozen_of_row w g 0 _ _ h), by rw [heap_setCell_same w g 0 _ _ _ h]; rfl, ⟨hr.1, ?_⟩, hw⟩
  rcases hr.2 with hn | ⟨b, cap, cur, e, hbg, hb, rest⟩
  · exact .inl hn
  · refine .inr ⟨b, cap, cur, e, hbg, (Below.heap_setCell w ⟨g, 0, none⟩ _ b ?_).trans hb, rest⟩
    rintro rfl
    rw [h] at hb
    injection hb with e1
    injection e1 with _ e2
    exact ht e2
/-- One event more, step by step. -/
theorem push_log {t : TypeId} {w : World} {g : Nat} {v : Value} {E : List Ev} {e : Ev} (ty : TypeId) (h : Lp t w g v E) (ht : t ≠ 39) (he : Wide e) (hm : E.length + 1 ≤ 1048576) :
    ∃ a n c w1 w2 w3, (Instr.buildSlice 27 1 #[(0, .agg (evc e))]).run Try.prog w = .ok (.slice (some ⟨w.heap.size, 0, none⟩) 1 1) w1 ∧ Below w.heap.size w w1 ∧ Lp t w1 g v E ∧
      (Builtin.append_ #[27, 27] ty #[v, .slice (some ⟨w.heap.size, 0, none⟩) 1 1]).run Try.prog w1 = .ok (.slice a n c) w2 ∧ w2.cell? ⟨g, 0, none⟩ = some v ∧ w1.grownBy w2 v.ownBlock ∧
      (storeVar 27 ⟨g, 0, none⟩ (.slice a n c)).run Try.prog w2 = .ok () w3 ∧ Lp t w3 g (.slice a n c) (E ++ [e]) ∧ Tn g v.ownBlock (Value.slice a n c).ownBlock w w3 ∧ (∀ k, k < w2.heap.size → k ≠ g → w3.heap[k]? = w2.heap[k]?) := by
  have hb1 : Below w.heap.size w (w.alloc (.cells (evc e) 39)) := (Below.refl _ w).alloc (Nat.le_refl _) _
  have h1 := h.below hb1 (Nat.le_refl _)
  have hE := liesE_new w e
  have hF := evs_single (w.alloc (.cells (evc e) 39)) w.heap.size e he hE
  obtain ⟨v', w2, hr, hrow, hgr, hown⟩ := run_appE ty 0 v E h1.row (some ⟨w.heap.size, 0, none⟩) 1 1 [e] hF (by omega) (Nat.zero_le _)
  have hwide : ∀ x ∈ E ++ [e], Wide x := fun x hx => by
    rcases List.mem_append.1 hx with hx | hx
    · exact h.wide x hx
    · rw [List.mem_singleton.1 hx]; exact he
  obtain ⟨a, c, rfl, -⟩ := hrow.evs hwide
  have hc2 : w2.heap[g]? = some (.cells #[v] t (0, 0)) := (hgr.block g h1.lt (fun e1 => h1.apart ht e1.symm rfl)).trans h1.cell
  obtain ⟨hst, hL⟩ := set_log hc2 ht hrow hwide
  refine ⟨a, _, c, _, w2, _, run_build1 w e he.1, hb1, h1, hr, by rw [cell_of_row w2 g 0 _ _ _ hc2]; rfl, hgr, hst, hL, ⟨?_, ?_, ?_, ?_, fun k hk hkg hkv => ?_, fun k hk => ?_⟩, fun k _ hkg => Below.heap_setCell w2 ⟨g, 0, none⟩ _ k hkg⟩
  · exact hgr.os.trans hb1.os
  · exact hgr.tape.trans hb1.tape
  · exact hgr.output.trans hb1.output
  · have := hb1.size
    have := hgr.size
    rw [size_setC]; omega
  · rw [Below.heap_setCell w2 ⟨g, 0, none⟩ _ k hkg, hgr.block k (Nat.lt_of_lt_of_le hk hb1.size) (fun e1 => hkv e1.symm), hb1.block k hk]
  · rcases hown k hk with h3 | h3
    · exact .inl h3
    · exact .inr (Nat.le_trans hb1.size h3)
end Go.Proofs.Yteanpepmncgagaa
