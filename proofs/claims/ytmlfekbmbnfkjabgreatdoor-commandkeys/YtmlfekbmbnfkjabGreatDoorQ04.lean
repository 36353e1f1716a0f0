/-
  Lists of events in memory: as they come in, as a row of the program's own; one read out of the midst; append; slices.Clone.
-/
import Derived.Test.YtmlfekbmbnfkjabGreatDoorQ03
import Derived.Deep.MidRow
import Derived.Laws.OwnMore
import Derived.Great.BuildSlice
import Derived.BigQuiet
namespace Go.Proofs.YtmlfekbmbnfkjabGreatDoor
set_option maxRecDepth 100000
set_option maxRecDepth 100000
open Go.RowKit

def evs (E : List Ev) : List Value := E.flatMap evl
/-- As wide as the program's type. -/
def Wide (e : Ev) : Prop := e.deps.length = 16 ∧ Room e
theorem evs_length : ∀ {E : List Ev}, (∀ e ∈ E, Wide e) → (evs E).length = E.length * 26
  | [], _ => rfl
  | e :: E, h => by
    have ih := evs_length (E := E) (fun x hx => h x (by simp [hx]))
    have h1 := evl_length e (h e (by simp)).1
    have e1 : evs (e :: E) = evl e ++ evs E := by simp [evs]
    rw [e1, List.length_append, ih, h1, List.length_cons]; omega
theorem evs_append (E F : List Ev) : evs (E ++ F) = evs E ++ evs F := by simp [evs]
theorem evs_one (E : List Ev) : ∀ u ∈ evs E, u.oneCell' = true := by
  intro u hu
  obtain ⟨e, -, h⟩ := List.mem_flatMap.1 hu
  have := evc_one e
  rw [Array.all_eq_true_iff_forall_mem] at this
  exact this u (by simpa [evc] using h)
theorem evs_at : ∀ {E : List Ev}, (∀ e ∈ E, Wide e) → ∀ (i : Nat) (e : Ev), E[i]? = some e → ∀ (j : Nat) (v : Value), (evl e)[j]? = some v → (evs E)[i * 26 + j]? = some v
  | [], _, i, e, hi, j, v, hv => by simp at hi
  | x :: E, h, i, e, hi, j, v, hv => by
    have h1 := evl_length x (h x (by simp)).1
    have e1 : evs (x :: E) = evl x ++ evs E := by simp [evs]
    cases i with
    | zero =>
      have : x = e := by simpa using hi
      subst this
      have hj : j < 26 := by have := (List.getElem?_eq_some_iff.1 hv).1; omega
      rw [e1, Nat.zero_mul, Nat.zero_add, List.getElem?_append_left (by omega)]
      exact hv
    | succ i =>
      rw [e1, List.getElem?_append_right (by omega), h1, show (i + 1) * 26 + j - 26 = i * 26 + j by omega]
      exact evs_at (fun y hy => h y (by simp [hy])) i e (by simpa using hi) j v hv

/-- A list of events that came in. -/
structure Evs (w : World) (ao : Option Addr) (m c : Nat) (E : List Ev) : Prop where
  len : E.length = m
  room : m ≤ c
  top : c ≤ maxLen
  zero : ao = none → m = 0 ∧ c = 0
  cells : ∀ ad, ao = some ad → ∀ j u, (evs E)[j]? = some u → w.cell? (ad.add j) = some u
  wide : ∀ e ∈ E, Wide e
theorem Evs.nil (w : World) : Evs w .none 0 0 [] := ⟨rfl, Nat.le_refl _, Nat.zero_le _, fun _ => ⟨rfl, rfl⟩, (fun _ h => by cases h), by simp⟩
theorem Evs.below {w w' : World} {ao : Option Addr} {m c : Nat} {E : List Ev} {B : Nat} (h : Evs w ao m c E) (hb : Below B w w') (hB : w.heap.size ≤ B) : Evs w' ao m c E :=
  ⟨h.len, h.room, h.top, h.zero, fun ad ha j u hu => by
    have := h.cells ad ha j u hu
    exact (hb.cell (Nat.lt_of_lt_of_le (World.block_lt_of_cell? w _ this) hB)).trans this, h.wide⟩
theorem Evs.at {w : World} {ao : Option Addr} {m c : Nat} {E : List Ev} (h : Evs w ao m c E) {i : Nat} (hi : i < m) : ∃ b off e, ao = some ⟨b, off, none⟩ ∧ E[i]? = some e ∧ Wide e ∧ w.rangeAt b (off + i * 26) (evl e) ∧ b < w.heap.size := by
  have hl := h.len
  obtain ⟨e, he⟩ : ∃ e, E[i]? = some e := ⟨_, List.getElem?_eq_getElem (by omega)⟩
  have hm : e ∈ E := List.mem_of_getElem? he
  cases ao with
  | none => have := (h.zero rfl).1; omega
  | some ad =>
    have hw := h.wide e hm
    have hc := fun j v hv => h.cells ad rfl _ _ (evs_at h.wide i e he j v hv)
    have h0 := hc 0 (.int .i64 e.r) rfl
    obtain ⟨e', he'⟩ : ∃ e', E[0]? = some e' := ⟨_, List.getElem?_eq_getElem (by omega)⟩
    have h00 := h.cells ad rfl _ _ (evs_at h.wide 0 e' he' 0 (.int .i64 e'.r) rfl)
    obtain ⟨b, off, sp⟩ := ad
    have hs : sp = Option.none := by simpa [Addr.add] using World.cell?_spot h00
    subst hs
    refine ⟨b, off, e, rfl, he, hw, fun j v hv => ?_, ?_⟩
    · have := hc j v hv
      rw [Addr.add_mid, ← Nat.add_assoc] at this
      exact this
    · exact World.block_lt_of_cell? w _ (by rw [Addr.add_mid] at h0; exact h0)
/-- A row of the program's own. -/
abbrev Row (w : World) (base : Nat) (v : Value) (E : List Ev) : Prop := w.ownsRow base 47 26 v E.length (evs E)
theorem Row.evs {w : World} {base : Nat} {v : Value} {E : List Ev} (h : Row w base v E) (hw : ∀ e ∈ E, Wide e) : ∃ ao c, v = .slice ao E.length c ∧ Evs w ao E.length c E := by
  rcases h.2 with ⟨rfl, h0⟩ | ⟨g, cap, cur, rfl, hb, hg, hnc, hcm, hcs, htake⟩
  · have : E = [] := List.eq_nil_of_length_eq_zero h0
    subst this
    exact ⟨none, 0, rfl, Evs.nil w⟩
  · exact ⟨some ⟨g, 0, none⟩, cap, rfl, rfl, hnc, hcm, (fun h => by cases h), fun ad ha j u hu => by
      obtain rfl := Option.some.inj ha
      exact h.cells (g := g) rfl j u hu, hw⟩
theorem Row.below {w w' : World} {base B : Nat} {v : Value} {E : List Ev} (h : Row w base v E) (hb : Below B w w') (hB : w.heap.size ≤ B) : Row w' base v E := by
  refine ⟨h.1, ?_⟩
  rcases h.2 with hn | ⟨g, cap, cur, e, hbg, hg, rest⟩
  · exact .inl hn
  · have hlt := (Array.getElem?_eq_some_iff.1 hg).1
    exact .inr ⟨g, cap, cur, e, hbg, by rw [hb.block g (by omega)]; exact hg, rest⟩
theorem Row.lower {w : World} {base b : Nat} {v : Value} {E : List Ev} (h : Row w base v E) (hb : b ≤ base) : Row w b v E := by
  refine ⟨h.1, ?_⟩
  rcases h.2 with hn | ⟨g, cap, cur, e, hbg, rest⟩
  · exact .inl hn
  · exact .inr ⟨g, cap, cur, e, Nat.le_trans hb hbg, rest⟩
theorem row_nil (w : World) (base : Nat) : Row w base (.slice none 0 0) [] := World.ownsRow_nil w base _ _

theorem infoE : (Tryz.prog.info? 47).map (fun i => (i.zero, i.size, i.bytes)) = some (some (.agg (evc zv)), 26, 232) := by kernel_rfl
/-- 'append' to a row of the call's own: what it is then is that row, or a new one. -/
theorem app_newE {w : World} (base : Nat) (ty : TypeId) (i : TypeInfo) (hi : Tryz.prog.info? 47 = some i) (hz : i.zero = some (.agg (evc zv))) (hsize : i.size = 26) (hbytes : i.bytes = 232)
    (v : Value) (n : Nat) (xs : List Value) (hown : w.ownsRow base 47 26 v n xs)
    (a : Addr) (m c : Nat) (news : List Value) (hl : news.length = m * 26) (hnews : ∀ j u, news[j]? = some u → w.cell? (a.add j) = some u) (h1 : ∀ u ∈ news, u.oneCell' = true)
    (hnm : n + m ≤ 1048576) (v' : Value) (w' : World) (hr : (Builtin.append_ #[22, 22] ty #[v, .slice (some a) m c]).run Tryz.prog w = .ok v' w') :
    ∀ k, v'.ownBlock = some k → v.ownBlock = some k ∨ w.heap.size ≤ k := by
  intro k hk
  have ht : Tryz.prog.underlying 22 = some (.slice 47) := Tryz.underlying22
  have hown' := hown
  rcases hown.2 with ⟨rfl, rfl⟩ | ⟨g, cap, cur, rfl, hbg, hg, hnc, hcm, hcs, htake⟩
  · by_cases hm : m = 0
    · subst hm
      have hn : news = [] := List.eq_nil_of_length_eq_zero (by omega)
      subst hn
      have : (Builtin.append_ #[22, 22] ty #[.slice none 0 0, .slice (some a) 0 c]).run Tryz.prog w = .ok (.slice none 0 0) w := by
        simp [Builtin.append_, run_underlying ht, sizeOf, typeInfo, hi, Builtin.lenOf, Builtin.firstCells, loadCells, loadCellsFrom]
      rw [this] at hr
      simp only [Result.ok.injEq] at hr
      rw [← hr.1] at hk
      cases hk
    · have h2 := run_append_nil (P := Tryz.prog) w 22 ty 47 i _ ht hi hz a m c news (by rw [hsize]; omega) hnews (by omega) (by omega) (by rw [hbytes]; omega)
      rw [h2] at hr
      simp only [Result.ok.injEq] at hr
      rw [← hr.1] at hk
      simp only [Value.ownBlock, Option.some.injEq] at hk
      right; omega
  · by_cases hroom : n + m ≤ cap
    · obtain ⟨w2, h2, -⟩ := run_append_fits (P := Tryz.prog) w base 22 ty 47 i 26 ht hi hsize g n cap xs hown' a m c news (by omega) hnews h1 hroom
      rw [h2] at hr
      simp only [Result.ok.injEq] at hr
      rw [← hr.1] at hk
      exact .inl hk
    · have h2 := run_append_grow (P := Tryz.prog) w 22 ty 47 i _ ht hi hz ⟨g, 0, none⟩ n cap xs (by rw [hsize]; exact hown.1) (hown'.cells (g := g) rfl) a m c news (by rw [hsize]; omega) hnews (by omega) (by omega) (growslice_fits (by omega) (by rw [hbytes]; omega))
      rw [h2] at hr
      simp only [Result.ok.injEq] at hr
      rw [← hr.1] at hk
      simp only [Value.ownBlock, Option.some.injEq] at hk
      right; omega
/-- What 'append' of events does. -/
theorem run_appE {w : World} (ty : TypeId) (base : Nat) (v : Value) (E : List Ev) (hown : Row w base v E)
    (ao : Option Addr) (m c : Nat) (F : List Ev) (hF : Evs w ao m c F) (hnm : E.length + m ≤ 1048576) (hbase : base ≤ w.heap.size) :
    ∃ v' w', (Builtin.append_ #[22, 22] ty #[v, .slice ao m c]).run Tryz.prog w = .ok v' w' ∧ Row w' base v' (E ++ F) ∧ w.grownBy w' v.ownBlock ∧ (∀ k, v'.ownBlock = some k → v.ownBlock = some k ∨ w.heap.size ≤ k) := by
  obtain ⟨i0, hi, hz0, hz1, hz2⟩ := info_parts infoE
  have hl : (evs F).length = m * 26 := by rw [evs_length hF.wide, hF.len]
  have hlen : (E ++ F).length = E.length + m := by rw [List.length_append, hF.len]
  have key : ∀ (v' : Value) (w' : World), w'.ownsRow base 47 26 v' (E.length + m) (evs E ++ evs F) → Row w' base v' (E ++ F) := fun v' w' h => by
    rw [Row, hlen, evs_append]; exact h
  cases ao with
  | some ad =>
    obtain ⟨v', w', hr, h2, h3, -⟩ := run_append_own (P := Tryz.prog) w base 22 ty 47 i0 (.agg (evc zv)) 26 i0.bytes Tryz.underlying22 hi hz0 hz1 rfl (by show (evc zv).size = 26; rfl) (by omega) v E.length (evs E) hown ad m c (evs F) hl (hF.cells ad rfl) (evs_one F) (by unfold maxLen; omega) (by rw [hz2]; omega) hbase
    have h4 := app_newE base ty i0 hi hz0 hz1 hz2 v E.length (evs E) hown ad m c (evs F) hl (hF.cells ad rfl) (evs_one F) hnm v' w' hr
    exact ⟨v', w', hr, key v' w' h2, h3, h4⟩
  | none =>
    obtain ⟨h0, h1⟩ := hF.zero rfl
    subst h0 h1
    have hrun := run_append_owned_none (P := Tryz.prog) (w := w) base 22 ty 47 i0 26 Tryz.underlying22 hi v E.length (evs E) hown
    have hF0 : F = [] := List.eq_nil_of_length_eq_zero hF.len
    subst hF0
    exact ⟨v, w, hrun, by rw [List.append_nil]; exact hown, World.grownBy.refl _ _, fun _ h => .inl h⟩
theorem wp_appE {o : Oper} {a : Act} {w : World} {K : Act → World → Prop} {Q : Exit → Act → World → Prop} (s x : Operand)
    (ho : o.op = .call { callee := .builtin .append, args := #[s, x], argTypes := #[22, 22] })
    (base : Nat) (v : Value) (E : List Ev) (hs : a.eval s = v) (hown : Row w base v E)
    (ao : Option Addr) (m c : Nat) (F : List Ev) (hx : a.eval x = .slice ao m c) (hF : Evs w ao m c F) (hnm : E.length + m ≤ 1048576) (hbase : base ≤ w.heap.size)
    (h : ∀ v' w', Row w' base v' (E ++ F) → w.grownBy w' v.ownBlock → (∀ k, v'.ownBlock = some k → v.ownBlock = some k ∨ w.heap.size ≤ k) → K (a.put o.dst v') w') : o.wp Tryz.prog a w K Q := by
  obtain ⟨v', w', hr, h2, h3, h4⟩ := run_appE o.type base v E hown ao m c F hF hnm hbase
  unfold Oper.wp execOp
  simp only [ho, resolve, invoke, builtin, Sem.run_bind, Sem.run_pure, Result.andThen_ok, List.map_toArray, List.map_cons, List.map_nil, hs, hx, hr]
  exact h v' w' h2 h3 h4
theorem wpList_appE {ops : Array Oper} {rest : List Oper} {o : Oper} {a : Act} {w : World} {Q : Exit → Act → World → Prop} (hw : Region.wanted o (yielded ops a.tmps) = true) (s x : Operand)
    (ho : o.op = .call { callee := .builtin .append, args := #[s, x], argTypes := #[22, 22] })
    (base : Nat) (v : Value) (E : List Ev) (hs : a.eval s = v) (hown : Row w base v E)
    (ao : Option Addr) (m c : Nat) (F : List Ev) (hx : a.eval x = .slice ao m c) (hF : Evs w ao m c F) (hnm : E.length + m ≤ 1048576) (hbase : base ≤ w.heap.size)
    (h : ∀ v' w', Row w' base v' (E ++ F) → w.grownBy w' v.ownBlock → (∀ k, v'.ownBlock = some k → v.ownBlock = some k ∨ w.heap.size ≤ k) → wpList Tryz.prog ops Q rest (a.put o.dst v') w') : wpList Tryz.prog ops Q (o :: rest) a w := by
  refine wpList_step fun K hK => ?_
  rw [if_pos hw]
  exact wp_appE s x ho base v E hs hown ao m c F hx hF hnm hbase (fun v' w' h2 h3 h4 => hK _ _ (h v' w' h2 h3 h4))
/-- A list of one event. -/
theorem run_build1 (w : World) (e : Ev) (h : e.deps.length = 16) : (Instr.buildSlice 22 1 #[(0, .agg (evc e))]).run Tryz.prog w = .ok (.slice (some ⟨w.heap.size, 0, none⟩) 1 1) (w.alloc (.cells (evc e) 47)) := by
  obtain ⟨i0, hi, hz0, hz1, hz2⟩ := info_parts infoE
  refine run_buildSlice w 22 47 1 _ (evc e) i0 _ Tryz.underlying22 hi hz0 (by rw [hz1]; decide) (by rw [hz1]; decide) ?_
  rw [hz1]
  have := Great.fill_whole (s := 26) (by omega) [.agg (evc e)] ((Array.range (1 * 26)).map ((Value.agg (evc zv)).cells[· % (Value.agg (evc zv)).cells.size]!)) (by
    intro v hv
    rw [List.mem_singleton.1 hv]
    exact evc_size e h) (by simp)
  refine Eq.trans this ?_
  simp [Value.cells]
theorem evs_single (w : World) (g : Nat) (e : Ev) (hw : Wide e) (h : LiesE w g e) : Evs w (some ⟨g, 0, none⟩) 1 1 [e] :=
  ⟨rfl, Nat.le_refl _, by unfold maxLen; omega, (fun h => by cases h), fun ad ha j u hu => by
    obtain rfl := Option.some.inj ha
    have e1 : evs [e] = evl e := by simp [evs]
    rw [e1] at hu
    rw [Addr.add_mid, Nat.zero_add, cell_of_row w g j _ _ _ h, evc_get]
    exact hu, fun x hx => by rw [List.mem_singleton.1 hx]; exact hw⟩
/-- An event is read out of the midst. -/
theorem load_ev_mid {ops : Array Oper} {rest : List Oper} {o : Oper} {a : Act} {w : World} {Q : Exit → Act → World → Prop} {x : Operand} {b k : Nat} {e : Ev} (hw : Region.wanted o (yielded ops a.tmps) = true) (ho : o.op = .load 47 x) (hx : a.eval x = .pointer (some ⟨b, k, none⟩)) (hg : w.rangeAt b k (evl e)) (hl : e.deps.length = 16)
    (h : wpList Tryz.prog ops Q rest (a.put o.dst (.agg (evc e))) w) : wpList Tryz.prog ops Q (o :: rest) a w :=
  wpList_step fun K hK => by
    rw [if_pos hw]
    exact wp_load_mid 47 x ho b k hx (evl e) _ hg Tryz.underlying47 rfl (size26 e hl) (hK _ _ h)

section
variable {H : Type} {enc : TypeId × Value → H} {w : World} {base : Nat} {spare : Nat → Bool} {held : Bool} {fuel : Nat} {L : List Value} {x : DataW H × List MemPlace}
theorem ev_in (h : DataW.trod enc Tryz.prog w base spare held fuel 47 L = some x) : ∃ e : Ev, Wide e ∧ ∀ (j : Nat) (u : Value), (evl e)[j]? = some u → L[j]? = some u := by
  have hu : Tryz.prog.underlying 47 = some (.struct (Tryz.prog.fieldsOf 47)) := by kernel_rfl
  obtain ⟨m, hm⟩ := open_field (ts := [(32, 0), (3, 2), (41, 3), (34, 19)]) hu (by kernel_rfl) h
  obtain ⟨y0, h0⟩ := hm 0 _ rfl
  obtain ⟨y1, h1⟩ := hm 1 _ rfl
  obtain ⟨y2, h2⟩ := hm 2 _ rfl
  obtain ⟨y3, h3⟩ := hm 3 _ rfl
  obtain ⟨r0, n0, e0, e1⟩ := dot_in h0
  obtain ⟨t0, e2⟩ := int_in h1
  have ev := vec_in h2
  obtain ⟨k, s0, s1, s2, n, rr, rn, f0, ⟨f1, f2, f3⟩, ⟨f4, f5, f6⟩, l0, l1, l2⟩ := op_in h3
  have e0' : L[0]? = _ := in_at (a := 0) (c := 0) e0
  have e1' : L[1]? = _ := in_at (a := 0) (c := 1) e1
  have ev' : ∀ i, i < 16 → ∃ n, L[3 + i]? = some (.int .i64 n) := fun i hi => by
    obtain ⟨n, hn⟩ := ev i hi
    exact ⟨n, in_at hn⟩
  let e : Ev := ⟨r0, n0, t0, (List.range 16).map fun i => intOf (L.getD (3 + i) undef), k, s0, s1, s2, n, rr, rn⟩
  have hl : e.deps.length = 16 := by simp [e]
  refine ⟨e, ⟨hl, ⟨l0, l1, l2⟩⟩, fun i u hu => ?_⟩
  have h26 : i < 26 := by have := (List.getElem?_eq_some_iff.1 hu).1; rw [evl_length e hl] at this; exact this
  rw [← hu]
  by_cases h3' : i < 3
  · match i, h3' with
    | 0, _ => exact e0'
    | 1, _ => exact e1'
    | 2, _ => exact e2
  · by_cases h19 : i < 19
    · obtain ⟨j, rfl⟩ : ∃ j, i = 3 + j := ⟨i - 3, by omega⟩
      obtain ⟨z, hz⟩ := ev' j (by omega)
      have hj : j < 16 := by omega
      rw [evl_mid hl j hj, hz]
      simp [e, List.getD, hj, hz, intOf]
    · obtain ⟨j, rfl⟩ : ∃ j, i = 19 + j := ⟨i - 19, by omega⟩
      rw [evl_hi hl]
      have hj : j < 7 := by omega
      match j, hj with
      | 0, _ => exact in_at (a := 19) (c := 0) f0
      | 1, _ => exact in_at (a := 19) (c := 1) f1
      | 2, _ => exact in_at (a := 19) (c := 2) f2
      | 3, _ => exact in_at (a := 19) (c := 3) f3
      | 4, _ => exact in_at (a := 19) (c := 4) f4
      | 5, _ => exact in_at (a := 19) (c := 5) f5
      | 6, _ => exact in_at (a := 19) (c := 6) f6
theorem evs_list {len : Nat} (f : Nat → Ev) (hw : ∀ i, i < len → Wide (f i)) : (∀ e ∈ (List.range len).map f, Wide e) := fun e he => by
  obtain ⟨i, hi, rfl⟩ := List.mem_map.1 he
  exact hw i (List.mem_range.1 hi)
theorem evs_in (h : DataW.trod enc Tryz.prog w base (fun _ => true) held fuel 22 L = some x) : ∃ a len cap E, L = [.slice a len cap] ∧ Evs w a len cap E := by
  have ce : Tryz.prog.cellsOf 47 = 26 := by kernel_rfl
  rcases Go.Deep.open_slice Tryz.underlying22 h with ⟨rfl, _⟩ | ⟨ad, l, c, m, n, D, Pl, rfl, hb, hl, hm, hmm, hx, hall⟩
  · exact ⟨none, 0, 0, [], rfl, Evs.nil w⟩
  · simp only [if_true] at hmm
    subst hmm
    have key : ∀ i, i < l → ∃ e : Ev, Wide e ∧ ∀ (j : Nat) (u : Value), (evl e)[j]? = some u → w.cell? (ad.add (i * 26 + j)) = some u := by
      intro i hi
      obtain ⟨cs', h1, h2⟩ := hall i (by omega)
      rw [ce] at h1
      obtain ⟨_, hlen, hcell⟩ := World.cells?_some h1
      obtain ⟨e, h3, h4⟩ := ev_in h2
      refine ⟨e, h3, fun j u hu => ?_⟩
      have hj : j < 26 := by have := (List.getElem?_eq_some_iff.1 hu).1; rw [evl_length e h3.1] at this; exact this
      have := hcell j hj
      rw [Go.Deep.add_add] at this
      rw [this]
      exact h4 j u hu
    obtain ⟨f, hf⟩ := @Go.Deep.choose_lt Ev ⟨zv⟩ _ _ key
    have hw : ∀ e ∈ (List.range l).map f, Wide e := evs_list f (fun i hi => (hf i hi).1)
    refine ⟨some ad, l, _, (List.range l).map f, rfl, by simp, hl, hm, (fun h => by cases h), fun ad' ha j u hu => ?_, hw⟩
    obtain rfl := Option.some.inj ha
    have hj : j < l * 26 := by
      have := (List.getElem?_eq_some_iff.1 hu).1
      rw [evs_length hw] at this
      simpa using this
    have hi : j / 26 < l := by omega
    have hr : j % 26 < 26 := Nat.mod_lt _ (by omega)
    have hfi : ((List.range l).map f)[j / 26]? = some (f (j / 26)) := by simp [hi]
    obtain ⟨v, hv⟩ : ∃ v, (evl (f (j / 26)))[j % 26]? = some v := ⟨_, List.getElem?_eq_getElem (by rw [evl_length _ (hf _ hi).1.1]; exact hr)⟩
    have h1 := evs_at hw (j / 26) _ hfi (j % 26) v hv
    have h2 := (hf _ hi).2 (j % 26) v hv
    rw [show j / 26 * 26 + j % 26 = j by omega] at h1 h2
    rw [h1] at hu
    obtain rfl := Option.some.inj hu
    exact h2
theorem open_evs {a : Option Addr} {len cap : Nat} {d : DataW H} {ps : List MemPlace} (h : DataW.Trod enc Tryz.prog w base (fun _ => true) held 22 (.slice a len cap) d ps) : ∃ E, Evs w a len cap E := by
  obtain ⟨fuel, hf⟩ := h
  obtain ⟨a', l', c', E, h1, h2⟩ := evs_in hf
  simp only [Value.cells, List.cons.injEq, and_true, Value.slice.injEq] at h1
  obtain ⟨rfl, rfl, rfl⟩ := h1
  exact ⟨E, h2⟩
end

theorem index_ev (w : World) {b off k m c : Nat} (hk : k < m) : (Instr.indexAt 22 (.slice (some ⟨b, off, none⟩) m c) (.int .i64 (k : Int))).run Tryz.prog w = .ok (.pointer (some ⟨b, off + k * 26, none⟩)) w := by
  have hk' : (k : Int) < (m : Int) := by omega
  have hs : (Tryz.prog.info? 47).map (·.size) = some 26 := by kernel_rfl
  have ht : Tryz.prog.underlying 22 = some (.slice 47) := Tryz.underlying22
  go_simp

theorem Evs.kept {w w' : World} {ao : Option Addr} {m c : Nat} {E : List Ev} (h : Evs w ao m c E) (hs : 0 < m → ∀ ad, ao = some ad → w'.heap[ad.block]? = w.heap[ad.block]?) : Evs w' ao m c E :=
  ⟨h.len, h.room, h.top, h.zero, fun ad ha j u hu => by
    have h1 := h.cells ad ha j u hu
    by_cases hm : 0 < m
    · have hb : (ad.add j).block = ad.block := by unfold Addr.add; split <;> rfl
      rw [World.cell?_of_block (w := w) (by rw [hb]; exact hs hm ad ha)]
      exact h1
    · have : E = [] := List.eq_nil_of_length_eq_zero (by have := h.len; omega)
      subst this
      simp [evs] at hu, h.wide⟩
end Go.Proofs.YtmlfekbmbnfkjabGreatDoor

/-
  Aims in memory: what an event ends, and what ends it; what wholeKey, aimOf, aimAt, covers and greatest come to.
-/
namespace Go.Proofs.YtmlfekbmbnfkjabGreatDoor
set_option maxRecDepth 100000
set_option maxRecDepth 100000
open Go.RowKit

structure Aim where
  key : List UInt8
  kind : Int
  field : List UInt8
  r : Int
  n : Int
deriving DecidableEq
def wholeE (key : List UInt8) : Aim := ⟨key, 0, [], 0, 0⟩
def zaim : Aim := ⟨[], 0, [], 0, 0⟩
def aimP (e : Ev) : Aim × Bool :=
  if e.kind = 11 then (wholeE e.key, true) else if e.kind = 1 then (⟨e.key, 1, [], 0, 0⟩, true) else if e.kind = 3 ∨ e.kind = 4 then (⟨e.key, 3, e.field, 0, 0⟩, true)
  else if e.kind = 5 ∨ e.kind = 6 then (⟨e.key, 5, e.field, 0, 0⟩, true) else if e.kind = 7 ∨ e.kind = 8 then (⟨e.key, 7, e.field, 0, 0⟩, true)
  else if e.kind = 10 then (⟨e.key, 9, [], e.rr, e.rn⟩, true) else (zaim, false)
def aimAtE (e : Ev) : Aim := if e.kind = 3 ∨ e.kind = 5 ∨ e.kind = 7 then ⟨e.key, e.kind, e.field, 0, 0⟩ else if e.kind = 9 then ⟨e.key, e.kind, [], e.r, e.n⟩ else ⟨e.key, e.kind, [], 0, 0⟩
/-- What ends it, by aims. -/
def meets (b a : Ev) : Bool := (aimP b).2 && (decide ((aimP b).1 = wholeE a.key) || decide ((aimP b).1 = aimAtE a))
theorem ends_aim (b a : Ev) (h : addsE a.kind = true) : (coversE b a && meets b a) = endsE b a := by
  unfold endsE
  rw [h, Bool.true_and]
  congr 1
  unfold addsE at h
  rw [decide_eq_true_eq] at h
  unfold meets hits aimP aimAtE wholeE zaim
  rw [Bool.eq_iff_iff]
  simp only [Bool.and_eq_true, Bool.or_eq_true, decide_eq_true_eq]
  by_cases b11 : b.kind = 11
  · simp [b11]
    intro h1
    (repeat' split at h1) <;> simp_all
  by_cases b1 : b.kind = 1
  · rcases h with h | h | h | h | h | h <;> simp [b1, h]
  by_cases b3 : b.kind = 3 ∨ b.kind = 4
  · rcases b3 with b3 | b3 <;> rcases h with h | h | h | h | h | h <;> simp [b3, h]
  by_cases b5 : b.kind = 5 ∨ b.kind = 6
  · rcases b5 with b3 | b3 <;> rcases h with h | h | h | h | h | h <;> simp [b3, h]
  by_cases b7 : b.kind = 7 ∨ b.kind = 8
  · rcases b7 with b3 | b3 <;> rcases h with h | h | h | h | h | h <;> simp [b3, h]
  by_cases b10 : b.kind = 10
  · rcases h with h | h | h | h | h | h <;> simp [b10, h]
  · simp only [not_or] at b3 b5 b7
    simp [b11, b1, b3, b5, b7, b10]

/-- An aim's cells. -/
def aml (x : Aim) : List Value := [.string (sb x.key), .int .i64 x.kind, .string (sb x.field), .int .i64 x.r, .int .i64 x.n]
def amc (x : Aim) : Array Value := (aml x).toArray
def LiesM (w : World) (g : Nat) (x : Aim) : Prop := w.heap[g]? = some (.cells (amc x) 127 (0, 0))
theorem amc_one (x : Aim) : (amc x).all (·.oneCell') = true := by simp [amc, aml, Value.oneCell']
theorem sizeM (x : Aim) : (Tryz.prog.info? 127).map (·.size) = some (amc x).size := by
  show _ = some 5
  kernel_rfl
theorem LiesM.lt {w : World} {g : Nat} {x : Aim} (h : LiesM w g x) : g < w.heap.size := by
  rw [LiesM] at h
  exact (Array.getElem?_eq_some_iff.1 h).1
theorem LiesM.below {B g : Nat} {w w' : World} {x : Aim} (h : LiesM w g x) (hb : Below B w w') (hg : g < B) : LiesM w' g x := by
  rw [LiesM, hb.block g hg]; exact h
theorem LiesM.alloc {w : World} {g : Nat} {x : Aim} (h : LiesM w g x) (o : Obj) : LiesM (w.alloc o) g x := by
  rw [LiesM, Below.heap_alloc w o g h.lt]; exact h
theorem liesM_new (w : World) (x : Aim) : LiesM (w.alloc (.cells (amc x) 127)) w.heap.size x := heap_alloc_new w _
theorem LiesM.row {w : World} {g : Nat} {x' : Aim} (h : LiesM w g x') (x : Aim) : LiesM (w.setRow g (amc x)) g x := setRow_heap w g _ _ _ _ h
theorem LiesM.rowOther {w : World} {g k : Nat} {x : Aim} (h : LiesM w k x) (cs : Array Value) (hk : k ≠ g) : LiesM (w.setRow g cs) k x := by
  rw [LiesM, setRow_other w g k cs hk]; exact h
theorem LiesM.frozen {w : World} {g k : Nat} {x : Aim} (h : LiesM w g x) : w.frozen? ⟨g, k, none⟩ = false := frozen_of_row w g k _ _ h
theorem LiesM.drewN {w : World} {g : Nat} {x : Aim} (h : LiesM w g x) (n : Nat) : LiesM (w.drewN n) g x := h
theorem LiesM.setL {w : World} {g : Nat} {x : Aim} (h : LiesM w g x) (j : Nat) (v : Value) : (w.setCell ⟨g, j, none⟩ v).heap[g]? = some (.cells ((aml x).set j v).toArray 127 (0, 0)) := by
  rw [heap_setCell_same w g j _ _ _ h, amc, List.setIfInBounds_toArray]
theorem LiesM.setF {w : World} {g : Nat} {x : Aim} (h : LiesM w g x) (f : List UInt8) : LiesM (w.setCell ⟨g, 2, none⟩ (.string (sb f))) g { x with field := f } := h.setL 2 _
theorem LiesM.setR {w : World} {g : Nat} {x : Aim} (h : LiesM w g x) (r : Int) : LiesM (w.setCell ⟨g, 3, none⟩ (.int .i64 r)) g { x with r := r } := h.setL 3 _
theorem LiesM.setN {w : World} {g : Nat} {x : Aim} (h : LiesM w g x) (n : Int) : LiesM (w.setCell ⟨g, 4, none⟩ (.int .i64 n)) g { x with n := n } := h.setL 4 _
theorem LiesM.setD {w : World} {g : Nat} {x : Aim} (h : LiesM w g x) (r n : Int) : LiesM (w.setCells g 3 (dotc r n).toList) g { x with r := r, n := n } := (h.setR r).setN n
section
variable {ops : Array Oper} {rest : List Oper} {o : Oper} {a : Act} {w : World} {Q : Exit → Act → World → Prop} {p q : Operand} {g k : Nat} {x x' : Aim}
theorem load_am (hw : Region.wanted o (yielded ops a.tmps) = true) (ho : o.op = .load 127 p) (hx : a.eval p = .pointer (some ⟨g, 0, none⟩)) (hg : LiesM w g x)
    (h : wpList Tryz.prog ops Q rest (a.put o.dst (.agg (amc x))) w) : wpList Tryz.prog ops Q (o :: rest) a w :=
  wpList_step fun K hK => by
    rw [if_pos hw]
    exact wp_load_row 127 p ho g hx 127 _ (0, 0) _ hg Tryz.underlying127 rfl (sizeM x) (hK _ _ h)
theorem store_am (hgd : o.guard = none) (ho : o.op = .store 127 p q) (hx : a.eval p = .pointer (some ⟨g, 0, none⟩)) (hy : a.eval q = .agg (amc x)) (hg : LiesM w g x')
    (h : wpList Tryz.prog ops Q rest (a.put o.dst undef) (w.setRow g (amc x))) : wpList Tryz.prog ops Q (o :: rest) a w :=
  wpList_store_row hgd 127 p q ho g (amc x) hx hy 127 _ hg (sizeM x) rfl (amc_one x) h
end

theorem ret_am {fn : Func} {R : Ending → World → Prop} {a : Act} {w : World} {p : Tmp} {g : Nat} {x : Aim} (h : fn.results = #[.cell p 127]) (hp : a.tmps.getD p undef = .pointer (some ⟨g, 0, none⟩))
    (hd : a.defers = []) (hg : LiesM w g x) (hR : R (.returned (.agg (amc x))) w) : bodyPost Tryz.prog fn R .ret a w :=
  bodyPost_ret (results_cell_row h a.tmps w g 127 _ (0, 0) _ hp hg Tryz.underlying127 rfl (sizeM x)) hd hR
theorem ret_am2 {fn : Func} {R : Ending → World → Prop} {a : Act} {w : World} {p u : Tmp} {g : Nat} {x : Aim} {v : Value} (h : fn.results = #[.cell p 127, .tmp u]) (hp : a.tmps.getD p undef = .pointer (some ⟨g, 0, none⟩))
    (hu : a.tmps.getD u undef = v) (hd : a.defers = []) (hg : LiesM w g x) (hR : R (.returned (.tuple #[.agg (amc x), v])) w) : bodyPost Tryz.prog fn R .ret a w := by
  refine bodyPost_ret ?_ hd hR
  rw [results_cell_tmp h, hp, hu]
  simp only [asAddr, Sem.run_pure, Result.andThen_ok, run_loadVar_row w g 127 127 _ (0, 0) _ hg Tryz.underlying127 rfl (sizeM x)]

set_option maxHeartbeats 400000 in
theorem whole_any (key : List UInt8) (w : World) : Calls Tryz.prog 102 #[.string (sb key)] w fun e w' => e = .returned (.agg (amc (wholeE key))) ∧ Below w.heap.size w w' := by
  have h0 := liesM_new w zaim
  have h1 := h0.row (wholeE key)
  have HB : Hid (Below w.heap.size w ((w.alloc (.cells (amc zaim) 127)).setRow w.heap.size (amc (wholeE key)))) := below_setRow ((Below.refl _ _).alloc (Nat.le_refl _) _) (Nat.le_refl _) _
  go_enter Tryz.func102, Tryz.ntmps102
  go_wp2_with (refine store_am (x := wholeE key) rfl rfl rfl rfl h0 ?_)
  refine ret_am rfl rfl rfl h1 ?_
  exact ⟨rfl, HB.out⟩
end Go.Proofs.YtmlfekbmbnfkjabGreatDoor

/-
  What aimOf, aimAt, covers and greatest come to.
-/
namespace Go.Proofs.YtmlfekbmbnfkjabGreatDoor
set_option maxRecDepth 100000
set_option maxRecDepth 100000
open Go.RowKit

theorem zaim_cells : amc zaim = #[.string ⟨#[]⟩, .int .i64 0, .string ⟨#[]⟩, .int .i64 0, .int .i64 0] := rfl
theorem boxedOM (w : World) (e : Ev) :
    LiesO ((w.alloc (.cells (opc e) 34)).alloc (.cells (amc zaim) 127)) w.heap.size e ∧
    LiesM ((w.alloc (.cells (opc e) 34)).alloc (.cells (amc zaim) 127)) (w.heap.size + 1) zaim ∧
    Below w.heap.size w ((w.alloc (.cells (opc e) 34)).alloc (.cells (amc zaim) 127)) := by
  refine ⟨(liesO_new w e).alloc _, ?_, ((Below.refl _ _).alloc (Nat.le_refl _) _).alloc (by simp) _⟩
  have := liesM_new (w.alloc (.cells (opc e) 34)) zaim
  simpa using this

set_option maxHeartbeats 1000000 in
theorem aimof_any (e : Ev) (w : World) : Calls Tryz.prog 101 #[.agg (opc e)] w fun e' w' => e' = .returned (.tuple #[.agg (amc (aimP e).1), .bool (aimP e).2]) ∧ Below w.heap.size w w' := by
  obtain ⟨hO, hM, hB⟩ := boxedOM w e
  have c0 := hO.c0
  have c1 := hO.c1
  have c2 := hO.c2
  have hr := hO.ref
  rw [zaim_cells] at c0 c1 c2
  have HB : Hid (Below w.heap.size w ((w.alloc (.cells (opc e) 34)).alloc (.cells (amc zaim) 127))) := hB
  clear hO hB
  by_cases k11 : e.kind = 11
  · have HP : Hid (aimP e = (wholeE e.key, true)) := by show _ = _; unfold aimP; rw [if_pos k11]
    go_enter Tryz.func101, Tryz.ntmps101
    go_wp2_with fail
    refine (whole_any _ _).mono ?_
    rintro e' w1 ⟨rfl, hb1⟩
    have hM1 := hM.below hb1 (by simp)
    have HB1 : Hid (Below w.heap.size w w1) := HB.out.trans (hb1.mono HB.out.size)
    clear hb1 hM c0 c1 c2 hr HB
    go_wp2_with (refine store_am (x := wholeE e.key) rfl rfl rfl rfl hM1 ?_)
    refine ret_am2 rfl rfl rfl rfl (hM1.row _) ?_
    exact ⟨by rw [HP.out]; rfl, below_setRow HB1.out (by omega) _⟩
  · have n11 : (e.kind == 11) = false := by simpa using k11
    by_cases k1 : e.kind = 1
    · have HP : Hid (aimP e = (⟨e.key, 1, [], 0, 0⟩, true)) := by show _ = _; unfold aimP; rw [if_neg k11, if_pos k1]
      go_enter Tryz.func101, Tryz.ntmps101
      go_wp2_with (refine store_am (x := ⟨e.key, 1, [], 0, 0⟩) rfl rfl rfl rfl hM ?_)
      refine ret_am2 rfl rfl rfl rfl (hM.row _) ?_
      exact ⟨by rw [HP.out]; rfl, below_setRow HB.out (by omega) _⟩
    · have n1 : (e.kind == 1) = false := by simpa using k1
      by_cases k3 : e.kind = 3 ∨ e.kind = 4
      · have HP : Hid (aimP e = (⟨e.key, 3, e.field, 0, 0⟩, true)) := by show _ = _; unfold aimP; rw [if_neg k11, if_neg k1, if_pos k3]
        rcases k3 with k3 | k3
        · go_enter Tryz.func101, Tryz.ntmps101
          go_wp2_with (refine store_am (x := ⟨e.key, 3, e.field, 0, 0⟩) rfl rfl rfl rfl hM ?_)
          refine ret_am2 rfl rfl rfl rfl (hM.row _) ?_
          exact ⟨by rw [HP.out]; rfl, below_setRow HB.out (by omega) _⟩
        · go_enter Tryz.func101, Tryz.ntmps101
          go_wp2_with (refine store_am (x := ⟨e.key, 3, e.field, 0, 0⟩) rfl rfl rfl rfl hM ?_)
          refine ret_am2 rfl rfl rfl rfl (hM.row _) ?_
          exact ⟨by rw [HP.out]; rfl, below_setRow HB.out (by omega) _⟩
      · have n3 : (e.kind == 3) = false := by simp only [not_or] at k3; simpa using k3.1
        have n4 : (e.kind == 4) = false := by simp only [not_or] at k3; simpa using k3.2
        by_cases k5 : e.kind = 5 ∨ e.kind = 6
        · have HP : Hid (aimP e = (⟨e.key, 5, e.field, 0, 0⟩, true)) := by show _ = _; unfold aimP; rw [if_neg k11, if_neg k1, if_neg k3, if_pos k5]
          clear k3
          rcases k5 with k5 | k5
          · go_enter Tryz.func101, Tryz.ntmps101
            go_wp2_with (refine store_am (x := ⟨e.key, 5, e.field, 0, 0⟩) rfl rfl rfl rfl hM ?_)
            refine ret_am2 rfl rfl rfl rfl (hM.row _) ?_
            exact ⟨by rw [HP.out]; rfl, below_setRow HB.out (by omega) _⟩
          · go_enter Tryz.func101, Tryz.ntmps101
            go_wp2_with (refine store_am (x := ⟨e.key, 5, e.field, 0, 0⟩) rfl rfl rfl rfl hM ?_)
            refine ret_am2 rfl rfl rfl rfl (hM.row _) ?_
            exact ⟨by rw [HP.out]; rfl, below_setRow HB.out (by omega) _⟩
        · have n5 : (e.kind == 5) = false := by simp only [not_or] at k5; simpa using k5.1
          have n6 : (e.kind == 6) = false := by simp only [not_or] at k5; simpa using k5.2
          by_cases k7 : e.kind = 7 ∨ e.kind = 8
          · have HP : Hid (aimP e = (⟨e.key, 7, e.field, 0, 0⟩, true)) := by show _ = _; unfold aimP; rw [if_neg k11, if_neg k1, if_neg k3, if_neg k5, if_pos k7]
            clear k3 k5
            rcases k7 with k7 | k7
            · go_enter Tryz.func101, Tryz.ntmps101
              go_wp2_with (refine store_am (x := ⟨e.key, 7, e.field, 0, 0⟩) rfl rfl rfl rfl hM ?_)
              refine ret_am2 rfl rfl rfl rfl (hM.row _) ?_
              exact ⟨by rw [HP.out]; rfl, below_setRow HB.out (by omega) _⟩
            · go_enter Tryz.func101, Tryz.ntmps101
              go_wp2_with (refine store_am (x := ⟨e.key, 7, e.field, 0, 0⟩) rfl rfl rfl rfl hM ?_)
              refine ret_am2 rfl rfl rfl rfl (hM.row _) ?_
              exact ⟨by rw [HP.out]; rfl, below_setRow HB.out (by omega) _⟩
          · have n7 : (e.kind == 7) = false := by simp only [not_or] at k7; simpa using k7.1
            have n8 : (e.kind == 8) = false := by simp only [not_or] at k7; simpa using k7.2
            by_cases k10 : e.kind = 10
            · have HP : Hid (aimP e = (⟨e.key, 9, [], e.rr, e.rn⟩, true)) := by show _ = _; unfold aimP; rw [if_neg k11, if_neg k1, if_neg k3, if_neg k5, if_neg k7, if_pos k10]
              clear k3 k5 k7
              have hds : (dotc e.rr e.rn).size = 2 := rfl
              go_enter Tryz.func101, Tryz.ntmps101
              go_wp2_with (first | refine load_dot_at rfl rfl rfl hr ?_ | refine store_am (x := ⟨e.key, 9, [], e.rr, e.rn⟩) rfl rfl rfl rfl hM ?_)
              refine ret_am2 rfl rfl rfl rfl (hM.row _) ?_
              exact ⟨by rw [HP.out]; rfl, below_setRow HB.out (by omega) _⟩
            · have n10 : (e.kind == 10) = false := by simpa using k10
              have HP : Hid (aimP e = (zaim, false)) := by show _ = _; unfold aimP; rw [if_neg k11, if_neg k1, if_neg k3, if_neg k5, if_neg k7, if_neg k10]
              clear k3 k5 k7
              go_enter Tryz.func101, Tryz.ntmps101
              go_wp2_with (refine store_am (x := zaim) rfl rfl rfl rfl hM ?_)
              refine ret_am2 rfl rfl rfl rfl (hM.row _) ?_
              exact ⟨by rw [HP.out]; rfl, below_setRow HB.out (by omega) _⟩

end Go.Proofs.YtmlfekbmbnfkjabGreatDoor

