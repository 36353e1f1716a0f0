/-
  What comes in: a list of items, a call of the script and a list of these, opened.
-/
import Derived.Test.YteihijejohgfpaaBmp
import Derived.ProofKit
import Derived.OpenShut
import Derived.ChangeOld
import Derived.Deep.Slices
import Derived.Deep.MidRow
namespace Go.Proofs.Yteihijejohgfpaa
set_option maxRecDepth 100000
set_option linter.unusedVariables false
open Go.ChangeShapes Go.WideShapes Go.ChangeAt Go.RowKit

theorem field_at {fs : Array Field} {ts : List (TypeId × Nat)} (h : fs.toList.map (fun f => (f.type, f.offset)) = ts) {i : Nat} {t : TypeId × Nat} (hi : ts[i]? = some t) : ∃ f, fs[i]? = some f ∧ f.type = t.1 ∧ f.offset = t.2 := by
  subst h
  rw [List.getElem?_map, Option.map_eq_some_iff] at hi
  obtain ⟨f, hf, rfl⟩ := hi
  exact ⟨f, by simpa using hf, rfl, rfl⟩
theorem one_at {L : List Value} {a : Nat} {v : Value} (h : (L.drop a).take 1 = [v]) : L[a]? = some v := by
  have := congrArg (fun l : List Value => l[0]?) h
  simpa using this
theorem in_at {L : List Value} {a b c : Nat} {v : Value} (h : ((L.drop a).take b)[c]? = some v) : L[a + c]? = some v := by
  rw [List.getElem?_take] at h
  split at h
  · rwa [List.getElem?_drop] at h
  · cases h

/-- A call. -/
structure Cl where
  kind : Int
  r : Int
  n : Int
  x : Int
  v : List Int
def clh (o : Cl) : List Value := [.int .i64 o.kind, .int .i64 o.r, .int .i64 o.n, .int .i64 o.x]
def cll (o : Cl) : List Value := clh o ++ o.v.map (Value.int .i64)
def clc (o : Cl) : Array Value := (cll o).toArray
/-- As wide as its type; its number fits. -/
structure IsCl (o : Cl) : Prop where
  v : o.v.length = 16
  x : (Lit.int .i64 o.x).wf = true
theorem cll_length {o : Cl} (h : o.v.length = 16) : (cll o).length = 20 := by
  rw [cll, List.length_append, List.length_map, h]; rfl
theorem cll_head (o : Cl) (j : Nat) (hj : j < 4) : (cll o)[j]? = (clh o)[j]? := by
  rw [cll, List.getElem?_append_left (by simpa [clh] using hj)]
theorem cll_tail (o : Cl) (j : Nat) : (cll o)[4 + j]? = (o.v.map (Value.int .i64))[j]? := by
  have h4 : (clh o).length = 4 := rfl
  rw [cll, List.getElem?_append_right (by omega), h4, Nat.add_sub_cancel_left]
theorem clc_one (o : Cl) : (clc o).all (·.oneCell') = true := by
  rw [Array.all_eq_true_iff_forall_mem]
  intro v hv
  have hv' : v ∈ cll o := by simpa [clc] using hv
  rw [cll, List.mem_append] at hv'
  rcases hv' with h | h
  · simp [clh] at h; rcases h with rfl | rfl | rfl | rfl <;> rfl
  · obtain ⟨x, -, rfl⟩ := List.mem_map.1 h; rfl

section
variable {H : Type} {enc : TypeId × Value → H} {w : World} {base : Nat} {spare : Nat → Bool} {held : Bool} {fuel : Nat} {L : List Value} {x : DataW H × List MemPlace}
/-- A field of a struct. -/
theorem open_field {t : TypeId} {ts : List (TypeId × Nat)} (hu : Try.prog.underlying t = some (.struct (Try.prog.fieldsOf t))) (hm : (Try.prog.fieldsOf t).toList.map (fun f => (f.type, f.offset)) = ts)
    (h : DataW.trod enc Try.prog w base spare held fuel t L = some x) : ∃ m, ∀ (i : Nat) (q : TypeId × Nat), ts[i]? = some q → ∃ y, DataW.trod enc Try.prog w base spare held m q.1 ((L.drop q.2).take (Try.prog.cellsOf q.1)) = some y := by
  obtain ⟨xs, n, -, -, -, hlen, hf⟩ := DataW.trod_struct hu h
  refine ⟨n, fun i q hq => ?_⟩
  obtain ⟨f, h1, h2, h3⟩ := field_at hm hq
  have := hf i f h1
  rw [h2, h3] at this
  have hi : i < xs.length := by
    have := (Array.getElem?_eq_some_iff.1 h1).1
    omega
  rw [List.getElem?_eq_getElem hi] at this
  exact ⟨_, this⟩
theorem cells_int : Try.prog.cellsOf 3 = 1 := by kernel_rfl
theorem int_in {a m : Nat} {y : DataW H × List MemPlace} (h : DataW.trod enc Try.prog w base spare held m 3 ((L.drop a).take (Try.prog.cellsOf 3)) = some y) : ∃ n, L[a]? = some (.int .i64 n) ∧ (Lit.int .i64 n).wf = true := by
  have h3 : Try.prog.underlying 3 = some (.int .i64) := by kernel_rfl
  rw [cells_int] at h
  obtain ⟨n, hn, -, hw⟩ := DataW.trod_int h3 h
  exact ⟨n, one_at hn, hw⟩
theorem dot_in (h : DataW.trod enc Try.prog w base spare held fuel 34 L = some x) : ∃ r n, L[0]? = some (.int .i64 r) ∧ L[1]? = some (.int .i64 n) := by
  obtain ⟨m, hm⟩ := open_field (ts := [(3, 0), (3, 1)]) (by kernel_rfl) (by kernel_rfl) h
  obtain ⟨y0, h0⟩ := hm 0 _ rfl
  obtain ⟨y1, h1⟩ := hm 1 _ rfl
  obtain ⟨r, hr, -⟩ := int_in h0
  obtain ⟨n, hn, -⟩ := int_in h1
  exact ⟨r, n, hr, hn⟩
theorem vec_in (h : DataW.trod enc Try.prog w base spare held fuel 36 L = some x) : ∀ i, i < 16 → ∃ n, L[i]? = some (.int .i64 n) := by
  have hu : Try.prog.underlying 36 = some (.array 16 3) := by kernel_rfl
  obtain ⟨xs, m, -, -, -, hlx, hget⟩ := DataW.trod_array hu h
  intro i hi
  have := hget i hi
  rw [List.getElem?_eq_getElem (by omega : i < xs.length), cells_int, Nat.mul_one] at this
  obtain ⟨n, hn, -⟩ := int_in (a := i) (by rw [cells_int]; exact this)
  exact ⟨n, hn⟩
theorem it_in (h : DataW.trod enc Try.prog w base spare held fuel 64 L = some x) : ∃ i : It Int, ∀ (j : Nat) (u : Value), (itl i)[j]? = some u → L[j]? = some u := by
  obtain ⟨m, hm⟩ := open_field (ts := [(34, 0), (3, 2)]) (by kernel_rfl) (by kernel_rfl) h
  obtain ⟨y0, h0⟩ := hm 0 _ rfl
  obtain ⟨y1, h1⟩ := hm 1 _ rfl
  obtain ⟨r, n, e0, e1⟩ := dot_in h0
  obtain ⟨z, e2, -⟩ := int_in h1
  have e0' : L[0]? = _ := in_at (a := 0) (c := 0) e0
  have e1' : L[1]? = _ := in_at (a := 0) (c := 1) e1
  refine ⟨⟨r, n, z⟩, fun j u hu => ?_⟩
  have hj : j < 3 := (List.getElem?_eq_some_iff.1 hu).1
  match j, hj, hu with
  | 0, _, hu => rw [e0']; exact hu
  | 1, _, hu => rw [e1']; exact hu
  | 2, _, hu => rw [e2]; exact hu
theorem cl_in (h : DataW.trod enc Try.prog w base spare held fuel 38 L = some x) : ∃ o : Cl, IsCl o ∧ ∀ (j : Nat) (u : Value), (cll o)[j]? = some u → L[j]? = some u := by
  obtain ⟨m, hm⟩ := open_field (ts := [(3, 0), (34, 1), (3, 3), (36, 4)]) (by kernel_rfl) (by kernel_rfl) h
  obtain ⟨y0, h0⟩ := hm 0 _ rfl
  obtain ⟨y1, h1⟩ := hm 1 _ rfl
  obtain ⟨y2, h2⟩ := hm 2 _ rfl
  obtain ⟨y3, h3⟩ := hm 3 _ rfl
  obtain ⟨k, e0, -⟩ := int_in h0
  obtain ⟨r, n, e1, e2⟩ := dot_in h1
  obtain ⟨z, e3, wz⟩ := int_in h2
  have ev := vec_in h3
  have e1' : L[1]? = _ := in_at (a := 1) (c := 0) e1
  have e2' : L[2]? = _ := in_at (a := 1) (c := 1) e2
  have ev' : ∀ i, i < 16 → ∃ n, L[4 + i]? = some (.int .i64 n) := fun i hi => by
    obtain ⟨n, hn⟩ := ev i hi
    exact ⟨n, in_at hn⟩
  let o : Cl := ⟨k, r, n, z, (List.range 16).map fun i => intOf (L.getD (4 + i) undef)⟩
  have hl : o.v.length = 16 := by simp [o]
  refine ⟨o, ⟨hl, wz⟩, fun j u hu => ?_⟩
  have h20 : j < 20 := by have := (List.getElem?_eq_some_iff.1 hu).1; rw [cll_length hl] at this; exact this
  rw [← hu]
  by_cases h4 : j < 4
  · rw [cll_head o j h4]
    match j, h4 with
    | 0, _ => exact e0
    | 1, _ => exact e1'
    | 2, _ => exact e2'
    | 3, _ => exact e3
  · obtain ⟨i, rfl⟩ : ∃ i, j = 4 + i := ⟨j - 4, by omega⟩
    obtain ⟨y, hy⟩ := ev' i (by omega)
    have hi : i < 16 := by omega
    rw [cll_tail, hy]
    simp [o, List.getD, hi, hy, intOf]
theorem open_cl {r : Reach} {b0 : Nat} {v : Value} {d : DataW H} {ps : List MemPlace} (hval : Value.okWide Try.prog w r b0 38 v) (hd : DataW.Trod enc Try.prog w base spare held 38 v d ps) :
    ∃ o : Cl, v = .agg (clc o) ∧ IsCl o := by
  have c2 : Try.prog.cellsOf 38 = 20 := by kernel_rfl
  have hu : Try.prog.underlying 38 = some (.struct (Try.prog.fieldsOf 38)) := by kernel_rfl
  obtain ⟨cs, rfl, hsz, -⟩ : ∃ cs, v = .agg cs ∧ cs.size = Try.prog.cellsOf 38 ∧ Row.okWide Try.prog w r b0 38 cs := by
    simpa [Value.okWide, hu] using hval
  rw [c2] at hsz
  obtain ⟨fuel, hf⟩ := hd
  obtain ⟨o, h2, h1⟩ := cl_in hf
  have hlen := cll_length h2.v
  refine ⟨o, ?_, h2⟩
  congr 1
  apply Array.ext_getElem?
  intro i
  have e : (clc o)[i]? = (cll o)[i]? := by simp [clc]
  rw [e]
  by_cases hi : i < 20
  · have hi2 : i < (cll o).length := by omega
    have := h1 i _ (List.getElem?_eq_getElem hi2)
    rw [List.getElem?_eq_getElem hi2, ← this]
    show cs[i]? = cs.toList[i]?
    rw [Array.getElem?_toList]
  · rw [Array.getElem?_eq_none (by omega), List.getElem?_eq_none (by omega)]
theorem open_dt {r : Reach} {b0 : Nat} {v : Value} {d : DataW H} {ps : List MemPlace} (hval : Value.okWide Try.prog w r b0 34 v) (hd : DataW.Trod enc Try.prog w base spare held 34 v d ps) : ∃ r n : Int, v = .agg (dotc r n) := by
  have c2 : Try.prog.cellsOf 34 = 2 := by kernel_rfl
  have hu : Try.prog.underlying 34 = some (.struct (Try.prog.fieldsOf 34)) := by kernel_rfl
  obtain ⟨cs, rfl, hsz, -⟩ : ∃ cs, v = .agg cs ∧ cs.size = Try.prog.cellsOf 34 ∧ Row.okWide Try.prog w r b0 34 cs := by
    simpa [Value.okWide, hu] using hval
  rw [c2] at hsz
  obtain ⟨fuel, hf⟩ := hd
  obtain ⟨r, n, h0, h1⟩ := dot_in hf
  refine ⟨r, n, ?_⟩
  congr 1
  apply Array.ext_getElem?
  intro i
  rw [← Array.getElem?_toList]
  by_cases hi : i < 2
  · match i, hi with
    | 0, _ => exact h0
    | 1, _ => exact h1
  · rw [List.getElem?_eq_none (by rw [Array.length_toList]; omega), Array.getElem?_eq_none (by simp [dotc]; omega)]
theorem open_vc {r : Reach} {b0 : Nat} {v : Value} {d : DataW H} {ps : List MemPlace} (hval : Value.okWide Try.prog w r b0 36 v) (hd : DataW.Trod enc Try.prog w base spare held 36 v d ps) : ∃ l : List Int, v = .agg (vals l) ∧ l.length = 16 := by
  have c2 : Try.prog.cellsOf 36 = 16 := by kernel_rfl
  have hu : Try.prog.underlying 36 = some (.array 16 3) := by kernel_rfl
  obtain ⟨cs, rfl, hsz, -⟩ : ∃ cs, v = .agg cs ∧ cs.size = Try.prog.cellsOf 36 ∧ Row.okWide Try.prog w r b0 36 cs := by
    simpa [Value.okWide, hu] using hval
  rw [c2] at hsz
  obtain ⟨fuel, hf⟩ := hd
  have hv := vec_in hf
  refine ⟨(List.range 16).map fun i => intOf (cs.getD i undef), ?_, by simp⟩
  congr 1
  apply Array.ext_getElem?
  intro i
  by_cases hi : i < 16
  · obtain ⟨n, hn⟩ := hv i hi
    have hn' : cs[i]? = some (.int .i64 n) := by rw [← Array.getElem?_toList]; exact hn
    rw [hn']
    have hic : i < cs.size := by omega
    have hcs : cs[i] = .int .i64 n := by rw [Array.getElem?_eq_getElem hic] at hn'; exact Option.some.inj hn'
    simp [vals, hi, hic, hcs, intOf]
  · rw [Array.getElem?_eq_none (by omega), Array.getElem?_eq_none (by simp [vals]; omega)]
end

/-- A list that came in: each element is a row of k cells. -/
def Lst {α : Type} (cl : α → List Value) (k : Nat) (w : World) (a : Option Addr) (len cap : Nat) (E : List α) : Prop :=
  E.length = len ∧ len ≤ cap ∧ cap ≤ maxLen ∧ (len = 0 ∨ ∃ b off, a = some ⟨b, off, none⟩ ∧ b < w.heap.size ∧ ∀ (i : Nat) (e : α), E[i]? = some e → w.rangeAt b (off + i * k) (cl e))
theorem Lst.below {α : Type} {cl : α → List Value} {k : Nat} {w w' : World} {a : Option Addr} {len cap B : Nat} {E : List α} (h : Lst cl k w a len cap E) (hb : Below B w w') (hB : w.heap.size ≤ B) : Lst cl k w' a len cap E := by
  obtain ⟨h1, h2, h3, h4⟩ := h
  refine ⟨h1, h2, h3, ?_⟩
  rcases h4 with h4 | ⟨b, off, ha, hlt, hE⟩
  · exact .inl h4
  · exact .inr ⟨b, off, ha, Nat.lt_of_lt_of_le hlt hb.size, fun i e he j v hv => (hb.cell (p := ⟨b, off + i * k + j, none⟩) (by show b < B; omega)).trans (hE i e he j v hv)⟩
instance instItBar : Inhabited (It Int) := ⟨⟨0, 0, 0⟩⟩
instance instClBar : Inhabited Cl := ⟨⟨0, 0, 0, 0, []⟩⟩
theorem lst_of {α : Type} [Inhabited α] {cl : α → List Value} {k : Nat} (hk : 0 < k) {w : World} {x : Addr} {len cap : Nat} (hl : len ≤ cap) (hc : cap ≤ maxLen) (hcl : ∀ e : α, ∃ v, (cl e)[0]? = some v) (p : α → Prop)
    (key : ∀ i, i < len → ∃ e : α, (∀ (j : Nat) (u : Value), (cl e)[j]? = some u → w.cell? (x.add (i * k + j)) = some u) ∧ p e) : ∃ E, Lst cl k w (some x) len cap E ∧ ∀ e ∈ E, p e := by
  obtain ⟨O, hO⟩ := @Go.Deep.choose_lt α _ _ _ key
  refine ⟨(List.range len).map O, ⟨by simp, hl, hc, ?_⟩, fun e he => by
    obtain ⟨i, hi, rfl⟩ := List.mem_map.1 he
    exact (hO i (List.mem_range.1 hi)).2⟩
  by_cases h0 : len = 0
  · exact .inl h0
  · right
    obtain ⟨b, off, spot⟩ := x
    obtain ⟨v0, hv0⟩ := hcl (O 0)
    have h00 := (hO 0 (by omega)).1 0 _ hv0
    have hs : spot = none := by simpa [Addr.add] using World.cell?_spot h00
    subst hs
    refine ⟨b, off, rfl, World.block_lt_of_cell? w _ (by rw [Addr.add_lit] at h00; exact h00), fun i e he j u hu => ?_⟩
    have hi : i < len := by have := (List.getElem?_eq_some_iff.1 he).1; simpa using this
    have he' : O i = e := by simpa [hi] using he
    subst he'
    have := (hO i hi).1 j u hu
    rw [Addr.add_lit, ← Nat.add_assoc] at this
    exact this
section
variable {H : Type} {enc : TypeId × Value → H}
theorem open_its {w : World} {a : Option Addr} {len cap : Nat} {d : DataW H} {ps : List MemPlace} (h : DataW.Trod enc Try.prog w 0 (fun _ => true) true 27 (.slice a len cap) d ps) :
    ∃ E : List (It Int), Lst itl 3 w a len cap E := by
  obtain ⟨fuel, hf⟩ := h
  have ce : Try.prog.cellsOf 64 = 3 := by kernel_rfl
  rcases Go.Deep.open_slice Try.underlying27 hf with ⟨hcs, _⟩ | ⟨x, l, c, m, n, D, Pl, hcs, hb, hl, hm, hmm, hx, hall⟩
  · simp [Value.cells] at hcs
    obtain ⟨rfl, rfl, rfl⟩ := hcs
    exact ⟨[], rfl, Nat.le_refl _, Nat.zero_le _, .inl rfl⟩
  · simp [Value.cells] at hcs
    obtain ⟨rfl, rfl, rfl⟩ := hcs
    simp only [if_true] at hmm
    subst hmm
    have := lst_of (α := It Int) (cl := itl) (k := 3) (by omega) (w := w) (x := x) hl hm (fun e => ⟨_, rfl⟩) (fun _ => True) (fun i hi => by
      obtain ⟨cs', h1, h2⟩ := hall i (by omega)
      rw [ce] at h1
      obtain ⟨_, hlen, hcell⟩ := World.cells?_some h1
      obtain ⟨e, h3⟩ := it_in h2
      refine ⟨e, fun j u hu => ?_, trivial⟩
      have hj : j < 3 := (List.getElem?_eq_some_iff.1 hu).1
      have := hcell j hj
      rw [Go.Deep.add_add] at this
      rw [this]
      exact h3 j u hu)
    obtain ⟨E, hE, -⟩ := this
    exact ⟨E, hE⟩
theorem open_cls {w : World} {a : Option Addr} {len cap : Nat} {d : DataW H} {ps : List MemPlace} (h : DataW.Trod enc Try.prog w 0 (fun _ => true) true 22 (.slice a len cap) d ps) :
    ∃ O : List Cl, Lst cll 20 w a len cap O ∧ ∀ o ∈ O, IsCl o := by
  obtain ⟨fuel, hf⟩ := h
  have ce : Try.prog.cellsOf 38 = 20 := by kernel_rfl
  rcases Go.Deep.open_slice Try.underlying22 hf with ⟨hcs, _⟩ | ⟨x, l, c, m, n, D, Pl, hcs, hb, hl, hm, hmm, hx, hall⟩
  · simp [Value.cells] at hcs
    obtain ⟨rfl, rfl, rfl⟩ := hcs
    exact ⟨[], ⟨rfl, Nat.le_refl _, Nat.zero_le _, .inl rfl⟩, by simp⟩
  · simp [Value.cells] at hcs
    obtain ⟨rfl, rfl, rfl⟩ := hcs
    simp only [if_true] at hmm
    subst hmm
    exact lst_of (α := Cl) (cl := cll) (k := 20) (by omega) (w := w) (x := x) hl hm (fun e => ⟨_, rfl⟩) IsCl (fun i hi => by
      obtain ⟨cs', h1, h2⟩ := hall i (by omega)
      rw [ce] at h1
      obtain ⟨_, hlen, hcell⟩ := World.cells?_some h1
      obtain ⟨o, h4, h3⟩ := cl_in h2
      refine ⟨o, fun j u hu => ?_, h4⟩
      have hj : j < 20 := by have := (List.getElem?_eq_some_iff.1 hu).1; rw [cll_length h4.v] at this; exact this
      have := hcell j hj
      rw [Go.Deep.add_add] at this
      rw [this]
      exact h3 j u hu)
end
end Go.Proofs.Yteihijejohgfpaa
