/-
  What comes in: an event, a list of events, a call of the script and a list of these, opened.
-/
import Derived.Test.YthdhnilfkpbmpaaLsm
import Derived.Test.YthdhnilfkpbmpaaOpe
import Derived.Deep.Slices
namespace Go.Proofs.Ythdhnilfkpbmpaa
set_option maxRecDepth 100000
set_option linter.unusedVariables false
open Go.ChangeShapes Go.WideShapes Go.ChangeAt Go.RowKit

/-- A call. -/
structure Cl where
  kind : Int
  n : Int
  at0 : Int
  turn : Int
  e : Ev
  s : List UInt8
  la : Option Addr
  lm : Nat
  lc : Nat
  L : List Ev
def clh (o : Cl) : List Value := [.int .i64 o.kind, .int .i64 o.n, .int .i64 o.at0, .int .i64 o.turn]
def clt (o : Cl) : List Value := [.string (sb o.s), .slice o.la o.lm o.lc]
def cll (o : Cl) : List Value := clh o ++ (evl o.e ++ clt o)
def clc (o : Cl) : Array Value := (cll o).toArray
def Cl.none : Cl := ⟨0, 0, 0, 0, zv, [], .none, 0, 0, []⟩
/-- As wide as its type; its list lies in memory. -/
structure IsCl (w : World) (o : Cl) : Prop where
  e : Wide o.e
  s : o.s.length ≤ 9223372036854775807
  L : Evs w o.la o.lm o.lc o.L
theorem cll_length {o : Cl} (h : Wide o.e) : (cll o).length = 32 := by
  rw [cll, List.length_append, List.length_append, evl_length _ h.1]; rfl
theorem clc_one (o : Cl) : (clc o).all (·.oneCell') = true := by
  rw [Array.all_eq_true_iff_forall_mem]
  intro v hv
  have hv' : v ∈ cll o := by simpa [clc] using hv
  rw [cll, List.mem_append, List.mem_append] at hv'
  rcases hv' with h | h | h
  · simp [clh] at h; rcases h with rfl | rfl | rfl | rfl <;> rfl
  · exact evs_one [o.e] v (by simpa [evs] using h)
  · simp [clt] at h; rcases h with rfl | rfl <;> rfl
theorem cll_head (o : Cl) (j : Nat) (hj : j < 4) : (cll o)[j]? = (clh o)[j]? := by
  rw [cll, List.getElem?_append_left (by simpa [clh] using hj)]
theorem cll_mid {o : Cl} (h : Wide o.e) (j : Nat) (hj : j < 26) : (cll o)[4 + j]? = (evl o.e)[j]? := by
  have h4 : (clh o).length = 4 := rfl
  rw [cll, List.getElem?_append_right (by omega), h4, Nat.add_sub_cancel_left, List.getElem?_append_left (by rw [evl_length _ h.1]; omega)]
theorem cll_tail {o : Cl} (h : Wide o.e) (j : Nat) : (cll o)[30 + j]? = (clt o)[j]? := by
  have h4 : (clh o).length = 4 := rfl
  rw [cll, List.getElem?_append_right (by omega), List.getElem?_append_right (by rw [evl_length _ h.1]; omega), h4, evl_length _ h.1]
  congr 1
  omega

section
variable {H : Type} {enc : TypeId × Value → H} {w : World} {base : Nat} {spare : Nat → Bool} {held : Bool} {fuel : Nat} {L : List Value} {x : DataW H × List MemPlace}
theorem ev_in (h : DataW.trod enc Try.prog w base spare held fuel 30 L = some x) : ∃ e : Ev, Wide e ∧ ∀ (j : Nat) (u : Value), (evl e)[j]? = some u → L[j]? = some u := by
  have hu : Try.prog.underlying 30 = some (.struct (Try.prog.fieldsOf 30)) := by kernel_rfl
  obtain ⟨m, hm⟩ := open_field (ts := [(24, 0), (3, 2), (26, 3), (28, 19)]) hu (by kernel_rfl) h
  obtain ⟨y0, h0⟩ := hm 0 _ rfl
  obtain ⟨y1, h1⟩ := hm 1 _ rfl
  obtain ⟨y2, h2⟩ := hm 2 _ rfl
  obtain ⟨y3, h3⟩ := hm 3 _ rfl
  obtain ⟨r0, n0, e0, e1⟩ := dot_in h0
  obtain ⟨t0, e2⟩ := int_in h1
  have ev := vec_in h2
  obtain ⟨k, s0, s1, s2, n, rr, rn, f0, ⟨f1, f2, f3⟩, ⟨f4, f5, f6⟩, l0, l1, l2⟩ := op_in h3
  have e0' : L[0]? = _ := in_at (a := 0) (c := 0) e0
  have e1' : L[1]? = _ := in_at (a := 0) (c := 1) e1
  have ev' : ∀ i, i < 16 → ∃ n, L[3 + i]? = some (.int .i64 n) := fun i hi => by
    obtain ⟨n, hn⟩ := ev i hi
    exact ⟨n, in_at hn⟩
  let e : Ev := ⟨r0, n0, t0, (List.range 16).map fun i => intOf (L.getD (3 + i) undef), k, s0, s1, s2, n, rr, rn⟩
  have hl : e.deps.length = 16 := by simp [e]
  refine ⟨e, ⟨hl, ⟨l0, l1, l2⟩⟩, fun i u hu => ?_⟩
  have h26 : i < 26 := by have := (List.getElem?_eq_some_iff.1 hu).1; rw [evl_length e hl] at this; exact this
  rw [← hu]
  by_cases h3' : i < 3
  · match i, h3' with
    | 0, _ => exact e0'
    | 1, _ => exact e1'
    | 2, _ => exact e2
  · by_cases h19 : i < 19
    · obtain ⟨j, rfl⟩ : ∃ j, i = 3 + j := ⟨i - 3, by omega⟩
      obtain ⟨z, hz⟩ := ev' j (by omega)
      have hj : j < 16 := by omega
      rw [evl_mid hl j hj, hz]
      simp [e, List.getD, hj, hz, intOf]
    · obtain ⟨j, rfl⟩ : ∃ j, i = 19 + j := ⟨i - 19, by omega⟩
      rw [evl_hi hl]
      have hj : j < 7 := by omega
      match j, hj with
      | 0, _ => exact in_at (a := 19) (c := 0) f0
      | 1, _ => exact in_at (a := 19) (c := 1) f1
      | 2, _ => exact in_at (a := 19) (c := 2) f2
      | 3, _ => exact in_at (a := 19) (c := 3) f3
      | 4, _ => exact in_at (a := 19) (c := 4) f4
      | 5, _ => exact in_at (a := 19) (c := 5) f5
      | 6, _ => exact in_at (a := 19) (c := 6) f6
theorem evs_list {len : Nat} (f : Nat → Ev) (hw : ∀ i, i < len → Wide (f i)) : (∀ e ∈ (List.range len).map f, Wide e) := fun e he => by
  obtain ⟨i, hi, rfl⟩ := List.mem_map.1 he
  exact hw i (List.mem_range.1 hi)
theorem evs_in (h : DataW.trod enc Try.prog w base (fun _ => true) held fuel 37 L = some x) : ∃ a len cap E, L = [.slice a len cap] ∧ Evs w a len cap E := by
  have ce : Try.prog.cellsOf 30 = 26 := by kernel_rfl
  rcases Go.Deep.open_slice Try.underlying37 h with ⟨rfl, _⟩ | ⟨ad, l, c, m, n, D, Pl, rfl, hb, hl, hm, hmm, hx, hall⟩
  · exact ⟨none, 0, 0, [], rfl, Evs.nil w⟩
  · simp only [if_true] at hmm
    subst hmm
    have key : ∀ i, i < l → ∃ e : Ev, Wide e ∧ ∀ (j : Nat) (u : Value), (evl e)[j]? = some u → w.cell? (ad.add (i * 26 + j)) = some u := by
      intro i hi
      obtain ⟨cs', h1, h2⟩ := hall i (by omega)
      rw [ce] at h1
      obtain ⟨_, hlen, hcell⟩ := World.cells?_some h1
      obtain ⟨e, h3, h4⟩ := ev_in h2
      refine ⟨e, h3, fun j u hu => ?_⟩
      have hj : j < 26 := by have := (List.getElem?_eq_some_iff.1 hu).1; rw [evl_length e h3.1] at this; exact this
      have := hcell j hj
      rw [Go.Deep.add_add] at this
      rw [this]
      exact h4 j u hu
    obtain ⟨f, hf⟩ := @Go.Deep.choose_lt Ev ⟨zv⟩ _ _ key
    have hw : ∀ e ∈ (List.range l).map f, Wide e := evs_list f (fun i hi => (hf i hi).1)
    refine ⟨some ad, l, _, (List.range l).map f, rfl, by simp, hl, hm, (fun h => by cases h), fun ad' ha j u hu => ?_, hw⟩
    obtain rfl := Option.some.inj ha
    have hj : j < l * 26 := by
      have := (List.getElem?_eq_some_iff.1 hu).1
      rw [evs_length hw] at this
      simpa using this
    have hi : j / 26 < l := by omega
    have hr : j % 26 < 26 := Nat.mod_lt _ (by omega)
    have hfi : ((List.range l).map f)[j / 26]? = some (f (j / 26)) := by simp [hi]
    obtain ⟨v, hv⟩ : ∃ v, (evl (f (j / 26)))[j % 26]? = some v := ⟨_, List.getElem?_eq_getElem (by rw [evl_length _ (hf _ hi).1.1]; exact hr)⟩
    have h1 := evs_at hw (j / 26) _ hfi (j % 26) v hv
    have h2 := (hf _ hi).2 (j % 26) v hv
    rw [show j / 26 * 26 + j % 26 = j by omega] at h1 h2
    rw [h1] at hu
    obtain rfl := Option.some.inj hu
    exact h2
theorem cl_in (h : DataW.trod enc Try.prog w base (fun _ => true) held fuel 39 L = some x) : ∃ o : Cl, IsCl w o ∧ ∀ (j : Nat) (u : Value), (cll o)[j]? = some u → L[j]? = some u := by
  obtain ⟨m, hm⟩ := open_field (ts := [(3, 0), (3, 1), (3, 2), (3, 3), (30, 4), (9, 30), (37, 31)]) (by kernel_rfl) (by kernel_rfl) h
  obtain ⟨y0, h0⟩ := hm 0 _ rfl
  obtain ⟨y1, h1⟩ := hm 1 _ rfl
  obtain ⟨y2, h2⟩ := hm 2 _ rfl
  obtain ⟨y3, h3⟩ := hm 3 _ rfl
  obtain ⟨y4, h4⟩ := hm 4 _ rfl
  obtain ⟨y5, h5⟩ := hm 5 _ rfl
  obtain ⟨y6, h6⟩ := hm 6 _ rfl
  obtain ⟨k, e0⟩ := int_in h0
  obtain ⟨n, e1⟩ := int_in h1
  obtain ⟨a, e2⟩ := int_in h2
  obtain ⟨t, e3⟩ := int_in h3
  obtain ⟨e, we, he⟩ := ev_in h4
  obtain ⟨s, e5, l5⟩ := str_in h5
  obtain ⟨la, lm, lc, E, e6, hE⟩ := evs_in h6
  have c1 : Try.prog.cellsOf 37 = 1 := by kernel_rfl
  have c26 : Try.prog.cellsOf 30 = 26 := by kernel_rfl
  simp only [c1] at e6
  have e6' := one_at e6
  refine ⟨⟨k, n, a, t, e, s, la, lm, lc, E⟩, ⟨we, l5, hE⟩, fun j u hu => ?_⟩
  by_cases hj : j < 4
  · rw [cll_head _ j hj] at hu
    match j, hj, hu with
    | 0, _, hu => rw [e0]; exact hu
    | 1, _, hu => rw [e1]; exact hu
    | 2, _, hu => rw [e2]; exact hu
    | 3, _, hu => rw [e3]; exact hu
  · by_cases hj2 : j < 30
    · obtain ⟨i, rfl⟩ : ∃ i, j = 4 + i := ⟨j - 4, by omega⟩
      rw [cll_mid we i (by omega)] at hu
      exact in_at (he i u hu)
    · obtain ⟨i, rfl⟩ : ∃ i, j = 30 + i := ⟨j - 30, by omega⟩
      rw [cll_tail we] at hu
      match i, hu with
      | 0, hu => rw [e5]; exact hu
      | 1, hu => rw [e6']; exact hu
theorem open_cl {r : Reach} {b0 : Nat} {v : Value} {d : DataW H} {ps : List MemPlace} (hval : Value.okWide Try.prog w r b0 39 v) (hd : DataW.Trod enc Try.prog w base (fun _ => true) held 39 v d ps) :
    ∃ o : Cl, v = .agg (clc o) ∧ IsCl w o := by
  have c2 : Try.prog.cellsOf 39 = 32 := by kernel_rfl
  have hu : Try.prog.underlying 39 = some (.struct (Try.prog.fieldsOf 39)) := by kernel_rfl
  obtain ⟨cs, rfl, hsz, -⟩ : ∃ cs, v = .agg cs ∧ cs.size = Try.prog.cellsOf 39 ∧ Row.okWide Try.prog w r b0 39 cs := by
    simpa [Value.okWide, hu] using hval
  rw [c2] at hsz
  obtain ⟨fuel, hf⟩ := hd
  obtain ⟨o, h2, h1⟩ := cl_in hf
  have hlen := cll_length h2.e
  refine ⟨o, ?_, h2⟩
  congr 1
  apply Array.ext_getElem?
  intro i
  have e : (clc o)[i]? = (cll o)[i]? := by simp [clc]
  rw [e]
  by_cases hi : i < 32
  · have hi2 : i < (cll o).length := by omega
    have := h1 i _ (List.getElem?_eq_getElem hi2)
    rw [List.getElem?_eq_getElem hi2, ← this]
    show cs[i]? = cs.toList[i]?
    rw [Array.getElem?_toList]
  · rw [Array.getElem?_eq_none (by omega), List.getElem?_eq_none (by omega)]
theorem open_evs {a : Option Addr} {len cap : Nat} {d : DataW H} {ps : List MemPlace} (h : DataW.Trod enc Try.prog w base (fun _ => true) held 37 (.slice a len cap) d ps) : ∃ E, Evs w a len cap E := by
  obtain ⟨fuel, hf⟩ := h
  obtain ⟨a', l', c', E, h1, h2⟩ := evs_in hf
  simp only [Value.cells, List.cons.injEq, and_true, Value.slice.injEq] at h1
  obtain ⟨rfl, rfl, rfl⟩ := h1
  exact ⟨E, h2⟩
end

/-- A list of calls that came in. -/
def IsCls (w : World) (a : Option Addr) (len : Nat) (O : Nat → Cl) : Prop :=
  len ≤ maxLen ∧ (len = 0 ∨ ∃ b off, a = some ⟨b, off, none⟩ ∧ b < w.heap.size ∧ ∀ i, i < len → w.rangeAt b (off + i * 32) (cll (O i)) ∧ IsCl w (O i))
section
variable {H : Type} {enc : TypeId × Value → H}
theorem open_cls {w : World} {a : Option Addr} {len cap : Nat} {d : DataW H} {ps : List MemPlace} (h : DataW.Trod enc Try.prog w 0 (fun _ => true) true 22 (.slice a len cap) d ps) :
    ∃ O, IsCls w a len O := by
  obtain ⟨fuel, hf⟩ := h
  have ce : Try.prog.cellsOf 39 = 32 := by kernel_rfl
  rcases Go.Deep.open_slice Try.underlying22 hf with ⟨hcs, _⟩ | ⟨x, l, c, m, n, D, Pl, hcs, hb, hl, hm, hmm, hx, hall⟩
  · simp [Value.cells] at hcs
    exact ⟨fun _ => Cl.none, by rw [hcs.2.1]; exact Nat.zero_le _, .inl hcs.2.1⟩
  · simp [Value.cells] at hcs
    obtain ⟨rfl, rfl, rfl⟩ := hcs
    simp only [if_true] at hmm
    subst hmm
    have key : ∀ i, i < m → ∃ o : Cl, (∀ (j : Nat) (u : Value), (cll o)[j]? = some u → w.cell? (x.add (i * 32 + j)) = some u) ∧ IsCl w o := by
      intro i hi
      obtain ⟨cs', h1, h2⟩ := hall i hi
      rw [ce] at h1
      obtain ⟨_, hlen, hcell⟩ := World.cells?_some h1
      obtain ⟨o, h4, h3⟩ := cl_in h2
      refine ⟨o, fun j u hu => ?_, h4⟩
      have hj : j < 32 := by have := (List.getElem?_eq_some_iff.1 hu).1; rw [cll_length h4.e] at this; exact this
      have := hcell j hj
      rw [Go.Deep.add_add] at this
      rw [this]
      exact h3 j u hu
    obtain ⟨O, hO⟩ := @Go.Deep.choose_lt Cl ⟨Cl.none⟩ _ _ key
    refine ⟨O, by omega, ?_⟩
    by_cases h0 : len = 0
    · exact .inl h0
    · right
      obtain ⟨b, off, spot⟩ := x
      have h00 := (hO 0 (by omega)).1 0 _ rfl
      have hs : spot = none := by simpa [Addr.add] using World.cell?_spot h00
      subst hs
      refine ⟨b, off, rfl, ?_, fun i hi => ⟨fun j u hu => ?_, (hO i (by omega)).2⟩⟩
      · exact World.block_lt_of_cell? w _ (by rw [Addr.add_lit] at h00; exact h00)
      · have := (hO i (by omega)).1 j u hu
        rw [Addr.add_lit, ← Nat.add_assoc] at this
        exact this
end
end Go.Proofs.Ythdhnilfkpbmpaa
