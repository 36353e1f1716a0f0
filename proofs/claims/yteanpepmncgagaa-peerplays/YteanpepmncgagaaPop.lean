/-
  Calls of layer 20's law that came in: a list of them, and one by value.
-/
import Derived.Test.YteanpepmncgagaaPla
import Derived.Deep.Slices
namespace Go.Proofs.Yteanpepmncgagaa
set_option maxRecDepth 100000
open Go.RowKit

structure Po where
  kind : Int
  e : Ev
  v : List Int
  w : List Int
  n : Int
def pol (o : Po) : List Value := .int .i64 o.kind :: (evl o.e ++ (o.v.map (Value.int .i64) ++ (o.w.map (Value.int .i64) ++ [.int .i64 o.n])))
structure WidePo (o : Po) : Prop where
  e : Wide o.e
  v : o.v.length = 16
  w : o.w.length = 16
/-- One call. -/
structure IsPo (w : World) (b k : Nat) (o : Po) : Prop where
  kind : w.cell? ⟨b, k, none⟩ = some (.int .i64 o.kind)
  ev : w.rangeAt b (k + 1) (evl o.e)
  v : w.rangeAt b (k + 27) (o.v.map (Value.int .i64))
  wv : w.rangeAt b (k + 43) (o.w.map (Value.int .i64))
  num : w.cell? ⟨b, k + 59, none⟩ = some (.int .i64 o.n)
  wide : WidePo o
theorem pol_length {o : Po} (h : WidePo o) : (pol o).length = 60 := by
  rw [pol, List.length_cons, List.length_append, evl_length o.e h.e.1, List.length_append, List.length_map, List.length_append, List.length_map, h.v, h.w]
  rfl
theorem pol_ev {o : Po} (_h : WidePo o) {j : Nat} {u : Value} (hu : (evl o.e)[j]? = some u) : (pol o)[1 + j]? = some u := by
  rw [pol, Nat.add_comm, List.getElem?_cons_succ, List.getElem?_append_left (List.getElem?_eq_some_iff.1 hu).1]
  exact hu
theorem pol_v {o : Po} (h : WidePo o) {j : Nat} {u : Value} (hu : (o.v.map (Value.int .i64))[j]? = some u) : (pol o)[27 + j]? = some u := by
  have hl := evl_length o.e h.e.1
  rw [pol, show 27 + j = (26 + j) + 1 by omega, List.getElem?_cons_succ, List.getElem?_append_right (by omega), hl, show 26 + j - 26 = j by omega, List.getElem?_append_left (List.getElem?_eq_some_iff.1 hu).1]
  exact hu
theorem pol_w {o : Po} (h : WidePo o) {j : Nat} {u : Value} (hu : (o.w.map (Value.int .i64))[j]? = some u) : (pol o)[43 + j]? = some u := by
  have hl := evl_length o.e h.e.1
  have hlv : (o.v.map (Value.int .i64)).length = 16 := by rw [List.length_map, h.v]
  rw [pol, show 43 + j = (42 + j) + 1 by omega, List.getElem?_cons_succ, List.getElem?_append_right (by omega), hl, List.getElem?_append_right (by omega), hlv, show 42 + j - 26 - 16 = j by omega, List.getElem?_append_left (List.getElem?_eq_some_iff.1 hu).1]
  exact hu
theorem pol_n {o : Po} (h : WidePo o) : (pol o)[59]? = some (.int .i64 o.n) := by
  have hl := evl_length o.e h.e.1
  have hlv : (o.v.map (Value.int .i64)).length = 16 := by rw [List.length_map, h.v]
  have hlw : (o.w.map (Value.int .i64)).length = 16 := by rw [List.length_map, h.w]
  rw [pol, show 59 = 58 + 1 by omega, List.getElem?_cons_succ, List.getElem?_append_right (by omega), hl, List.getElem?_append_right (by omega), hlv, List.getElem?_append_right (by omega), hlw]
  rfl
theorem pol_one (o : Po) : (pol o).toArray.all (·.oneCell') = true := by
  rw [Array.all_eq_true_iff_forall_mem]
  intro u hu
  rw [List.mem_toArray, pol, List.mem_cons, List.mem_append, List.mem_append, List.mem_append] at hu
  have he := evc_one o.e
  rw [Array.all_eq_true_iff_forall_mem] at he
  rcases hu with rfl | hu | hu | hu | hu
  · rfl
  · exact he u (by simpa [evc] using hu)
  · obtain ⟨x, -, rfl⟩ := List.mem_map.1 hu; rfl
  · obtain ⟨x, -, rfl⟩ := List.mem_map.1 hu; rfl
  · rw [List.mem_singleton.1 hu]; rfl
theorem IsPo.same {w w' : World} {b k : Nat} {o : Po} (h : IsPo w b k o) (hb : w'.heap[b]? = w.heap[b]?) : IsPo w' b k o := by
  have hc : ∀ j, w'.cell? ⟨b, j, none⟩ = w.cell? ⟨b, j, none⟩ := fun j => by simp only [World.cell?, hb]
  have hr : ∀ {j : Nat} {l : List Value}, w.rangeAt b j l → w'.rangeAt b j l := fun {j l} hr i u hu => by rw [hc]; exact hr i u hu
  exact ⟨by rw [hc]; exact h.kind, hr h.ev, hr h.v, hr h.wv, by rw [hc]; exact h.num, h.wide⟩
theorem IsPo.lt {w : World} {b k : Nat} {o : Po} (h : IsPo w b k o) : b < w.heap.size := World.block_lt_of_cell? w _ h.kind
theorem IsPo.all {w : World} {b k : Nat} {o : Po} (h : IsPo w b k o) : w.rangeAt b k (pol o) := fun j u hu => by
  have hl := pol_length h.wide
  have hj : j < 60 := by have := (List.getElem?_eq_some_iff.1 hu).1; omega
  have hle := evl_length o.e h.wide.e.1
  have key : ∀ {c i : Nat} {l : List Value}, (∀ {i : Nat} {u : Value}, l[i]? = some u → (pol o)[c + i]? = some u) → w.rangeAt b (k + c) l → j = c + i → i < l.length → w.cell? ⟨b, k + j, none⟩ = some u := fun {c i l} h1 h2 h3 h4 => by
    have h5 := h1 (List.getElem?_eq_getElem h4)
    rw [← h3, hu] at h5
    have := h2 i _ (List.getElem?_eq_getElem h4)
    rw [show k + j = k + c + i by omega, this, ← h5]
  by_cases h0 : j = 0
  · subst h0
    have : u = .int .i64 o.kind := by have h1 : (pol o)[0]? = some (.int .i64 o.kind) := rfl; rw [h1] at hu; exact (Option.some.inj hu).symm
    rw [this, Nat.add_zero]; exact h.kind
  · by_cases h1 : j < 27
    · exact key (c := 1) (i := j - 1) (fun hu => pol_ev h.wide hu) h.ev (by omega) (by omega)
    · by_cases h2 : j < 43
      · exact key (c := 27) (i := j - 27) (fun hu => pol_v h.wide hu) h.v (by omega) (by rw [List.length_map, h.wide.v]; omega)
      · by_cases h3 : j < 59
        · exact key (c := 43) (i := j - 43) (fun hu => pol_w h.wide hu) h.wv (by omega) (by rw [List.length_map, h.wide.w]; omega)
        · obtain rfl : j = 59 := by omega
          rw [pol_n h.wide] at hu
          rw [← Option.some.inj hu]; exact h.num
theorem IsPo.of_all {w : World} {b k : Nat} {o : Po} (ho : WidePo o) (h : w.rangeAt b k (pol o)) : IsPo w b k o :=
  ⟨h 0 _ rfl, fun j u hu => by rw [show k + 1 + j = k + (1 + j) by omega]; exact h _ u (pol_ev ho hu), fun j u hu => by rw [show k + 27 + j = k + (27 + j) by omega]; exact h _ u (pol_v ho hu), fun j u hu => by rw [show k + 43 + j = k + (43 + j) by omega]; exact h _ u (pol_w ho hu), h 59 _ (pol_n ho), ho⟩
theorem IsPo.row {w : World} {g : Nat} {o : Po} (ho : WidePo o) (h : w.heap[g]? = some (.cells (pol o).toArray 41 (0, 0))) : IsPo w g 0 o :=
  IsPo.of_all ho fun j u hu => by rw [Nat.zero_add, cell_of_row w g j _ _ _ h, List.getElem?_toArray]; exact hu
theorem po_new (w : World) (o : Po) (ho : WidePo o) : IsPo (w.alloc (.cells (pol o).toArray 41)) w.heap.size 0 o := IsPo.row ho (heap_alloc_new w _)
theorem IsPo.ldv {w : World} {b k : Nat} {o : Po} (h : IsPo w b k o) : (loadVar 35 ⟨b, k + 27, none⟩).run Try.prog w = .ok (.agg (vals o.v)) w :=
  run_loadVar_mid w b _ 35 _ _ h.v Try.underlying35 rfl (by have := size16 o.v h.wide.v; rwa [vals_size, ← List.length_map (f := Value.int .i64)] at this)
theorem IsPo.ldw {w : World} {b k : Nat} {o : Po} (h : IsPo w b k o) : (loadVar 35 ⟨b, k + 43, none⟩).run Try.prog w = .ok (.agg (vals o.w)) w :=
  run_loadVar_mid w b _ 35 _ _ h.wv Try.underlying35 rfl (by have := size16 o.w h.wide.w; rwa [vals_size, ← List.length_map (f := Value.int .i64)] at this)
theorem IsPo.lde {w : World} {b k : Nat} {o : Po} (h : IsPo w b k o) : (loadVar 39 ⟨b, k + 1, none⟩).run Try.prog w = .ok (.agg (evc o.e)) w := load_part h.ev h.wide.e.1
theorem field_p0 (w : World) (b : Nat) : (Instr.fieldAt 41 (.pointer (some ⟨b, 0, none⟩)) 0).run Try.prog w = .ok (.pointer (some ⟨b, 0, none⟩)) w := by kernel_rfl
theorem field_p1 (w : World) (b : Nat) : (Instr.fieldAt 41 (.pointer (some ⟨b, 0, none⟩)) 1).run Try.prog w = .ok (.pointer (some ⟨b, 1, none⟩)) w := by kernel_rfl
theorem field_p2 (w : World) (b : Nat) : (Instr.fieldAt 41 (.pointer (some ⟨b, 0, none⟩)) 2).run Try.prog w = .ok (.pointer (some ⟨b, 27, none⟩)) w := by kernel_rfl
theorem field_p3 (w : World) (b : Nat) : (Instr.fieldAt 41 (.pointer (some ⟨b, 0, none⟩)) 3).run Try.prog w = .ok (.pointer (some ⟨b, 43, none⟩)) w := by kernel_rfl
theorem field_p4 (w : World) (b : Nat) : (Instr.fieldAt 41 (.pointer (some ⟨b, 0, none⟩)) 4).run Try.prog w = .ok (.pointer (some ⟨b, 59, none⟩)) w := by kernel_rfl
theorem size60 {o : Po} (h : WidePo o) : (Try.prog.info? 41).map (·.size) = some (pol o).toArray.size := by
  rw [List.size_toArray, pol_length h]; kernel_rfl
/-- No call. -/
def zp : Po := ⟨0, zv, zeros, zeros, 0⟩
theorem zp_wide : WidePo zp := ⟨⟨rfl, by simp [zp, zv], by simp [zp, zv], by simp [zp, zv]⟩, rfl, rfl⟩
theorem zp_pol : (pol zp).toArray = #[Value.int IntKind.i64 0, Value.int IntKind.i64 0, Value.int IntKind.i64 0, Value.int IntKind.i64 0, Value.int IntKind.i64 0, Value.int IntKind.i64 0, Value.int IntKind.i64 0, Value.int IntKind.i64 0, Value.int IntKind.i64 0, Value.int IntKind.i64 0, Value.int IntKind.i64 0, Value.int IntKind.i64 0, Value.int IntKind.i64 0, Value.int IntKind.i64 0, Value.int IntKind.i64 0, Value.int IntKind.i64 0, Value.int IntKind.i64 0, Value.int IntKind.i64 0, Value.int IntKind.i64 0, Value.int IntKind.i64 0, Value.int IntKind.i64 0, Value.string { data := #[] }, Value.string { data := #[] }, Value.string { data := #[] }, Value.int IntKind.i64 0, Value.int IntKind.i64 0, Value.int IntKind.i64 0, Value.int IntKind.i64 0, Value.int IntKind.i64 0, Value.int IntKind.i64 0, Value.int IntKind.i64 0, Value.int IntKind.i64 0, Value.int IntKind.i64 0, Value.int IntKind.i64 0, Value.int IntKind.i64 0, Value.int IntKind.i64 0, Value.int IntKind.i64 0, Value.int IntKind.i64 0, Value.int IntKind.i64 0, Value.int IntKind.i64 0, Value.int IntKind.i64 0, Value.int IntKind.i64 0, Value.int IntKind.i64 0, Value.int IntKind.i64 0, Value.int IntKind.i64 0, Value.int IntKind.i64 0, Value.int IntKind.i64 0, Value.int IntKind.i64 0, Value.int IntKind.i64 0, Value.int IntKind.i64 0, Value.int IntKind.i64 0, Value.int IntKind.i64 0, Value.int IntKind.i64 0, Value.int IntKind.i64 0, Value.int IntKind.i64 0, Value.int IntKind.i64 0, Value.int IntKind.i64 0, Value.int IntKind.i64 0, Value.int IntKind.i64 0, Value.int IntKind.i64 0] := rfl
def Pops (w : World) (a : Option Addr) (len : Nat) (O : Nat → Po) : Prop :=
  len = 0 ∨ ∃ b off, a = some ⟨b, off, none⟩ ∧ b < w.heap.size ∧ ∀ i, i < len → IsPo w b (off + i * 60) (O i)
theorem index_pop (w : World) {b off k m c : Nat} (hk : k < m) : (Instr.indexAt 22 (.slice (some ⟨b, off, none⟩) m c) (.int .i64 (k : Int))).run Try.prog w = .ok (.pointer (some ⟨b, off + k * 60, none⟩)) w := by
  have hk' : (k : Int) < (m : Int) := by omega
  have hs : (Try.prog.info? 41).map (·.size) = some 60 := by kernel_rfl
  have ht : Try.prog.underlying 22 = some (.slice 41) := Try.underlying22
  go_simp
section
variable {H : Type} {enc : TypeId × Value → H} {w : World} {base : Nat} {spare : Nat → Bool} {held : Bool} {fuel : Nat} {L : List Value} {x : DataW H × List MemPlace}
theorem pop_in (h : DataW.trod enc Try.prog w base spare held fuel 41 L = some x) : ∃ o : Po, WidePo o ∧ ∀ (j : Nat) (u : Value), (pol o)[j]? = some u → L[j]? = some u := by
  have hu : Try.prog.underlying 41 = some (.struct (Try.prog.fieldsOf 41)) := by kernel_rfl
  obtain ⟨m, hm⟩ := open_field (ts := [(3, 0), (39, 1), (35, 27), (35, 43), (3, 59)]) hu (by kernel_rfl) h
  obtain ⟨y0, h0⟩ := hm 0 _ rfl
  obtain ⟨y1, h1⟩ := hm 1 _ rfl
  obtain ⟨y2, h2⟩ := hm 2 _ rfl
  obtain ⟨y3, h3⟩ := hm 3 _ rfl
  obtain ⟨y4, h4⟩ := hm 4 _ rfl
  obtain ⟨kd, e0⟩ := int_in h0
  obtain ⟨e, hw, he⟩ := ev_in h1
  have ev2 := vec_in h2
  have ev3 := vec_in h3
  obtain ⟨nn, e4⟩ := int_in h4
  have e0' : L[0]? = some (.int .i64 kd) := e0
  have e4' : L[59]? = some (.int .i64 nn) := e4
  have ev2' : ∀ i, i < 16 → ∃ n, L[27 + i]? = some (.int .i64 n) := fun i hi => by
    obtain ⟨n, hn⟩ := ev2 i hi
    exact ⟨n, in_at hn⟩
  have ev3' : ∀ i, i < 16 → ∃ n, L[43 + i]? = some (.int .i64 n) := fun i hi => by
    obtain ⟨n, hn⟩ := ev3 i hi
    exact ⟨n, in_at hn⟩
  obtain ⟨f, hf⟩ := @Go.Deep.choose_lt Int ⟨0⟩ _ _ ev2'
  obtain ⟨g, hg⟩ := @Go.Deep.choose_lt Int ⟨0⟩ _ _ ev3'
  have ho : WidePo ⟨kd, e, (List.range 16).map f, (List.range 16).map g, nn⟩ := ⟨hw, by simp, by simp⟩
  refine ⟨_, ho, fun j u hu => ?_⟩
  have hl := pol_length ho
  have hj : j < 60 := by have := (List.getElem?_eq_some_iff.1 hu).1; omega
  have hle := evl_length e hw.1
  by_cases h0 : j = 0
  · subst h0; rw [e0', ← hu]; rfl
  · by_cases h1 : j < 27
    · have hb : j - 1 < (evl e).length := by omega
      have h5 := pol_ev ho (List.getElem?_eq_getElem hb)
      have h6 := in_at (a := 1) (c := j - 1) (he (j - 1) _ (List.getElem?_eq_getElem hb))
      rw [show 1 + (j - 1) = j by omega] at h5 h6
      rw [h6, ← hu, h5]
    · by_cases h2 : j < 43
      · have hb : j - 27 < (((List.range 16).map f).map (Value.int .i64)).length := by simp; omega
        have h5 := pol_v ho (List.getElem?_eq_getElem hb)
        have h6 := hf (j - 27) (by omega)
        rw [show 27 + (j - 27) = j by omega] at h5 h6
        rw [h6, ← hu, h5]; simp
      · by_cases h3 : j < 59
        · have hb : j - 43 < (((List.range 16).map g).map (Value.int .i64)).length := by simp; omega
          have h5 := pol_w ho (List.getElem?_eq_getElem hb)
          have h6 := hg (j - 43) (by omega)
          rw [show 43 + (j - 43) = j by omega] at h5 h6
          rw [h6, ← hu, h5]; simp
        · obtain rfl : j = 59 := by omega
          rw [e4', ← hu, pol_n ho]
end
section
variable {H : Type} {enc : TypeId × Value → H}
theorem open_pops {w : World} {a : Option Addr} {len cap : Nat} {d : DataW H} {ps : List MemPlace} (h : DataW.Trod enc Try.prog w 0 (fun _ => true) true 22 (.slice a len cap) d ps) : ∃ O, Pops w a len O := by
  obtain ⟨fuel, hf⟩ := h
  have ce : Try.prog.cellsOf 41 = 60 := by kernel_rfl
  rcases Go.Deep.open_slice Try.underlying22 hf with ⟨hcs, _⟩ | ⟨x, l, c, m, n, D, Pl, hcs, hb, hl, hm, hmm, hx, hall⟩
  · simp [Value.cells] at hcs
    exact ⟨fun _ => zp, .inl hcs.2.1⟩
  · simp [Value.cells] at hcs
    obtain ⟨rfl, rfl, rfl⟩ := hcs
    simp only [if_true] at hmm
    subst hmm
    have key : ∀ i, i < m → ∃ o : Po, WidePo o ∧ ∀ (j : Nat) (u : Value), (pol o)[j]? = some u → w.cell? (x.add (i * 60 + j)) = some u := by
      intro i hi
      obtain ⟨cs', h1, h2⟩ := hall i hi
      rw [ce] at h1
      obtain ⟨_, hlen, hcell⟩ := World.cells?_some h1
      obtain ⟨o, h3, h4⟩ := pop_in h2
      refine ⟨o, h3, fun j u hu => ?_⟩
      have hj : j < 60 := by have := (List.getElem?_eq_some_iff.1 hu).1; rw [pol_length h3] at this; exact this
      have := hcell j hj
      rw [Go.Deep.add_add] at this
      rw [this]
      exact h4 j u hu
    obtain ⟨O, hO⟩ := @Go.Deep.choose_lt Po ⟨zp⟩ _ _ key
    refine ⟨O, ?_⟩
    by_cases h0 : len = 0
    · exact .inl h0
    · right
      obtain ⟨b, off, spot⟩ := x
      have h00 := (hO 0 (by omega)).2 0 _ rfl
      have hs : spot = none := by simpa [Addr.add] using World.cell?_spot h00
      subst hs
      refine ⟨b, off, rfl, ?_, fun i hi => ?_⟩
      · exact World.block_lt_of_cell? w _ (by rw [Addr.add_mid] at h00; exact h00)
      · obtain ⟨h1, h2⟩ := hO i (by omega)
        refine IsPo.of_all h1 fun j u hu => ?_
        have := h2 j u hu
        rw [Addr.add_mid, ← Nat.add_assoc] at this
        exact this
theorem open_pop {w : World} {base : Nat} {spare : Nat → Bool} {held : Bool} {r : Reach} {b0 : Nat} {v : Value} {d : DataW H} {ps : List MemPlace} (hval : Value.okWide Try.prog w r b0 41 v) (hd : DataW.Trod enc Try.prog w base spare held 41 v d ps) :
    ∃ o : Po, v = .agg (pol o).toArray ∧ WidePo o := by
  have c2 : Try.prog.cellsOf 41 = 60 := by kernel_rfl
  have hu : Try.prog.underlying 41 = some (.struct (Try.prog.fieldsOf 41)) := by kernel_rfl
  obtain ⟨cs, rfl, hsz, -⟩ : ∃ cs, v = .agg cs ∧ cs.size = Try.prog.cellsOf 41 ∧ Row.okWide Try.prog w r b0 41 cs := by
    simpa [Value.okWide, hu] using hval
  rw [c2] at hsz
  obtain ⟨fuel, hf⟩ := hd
  obtain ⟨o, h1, h2⟩ := pop_in hf
  refine ⟨o, ?_, h1⟩
  have hl := pol_length h1
  congr 1
  apply Array.ext_getElem?
  intro i
  have e1 : (pol o).toArray[i]? = (pol o)[i]? := by simp
  have e2 : cs[i]? = cs.toList[i]? := by simp
  rw [e1, e2]
  by_cases hi : i < 60
  · have hi2 : i < (pol o).length := by omega
    have := h2 i _ (List.getElem?_eq_getElem hi2)
    rw [List.getElem?_eq_getElem hi2, ← this]
    rfl
  · rw [List.getElem?_eq_none (by rw [Array.length_toList]; omega), List.getElem?_eq_none (by omega)]
end
end Go.Proofs.Yteanpepmncgagaa
