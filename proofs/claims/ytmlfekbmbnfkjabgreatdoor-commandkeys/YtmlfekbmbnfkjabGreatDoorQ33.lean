/-
  What Keys of a space comes to: of the names those that have a type. slices.DeleteFunc of texts.
-/
import Derived.Test.YtmlfekbmbnfkjabGreatDoorQ29
import Derived.Test.YtmlfekbmbnfkjabGreatDoorQ32
import Derived.Test.YtmlfekbmbnfkjabGreatDoorQ11
import Derived.Test.YtmlfekbmbnfkjabGreatDoorQ30
import Derived.Test.YtmlfekbmbnfkjabGreatDoorQ25
namespace Go.Proofs.YtmlfekbmbnfkjabGreatDoor
set_option maxRecDepth 100000
open Go.RowKit Go.Shelf Go.Sort

section
variable {w : World} {base g n cap i : Nat} {R : List (List UInt8)}
theorem trow_cur (h : TRow w base (.slice (some ⟨g, 0, none⟩) n cap) R) : R.length = n ∧ n ≤ cap ∧ base ≤ g ∧ ∃ cur, w.heap[g]? = some (.cells cur 9 (0, 0)) ∧ cur.size = cap ∧ cur.toList.take n = R.map encStr ∧ cap ≤ 1152921504606846976 + cap := by
  rcases h.2 with ⟨hh, -⟩ | ⟨g', cap', cur, hv, hbg, hg, hnc, hcm, hcs, htk⟩
  · cases hh
  · simp only [Value.slice.injEq, Option.some.injEq, Addr.mk.injEq, and_true] at hv
    obtain ⟨rfl, h1, rfl⟩ := hv
    rw [Nat.mul_one] at hcs htk
    refine ⟨h1.symm, by omega, hbg, cur, hg, hcs, by rw [h1]; exact htk, by omega⟩
theorem tput (h : TRow w base (.slice (some ⟨g, 0, none⟩) n cap) R) (_hi : i < n) (u : List UInt8) : TRow (w.setCell ⟨g, i, none⟩ (.string (sb u))) base (.slice (some ⟨g, 0, none⟩) n cap) (R.set i u) := by
  rcases h.2 with ⟨hh, -⟩ | ⟨g', cap', cur, hv, hbg, hg, hnc, hcm, hcs, htk⟩
  · cases hh
  · simp only [Value.slice.injEq, Option.some.injEq, Addr.mk.injEq, and_true] at hv
    obtain ⟨rfl, h1, rfl⟩ := hv
    have hl : (R.set i u).length = R.length := List.length_set
    refine ⟨by simp, .inr ⟨g, cap, cur.setIfInBounds i (encStr u), by rw [hl, h1], hbg, heap_setCell_same _ _ _ _ _ _ hg, by omega, hcm, by simpa using hcs, ?_⟩⟩
    rw [hl]
    simp only [Nat.mul_one] at htk ⊢
    rw [Array.toList_setIfInBounds, List.take_set, htk, List.map_set]
theorem tcut (h : TRow w base (.slice (some ⟨g, 0, none⟩) n cap) R) (hi : i ≤ n) (vs : List Value) : TRow (w.setCells g i vs) base (.slice (some ⟨g, 0, none⟩) i cap) (R.take i) := by
  rcases h.2 with ⟨hh, -⟩ | ⟨g', cap', cur, hv, hbg, hg, hnc, hcm, hcs, htk⟩
  · cases hh
  · simp only [Value.slice.injEq, Option.some.injEq, Addr.mk.injEq, and_true] at hv
    obtain ⟨rfl, h1, rfl⟩ := hv
    have hl : (R.take i).length = i := by rw [List.length_take]; omega
    refine ⟨by simp, .inr ⟨g, cap, setMany cur i vs, by rw [hl], hbg, S16.heap_setCells_same _ _ _ _ hg, by omega, hcm, by rw [size_setMany, hcs], ?_⟩⟩
    rw [hl]
    simp only [Nat.mul_one] at htk hcs ⊢
    apply List.ext_getElem?
    intro t
    by_cases ht : t < i
    · have htc : t < cur.size := by omega
      have htm : t < (setMany cur i vs).size := by rw [size_setMany]; exact htc
      rw [List.getElem?_take_of_lt ht, Array.getElem?_toList, Array.getElem?_eq_getElem htm]
      have hgm := get_setMany vs i cur t htc
      rw [getElem!_pos _ t htm, if_neg (by omega), getElem!_pos cur t htc] at hgm
      rw [hgm]
      have h1 := S16.get_take htk (show t < R.length by omega)
      rw [Array.getElem?_eq_getElem htc] at h1
      rw [h1, List.getElem?_map, List.getElem?_map, List.getElem?_take_of_lt ht]
    · rw [List.getElem?_eq_none (by rw [List.length_take, Array.length_toList]; omega), List.getElem?_eq_none (by rw [List.length_map]; omega)]
theorem tcell (h : TRow w base (.slice (some ⟨g, 0, none⟩) n cap) R) {u : List UInt8} (hu : R[i]? = some u) : w.cell? ⟨g, i, none⟩ = some (.string (sb u)) := by
  obtain ⟨ao, c, e, hT⟩ := h.tl
  obtain ⟨q, e2, hc⟩ := hT i u hu
  rw [e2] at e
  simp only [Value.slice.injEq, Option.some.injEq, Addr.mk.injEq] at e
  rw [e.1.1]
  exact hc
theorem tfroz (h : TRow w base (.slice (some ⟨g, 0, none⟩) n cap) R) (i : Nat) : w.frozen? ⟨g, i, none⟩ = false := by
  obtain ⟨-, -, -, cur, hg, -⟩ := trow_cur h
  exact frozen_of_row w g _ _ _ hg
theorem tzero_one (k : Nat) : ∀ v ∈ (Builtin.zeroCells #[.string ⟨#[]⟩] k).toList, v.oneCell' = true := by
  intro v hv
  simp only [Builtin.zeroCells, Array.toList_map, List.mem_map] at hv
  obtain ⟨t, -, rfl⟩ := hv
  have : t % (#[Value.string ⟨#[]⟩]).size = 0 := Nat.mod_one t
  rw [this]
  rfl
theorem tclear (h : TRow w base (.slice (some ⟨g, 0, none⟩) n cap) R) (hi : i < n) (ty : TypeId) :
    (Builtin.clear_ #[28] ty #[.slice (some ⟨g, i, none⟩) (n - i) (cap - i)]).run Tryz.prog w = .ok (.tuple #[]) (w.setCells g i (Builtin.zeroCells #[.string ⟨#[]⟩] (n - i)).toList) := by
  have ht : Tryz.prog.underlying 28 = some (.slice 9) := Tryz.underlying28
  have hz : ∀ w, (zeroValue 9).run Tryz.prog w = .ok (.string ⟨#[]⟩) w := Tryz.zeroValue9
  have hlen : (Builtin.zeroCells #[.string ⟨#[]⟩] (n - i)).toList.length = n - i := by simp [Builtin.zeroCells]
  obtain ⟨h1, h2, -, cur, hg, hcs, -, -⟩ := trow_cur h
  have hst := run_storeCells_cells (P := Tryz.prog) g i (Builtin.zeroCells #[.string ⟨#[]⟩] (n - i)).toList 0 w (fun j hj => by
    rw [hlen] at hj
    have hlt : i + j < cur.size := by omega
    rw [Nat.add_zero, cell_of_row w g _ _ _ _ hg, Array.getElem?_eq_getElem hlt]
    rfl) (fun j _ => frozen_of_row w g _ _ _ hg) (tzero_one _)
  simp only [Nat.add_zero] at hst
  obtain ⟨q, hq⟩ : ∃ q, n - i = q + 1 := ⟨n - i - 1, by omega⟩
  rw [hq] at hst ⊢
  simp [Builtin.clear_, run_underlying ht, hz, Value.cells, hst]
theorem tslice_from (w : World) (hi : i < n) (hn : n ≤ cap) : (Instr.sliceAt 28 (.slice (some ⟨g, 0, none⟩) n cap) (some (.int .i64 (i : Int))) none none).run Tryz.prog w = .ok (.slice (some ⟨g, i, none⟩) (n - i) (cap - i)) w := by
  have h2 : (i : Int) ≤ (n : Int) := by omega
  have hs : (sizeOf 9).run Tryz.prog w = .ok 1 w := Tryz.sizeOf9 w
  have ht : Tryz.prog.underlying 28 = some (.slice 9) := Tryz.underlying28
  have he : Tryz.prog.elem 28 = 9 := by kernel_rfl
  rw [run_sliceAt_slice w 28 _ _ _ _ (by rw [he]; exact ht), run_slice_l w 28 _ n cap (by rw [he]; exact ht) .i64 (i : Int) (by omega) h2, he, hs, Result.andThen_ok]
  unfold sliced
  have hc : ¬ cap = i := by omega
  by_cases h0 : i = 0
  · simp [Addr.add, h0]
  · simp [hc, Addr.add, h0]
end

/-! On the way: what is kept lies ahead, the rest as it was. -/
structure Kmpd (p : List UInt8 → Bool) (L R : List (List UInt8)) (i j : Nat) : Prop where
  len : R.length = L.length
  front : R.take i = (L.take j).filter (fun u => !p u)
  back : ∀ q, j ≤ q → R[q]? = L[q]?
  le : i < j
theorem Kmpd.start {p : List UInt8 → Bool} {L : List (List UInt8)} {i : Nat} {u : List UInt8} (h1 : ∀ u ∈ L.take i, p u = false) (h2 : L[i]? = some u) (h3 : p u = true) : Kmpd p L L i (i + 1) := by
  refine ⟨rfl, ?_, fun _ _ => rfl, by omega⟩
  rw [List.take_add_one, h2, Option.toList_some, List.filter_append, List.filter_cons, h3, List.filter_nil]
  simp only [Bool.not_true, Bool.false_eq_true, if_false, List.append_nil]
  exact (List.filter_eq_self.2 (fun v hv => by rw [h1 v hv]; rfl)).symm
theorem Kmpd.drop {p : List UInt8 → Bool} {L R : List (List UInt8)} {i j : Nat} {u : List UInt8} (h : Kmpd p L R i j) (hu : L[j]? = some u) (hb : p u = true) : Kmpd p L R i (j + 1) := by
  have hle := h.le
  refine ⟨h.len, ?_, fun q hq => h.back q (by omega), by omega⟩
  rw [List.take_add_one, hu, Option.toList_some, List.filter_append, List.filter_cons, hb, List.filter_nil]
  simp only [Bool.not_true, Bool.false_eq_true, if_false, List.append_nil]
  exact h.front
theorem Kmpd.keep {p : List UInt8 → Bool} {L R : List (List UInt8)} {i j : Nat} {u : List UInt8} (h : Kmpd p L R i j) (hj : j < L.length) (hu : L[j]? = some u) (hb : p u = false) : Kmpd p L (R.set i u) (i + 1) (j + 1) := by
  have hl := h.len
  have hle := h.le
  refine ⟨by rw [List.length_set]; exact h.len, ?_, fun q hq => ?_, by omega⟩
  · have hi : (R.set i u)[i]? = some u := List.getElem?_set_self (by omega)
    rw [List.take_add_one, hi, List.take_add_one, hu, Option.toList_some, List.filter_append, List.filter_cons, hb, List.filter_nil, ← h.front]
    simp only [Bool.not_false, if_true]
    congr 1
    rw [List.take_set_of_le (Nat.le_refl _)]
  · rw [List.getElem?_set_ne (by omega)]
    exact h.back q (by omega)
theorem Kmpd.all {p : List UInt8 → Bool} {L R : List (List UInt8)} {i j : Nat} (h : Kmpd p L R i j) (hj : L.length ≤ j) : R.take i = L.filter (fun u => !p u) := by
  rw [h.front, List.take_of_length_le hj]

/-- What the function says of a text, in whatever world that came of w0 above base. -/
def Says (p : List UInt8 → Bool) (k base : Nat) (w0 : World) : Prop := ∀ u W, Below base w0 W → Calls Tryz.prog 159 #[.string (sb u), .pointer (some ⟨k, 0, none⟩)] W fun x w' => x = .returned (.bool (p u)) ∧ Below W.heap.size W w'
set_option maxHeartbeats 1000000 in
theorem tidx_any (base : Nat) (ao : Option Addr) (m c : Nat) (R : List (List UInt8)) (k : Nat) (p : List UInt8 → Bool) (w0 w : World) (hE : TL w ao R) (hl : R.length = m) (hm : m ≤ 2000) (hw : Below base w0 w) (hb : base ≤ w.heap.size) (hp : Says p k base w0) :
    Calls Tryz.prog 197 #[.slice ao m c, .func (.func 159) #[] #[.pointer (some ⟨k, 0, none⟩)]] w fun e w' => ∃ i : Int, e = .returned (.int .i64 i) ∧ Aside ((i = -1 ∧ ∀ u ∈ R, p u = false) ∨ ∃ j : Nat, j < m ∧ i = (j : Int) ∧ (∀ u ∈ R.take j, p u = false) ∧ ∃ u, R[j]? = some u ∧ p u = true) ∧ Below w.heap.size w w' := by
  have HE : Hid (TL w ao R ∧ R.length = m ∧ Below base w0 w ∧ base ≤ w.heap.size ∧ Says p k base w0) := ⟨hE, hl, hw, hb, hp⟩
  clear hE hl hw hb hp
  go_enter Tryz.func197, Tryz.ntmps197
  go_wp2
  go_loopg [8] m (fun kx s8 wr => ∃ i : Nat, s8 = .int .i64 i ∧ i ≤ m ∧ m - i ≤ kx ∧ Aside ((∀ u ∈ R.take i, p u = false) ∧ Below w.heap.size w wr))
  case atStart => exact ⟨0, rfl, Nat.zero_le _, by omega, ⟨by simp, Below.refl _ _⟩⟩
  case round =>
    obtain ⟨i, rfl, him, hkx, HS⟩ := hrel
    by_cases hlt : i < m
    · have hltz : (i : Int) < (m : Int) := by omega
      obtain ⟨u, hui⟩ : ∃ u, R[i]? = some u := ⟨_, List.getElem?_eq_getElem (by have := HE.out.2.1; omega)⟩
      obtain ⟨g, rfl, hc⟩ := (HE.out.1.below HS.out.2 (Nat.le_refl _)) i u hui
      have hq := HE.out.2.2.2.2 u wr (HE.out.2.2.1.trans (HS.out.2.mono HE.out.2.2.2.1))
      go_wp2_with fail
      refine hq.mono ?_
      rintro e w1 ⟨rfl, hb1⟩
      have hb1' : Below w.heap.size w w1 := HS.out.2.trans (hb1.mono HS.out.2.size)
      cases hpu : p u
      · have HS2 : Aside ((∀ u ∈ R.take (i + 1), p u = false) ∧ Below w.heap.size w w1) := by
          refine ⟨fun v hv => ?_, hb1'⟩
          rw [List.take_add_one, hui] at hv
          rcases List.mem_append.1 hv with hv | hv
          · exact HS.out.1 v hv
          · rw [Option.toList_some, List.mem_singleton] at hv; rw [hv]; exact hpu
        clear hb1 hb1' HS hc hq hpu
        go_wp2
        go_roundg (m - (i + 1))
        case measure => omega
        case rel => exact ⟨i + 1, by go_num, by omega, Nat.le_refl _, HS2⟩
      · have HR : Hid (Aside ((((i : Int)) = -1 ∧ ∀ u ∈ R, p u = false) ∨ ∃ j : Nat, j < m ∧ (i : Int) = (j : Int) ∧ (∀ u ∈ R.take j, p u = false) ∧ ∃ u, R[j]? = some u ∧ p u = true) ∧ Below w.heap.size w w1) := ⟨.inr ⟨i, hlt, rfl, HS.out.1, u, hui, hpu⟩, hb1'⟩
        clear hb1 hb1' HS hc hq hpu
        go_wp2
        go_ret
        exact ⟨_, rfl, HR.out⟩
    · obtain rfl : i = m := by omega
      have HR : Hid ((∀ u ∈ R, p u = false) ∧ Below w.heap.size w wr) := by
        have := HS.out
        rw [List.take_of_length_le (by have := HE.out.2.1; omega)] at this
        exact this
      clear HS
      go_wp2
      go_ret
      exact ⟨_, rfl, .inl ⟨rfl, HR.out.1⟩, HR.out.2⟩
theorem tdel_none (base : Nat) (L : List (List UInt8)) (ao : Option Addr) (n c : Nat) (k : Nat) (p : List UInt8 → Bool) (w0 w : World) (hR : TRow w base (.slice ao n c) L) (hE : TL w ao L) (hl : L.length = n) (hL : n ≤ 2000) (hw : Below base w0 w) (hb : base ≤ w.heap.size) (hp : Says p k base w0) (hno : ∀ u ∈ L, p u = false) :
    Calls Tryz.prog 157 #[.slice ao n c, .func (.func 159) #[] #[.pointer (some ⟨k, 0, none⟩)]] w fun e w' => ∃ v', e = .returned v' ∧ TRow w' base v' (L.filter fun u => !p u) ∧ Below base w w' := by
  have HR : Aside (TRow w base (.slice ao n c) (L.filter fun u => !p u)) := by
    show TRow _ _ _ _
    rw [List.filter_eq_self.2 (fun v hv => by rw [hno v hv]; rfl)]
    exact hR
  have HN : Hid (∀ u ∈ L, p u = false) := hno
  have hI := tidx_any base ao n c L k p w0 w hE hl hL hw hb hp
  have HB : Hid (base ≤ w.heap.size) := hb
  clear hR hno hE hl hw hp hb
  go_enter Tryz.func157, Tryz.ntmps157
  go_wp2_with fail
  refine hI.mono ?_
  rintro e w1 ⟨i, rfl, HI, hb1⟩
  have hi : i = -1 := by
    rcases HI.out with ⟨h, -⟩ | ⟨j, hj, -, -, u, hu, hb⟩
    · exact h
    · rw [HN.out u (List.mem_of_getElem? hu)] at hb
      cases hb
  subst hi
  have HF : Hid (TRow w1 base (.slice ao n c) (L.filter fun u => !p u) ∧ Below base w w1) := ⟨HR.out.below hb1 (Nat.le_refl _), hb1.mono HB.out⟩
  clear HI HN HR hI hb1
  go_wp2
  go_ret
  exact ⟨_, rfl, HF.out⟩
set_option maxHeartbeats 2000000 in
theorem tdel_some (base : Nat) (L : List (List UInt8)) (g n cap : Nat) (k : Nat) (p : List UInt8 → Bool) (w0 w : World) (hR : TRow w base (.slice (some ⟨g, 0, none⟩) n cap) L) (hL : n ≤ 2000) (hw : Below base w0 w) (hbw : base ≤ w.heap.size) (hg : g < w.heap.size) (hp : Says p k base w0) (hyes : ¬ ∀ u ∈ L, p u = false) :
    Calls Tryz.prog 157 #[.slice (some ⟨g, 0, none⟩) n cap, .func (.func 159) #[] #[.pointer (some ⟨k, 0, none⟩)]] w fun e w' => ∃ v', e = .returned v' ∧ TRow w' base v' (L.filter fun u => !p u) ∧ Below base w w' := by
  obtain ⟨hl, hcap, hb, -⟩ := trow_cur hR
  have hE : TL w (some ⟨g, 0, none⟩) L := by
    obtain ⟨ao, c, e, h⟩ := hR.tl
    simp only [Value.slice.injEq] at e
    rw [e.1]
    exact h
  have hI := tidx_any base _ n cap L k p w0 w hE hl hL hw hbw hp
  have HN : Hid (¬ ∀ u ∈ L, p u = false) := hyes
  have HR : Hid (TRow w base (.slice (some ⟨g, 0, none⟩) n cap) L ∧ L.length = n ∧ n ≤ cap) := ⟨hR, hl, hcap⟩
  have HK : Hid (base ≤ g ∧ g < w.heap.size ∧ base ≤ w.heap.size ∧ Below base w0 w ∧ Says p k base w0) := ⟨hb, hg, hbw, hw, hp⟩
  clear hyes hE hR hw hp hl hb hg hbw
  go_enter Tryz.func157, Tryz.ntmps157
  go_wp2_with fail
  refine hI.mono ?_
  rintro e w1 ⟨i, rfl, HI, hb1⟩
  obtain ⟨i0, hi0, rfl, h1, u0, hu0, hbad0⟩ : ∃ j : Nat, j < n ∧ i = (j : Int) ∧ (∀ u ∈ L.take j, p u = false) ∧ ∃ u, L[j]? = some u ∧ p u = true := by
    rcases HI.out with ⟨-, h⟩ | h
    · exact absurd h HN.out
    · exact h
  have H0 : Aside (TRow w1 base (.slice (some ⟨g, 0, none⟩) n cap) L ∧ Kmpd p L L i0 (i0 + 1) ∧ Below base w w1) :=
    ⟨HR.out.1.below hb1 (Nat.le_refl _), Kmpd.start h1 hu0 hbad0, hb1.mono HK.out.2.2.1⟩
  have HLN : Hid (L.length = n ∧ n ≤ cap) := HR.out.2
  clear HI HN HR hI hb1 h1 hu0 hbad0
  have hne : ((i0 : Int) == -1) = false := by simp
  go_wp2
  go_loopg [5, 6] n (fun kx s5 s6 wr => ∃ (i j : Nat) (R : List (List UInt8)), s5 = .int .i64 i ∧ s6 = .int .i64 j ∧ i < j ∧ j ≤ n ∧ n - j ≤ kx ∧ Aside (TRow wr base (.slice (some ⟨g, 0, none⟩) n cap) R ∧ Kmpd p L R i j ∧ Below base w wr))
  case atStart => exact ⟨i0, i0 + 1, L, rfl, by go_num, by omega, by omega, by omega, H0⟩
  case round =>
    clear H0 hne
    obtain ⟨i, j, R, rfl, rfl, hij, hjn, hkx, HS⟩ := hrel
    by_cases hlt : j < n
    · have hltz : (j : Int) < (n : Int) := by omega
      have hRl : R.length = n := by rw [HS.out.2.1.len]; exact HLN.out.1
      obtain ⟨u, hui⟩ : ∃ u, R[j]? = some u := ⟨_, List.getElem?_eq_getElem (by omega)⟩
      have hLj : L[j]? = some u := by rw [← HS.out.2.1.back j (Nat.le_refl _)]; exact hui
      have hc := tcell HS.out.1 hui
      have hq := HK.out.2.2.2.2 u wr (HK.out.2.2.2.1.trans HS.out.2.2)
      go_wp2_with fail
      refine hq.mono ?_
      rintro e w2 ⟨rfl, hb2⟩
      have HB2 : Hid (base ≤ wr.heap.size) := Nat.le_trans HK.out.2.2.1 HS.out.2.2.size
      have HS2 : Aside (TRow w2 base (.slice (some ⟨g, 0, none⟩) n cap) R ∧ Kmpd p L R i j ∧ Below base w w2) :=
        ⟨HS.out.1.below hb2 (Nat.le_refl _), HS.out.2.1, HS.out.2.2.trans (hb2.mono HB2.out)⟩
      clear hc hq HS hb2 HB2
      cases hpu : p u
      · have hin : i < n := by omega
        have hinz : (i : Int) < (n : Int) := by omega
        obtain ⟨u9, hu9⟩ : ∃ u, R[i]? = some u := ⟨_, List.getElem?_eq_getElem (by omega)⟩
        have hc := tcell HS2.out.1 hu9
        have hf := tfroz HS2.out.1 i
        have HS3 : Aside (TRow (w2.setCell ⟨g, i, none⟩ (.string (sb u))) base (.slice (some ⟨g, 0, none⟩) n cap) (R.set i u) ∧ Kmpd p L (R.set i u) (i + 1) (j + 1) ∧ Below base w (w2.setCell ⟨g, i, none⟩ (.string (sb u)))) :=
          ⟨tput HS2.out.1 hin u, HS2.out.2.1.keep (by have := HLN.out.1; omega) hLj hpu, HS2.out.2.2.setCell (p := ⟨g, i, none⟩) HK.out.1 _⟩
        clear hpu HS2 hLj hui hu9
        go_wp2
        go_roundg (n - (j + 1))
        case measure => omega
        case rel => exact ⟨i + 1, j + 1, R.set i u, by go_num, by go_num, by omega, by omega, Nat.le_refl _, HS3⟩
      · have HS3 : Aside (TRow w2 base (.slice (some ⟨g, 0, none⟩) n cap) R ∧ Kmpd p L R i (j + 1) ∧ Below base w w2) := ⟨HS2.out.1, HS2.out.2.1.drop hLj hpu, HS2.out.2.2⟩
        clear hpu HS2 hLj hui
        go_wp2
        go_roundg (n - (j + 1))
        case measure => omega
        case rel => exact ⟨i, j + 1, R, rfl, by go_num, by omega, by omega, Nat.le_refl _, HS3⟩
    · obtain rfl : j = n := by omega
      have hRl : R.length = j := by rw [HS.out.2.1.len]; exact HLN.out.1
      have hcap' := HLN.out.2
      have hin : i ≤ cap := by omega
      have hinz : (i : Int) < (j : Int) := by omega
      have hcl := tclear HS.out.1 hij
      have hs1 := fun W : World => tslice_from (g := g) W hij hcap'
      have hinc : (i : Int) ≤ (cap : Int) := by omega
      have HF : Hid (TRow (wr.setCells g i (Builtin.zeroCells #[.string ⟨#[]⟩] (j - i)).toList) base (.slice (some ⟨g, 0, none⟩) i cap) (L.filter fun u => !p u) ∧ Below base w (wr.setCells g i (Builtin.zeroCells #[.string ⟨#[]⟩] (j - i)).toList)) :=
        ⟨by rw [← HS.out.2.1.all (by have := HLN.out.1; omega)]; exact tcut HS.out.1 (by omega) _, S16.below_put HK.out.1 _ _ _ HS.out.2.2⟩
      clear HS
      go_wp2
      go_ret
      exact ⟨_, rfl, HF.out⟩
theorem tdel_any (base : Nat) (v : Value) (L : List (List UInt8)) (k : Nat) (p : List UInt8 → Bool) (w0 w : World) (hR : TRow w base v L) (hL : L.length ≤ 2000) (hw : Below base w0 w) (hb : base ≤ w.heap.size) (hp : Says p k base w0) :
    Calls Tryz.prog 157 #[v, .func (.func 159) #[] #[.pointer (some ⟨k, 0, none⟩)]] w fun e w' => ∃ v', e = .returned v' ∧ TRow w' base v' (L.filter fun u => !p u) ∧ Below base w w' := by
  obtain ⟨ao, c, rfl, hE⟩ := hR.tl
  by_cases hno : ∀ u ∈ L, p u = false
  · exact tdel_none base L ao _ c k p w0 w hR hE rfl hL hw hb hp hno
  · rcases hR.2 with ⟨hh, h0⟩ | ⟨g, cap, cur, hv, hbg, hg, rest⟩
    · have : L = [] := List.eq_nil_of_length_eq_zero h0
      exact absurd (fun u hu => by rw [this] at hu; cases hu) hno
    · simp only [Value.slice.injEq] at hv
      obtain ⟨rfl, -, rfl⟩ := hv
      exact tdel_some base L g _ _ k p w0 w hR hL hw hb (Array.getElem?_eq_some_iff.1 hg).1 hp hno
end Go.Proofs.YtmlfekbmbnfkjabGreatDoor

/-
  What Keys of a space comes to.
-/
namespace Go.Proofs.YtmlfekbmbnfkjabGreatDoor
set_option maxRecDepth 100000
open Go.RowKit

def hasT (s : St) (u : List UInt8) : Bool := !(typeE (ofKeyE u s.L) u == 0)
noncomputable def keysS (s : St) : List (List UInt8) := riseE ((s.L.map Ev.key).filter (hasT s))
theorem lt_of_le_ne22 {a b : List UInt8} (h : a ≤ b) (hn : a ≠ b) : a < b := by
  rcases List.le_iff_lt_or_eq.1 h with h1 | h1
  · exact h1
  · exact absurd h1 hn
theorem pairwise_lt {l : List (List UInt8)} (h : l.Pairwise (fun a b => a ≤ b)) (hn : l.Nodup) : l.Pairwise (· < ·) :=
  (h.and hn).imp fun h => lt_of_le_ne22 h.1 h.2
theorem hasT_key {s : St} {u : List UInt8} (h : hasT s u = true) : ofKeyE u s.L ≠ [] := by
  intro e
  unfold hasT at h
  rw [e] at h
  have e0 : typeE ([] : List Ev) u = 0 := by first | rfl | simp [typeE, allE, liveE, ofKeyE, lastE]
  rw [e0] at h
  cases h
theorem keys_is {Y : Lay} {w : World} {g : Nat} {s : St} {ks : List (List UInt8)} (hS : SpK Y w g s none) (hp : ks.Perm (Y.S.map Prod.fst)) (ho : ks.Pairwise (fun a b => a ≤ b)) : ks.filter (hasT s) = keysS s := by
  have hnd : (Y.S.map Prod.fst).Nodup := by
    rcases hS.map with ⟨-, e⟩ | ⟨b, -, hM⟩
    · rw [e]; exact List.nodup_nil
    · exact hM.nodup
  refine rise_is ((pairwise_lt ho (hp.nodup_iff.2 hnd)).filter _) fun z => ?_
  simp only [List.mem_filter]
  refine and_congr_left fun hz => ?_
  have h1 := hasT_key hz
  rw [hp.mem_iff]
  constructor
  · intro _
    obtain ⟨e, he⟩ := List.exists_mem_of_ne_nil _ h1
    obtain ⟨h2, h3⟩ := List.mem_filter.1 he
    exact List.mem_map.2 ⟨e, h2, by simpa using h3⟩
  · intro _
    obtain ⟨h, hh⟩ := (hS.has z (by simp)).2 (.inl h1)
    exact List.mem_map.2 ⟨(z, h), hh, rfl⟩
theorem says_keys {Y : Lay} {W : World} {g k : Nat} {s : St} (hS : SpK Y W g s none) (hl : s.L.length ≤ 1000) (hc : W.cell? ⟨k, 0, none⟩ = some (.pointer (some ⟨g, 0, none⟩))) : Says (fun u => typeE (ofKeyE u s.L) u == 0) k W.heap.size W := by
  intro u V hb
  have hT := stype_any Y V g s u (hS.below hb (Nat.le_refl _)) hl
  have hc1 : V.cell? ⟨k, 0, none⟩ = some (.pointer (some ⟨g, 0, none⟩)) := (hb.cell (World.block_lt_of_cell? _ _ hc)).trans hc
  show Calls Tryz.prog 159 #[.string (sb u), .pointer (some ⟨k, 0, none⟩)] V fun x w' => x = .returned (.bool (typeE (ofKeyE u s.L) u == 0)) ∧ Below V.heap.size V w'
  generalize typeE (ofKeyE u s.L) u = t at *
  clear hS hc hb
  go_enter Tryz.func159, Tryz.ntmps159
  go_wp2_with fail
  refine Calls.mono hT ?_
  rintro e w1 ⟨rfl, hb1⟩
  have FIN : Hid (Below V.heap.size V w1) := hb1
  clear hT hb1 hc1
  go_wp2
  go_ret
  exact ⟨rfl, FIN.out⟩
set_option maxHeartbeats 1000000 in
theorem skeys_any (Y : Lay) (w : World) (g : Nat) (s : St) (hS : SpK Y w g s none) (hl : s.L.length ≤ 900) (hd : s.DL.length ≤ 900) :
    Calls Tryz.prog 125 #[.pointer (some ⟨g, 0, none⟩)] w fun e w' => ∃ v, e = .returned v ∧ TRow w' w.heap.size v (keysS s) ∧ Below w.heap.size w w' := by
  obtain ⟨W, hW⟩ : ∃ W, w.alloc (.cells #[.pointer (some ⟨g, 0, none⟩)] 25) = W := ⟨_, rfl⟩
  have hb0 : Below w.heap.size w W := by rw [← hW]; exact (Below.refl _ w).alloc (Nat.le_refl _) _
  have hk0 := heap_alloc_new w (.cells #[.pointer (some ⟨g, 0, none⟩)] 25)
  rw [hW] at hk0
  have hSW := hS.below hb0 (Nat.le_refl _)
  obtain ⟨B, hB⟩ : ∃ B, w.heap.size = B := ⟨_, rfl⟩
  have hc : W.cell? ⟨B, 0, none⟩ = some (.pointer (some ⟨g, 0, none⟩)) := by rw [← hB, cell_of_row W _ 0 _ _ _ hk0]; rfl
  have hN := snames_all Y W g s hSW (by omega) (by omega)
  have HK : Hid (Says (fun u => typeE (ofKeyE u s.L) u == 0) B W.heap.size W ∧ SpK Y W g s none ∧ Below w.heap.size w W ∧ (∀ ks : List (List UInt8), ks.Perm (Y.S.map Prod.fst) → ks.length ≤ 1900)) :=
    ⟨says_keys hSW (by omega) hc, hSW, hb0, fun ks hp => by
      have := hSW.keys_many (by omega) (by omega)
      rw [hp.length_eq, List.length_map]; omega⟩
  clear hb0 hk0 hSW hS
  go_enter Tryz.func125, Tryz.ntmps125
  go_wp2_with fail
  refine Calls.mono hN ?_
  rintro e w1 ⟨v, ks, rfl, hp, ho, hr, hb1⟩
  have hD := tdel_any W.heap.size v ks B (fun u => typeE (ofKeyE u s.L) u == 0) W w1 hr (Nat.le_trans (HK.out.2.2.2 ks hp) (by omega)) hb1 hb1.size HK.out.1
  have HF : Hid (ks.filter (hasT s) = keysS s) := keys_is HK.out.2.1 hp ho
  have HB1 : Hid (Below w.heap.size w W) := HK.out.2.2.1
  have HB2 : Hid (Below W.heap.size W w1) := hb1
  clear hN hp ho hr hb1 HK hc
  go_wp2_with fail
  refine Calls.mono hD ?_
  rintro e w2 ⟨v2, rfl, hr2, hb2⟩
  have FIN : Hid (TRow w2 w.heap.size v2 (keysS s) ∧ Below w.heap.size w w2) := ⟨by rw [← HF.out]; exact TRow.lower hr2 HB1.out.size, (HB1.out.trans (HB2.out.mono HB1.out.size)).trans (hb2.mono HB1.out.size)⟩
  clear hD hr2 hb2
  go_wp2
  go_ret
  exact ⟨_, rfl, by first | exact FIN.out | (rw [← hB]; exact FIN.out)⟩
end Go.Proofs.YtmlfekbmbnfkjabGreatDoor

/-
  orNew.
-/
namespace Go.Proofs.YtmlfekbmbnfkjabGreatDoor
set_option maxRecDepth 100000
open Go.RowKit

theorem ornew_some (ad : Addr) (w : World) : Calls Tryz.prog 16 #[.pointer (some ad)] w fun x w' => x = .returned (.pointer (some ad)) ∧ Below w.heap.size w w' := by
  have he := eql_ps w ad
  go_enter Tryz.func16, Tryz.ntmps16
  go_wp2
  go_ret
  exact ⟨rfl, Below.refl _ _⟩
end Go.Proofs.YtmlfekbmbnfkjabGreatDoor

/-
  What a space is behind events each of which was ready: what it keeps is what is live of them, and the nodes that were ended.
-/
namespace Go.Proofs.YtmlfekbmbnfkjabGreatDoor
set_option maxRecDepth 100000
open Go.RowKit

def seenS (l : List Ev) : St := l.foldl seeE st0
theorem seenS_snoc (l : List Ev) (e : Ev) : seenS (l ++ [e]) = seeE (seenS l) e := by simp [seenS]
/-- Each was ready. -/
inductive Came : List Ev → Prop
  | nil : Came []
  | snoc {l : List Ev} {e : Ev} : Came l → Wide e → readyE (seenS l) e = true → Came (l ++ [e])
theorem Came.wide {l : List Ev} (h : Came l) : ∀ a ∈ l, Wide a := by
  induction h with
  | nil => simp
  | snoc _ hw _ ih =>
    intro a ha
    rcases List.mem_append.1 ha with h1 | h1
    · exact ih a h1
    · rw [List.mem_singleton.1 h1]; exact hw
theorem Came.inv {l : List Ev} (h : Came l) : Inv (seenS l) := by
  induction h with
  | nil => exact inv0
  | snoc _ hw hr ih => rw [seenS_snoc]; exact inv_see ih hw hr
theorem ready_facts {s : St} {e : Ev} (hI : Inv s) (hw : Wide e) (h : readyE s e = true) :
    okev e = true ∧ okdot e.r e.n = true ∧ e.n = s.seen.getD e.r.toNat 0 + 1 ∧ ∀ k, k < 16 → e.deps.getD k 0 ≤ s.seen.getD k 0 := by
  unfold readyE at h
  simp only [Bool.and_eq_true, decide_eq_true_eq] at h
  obtain ⟨h1, h2, h3⟩ := h
  obtain ⟨h4, h5⟩ := with_zero h2
  refine ⟨h1, h4, h5, fun k hk => ?_⟩
  rcases max_get hI.len hw.1 h3 k with h6 | h6
  · exact h6
  · omega
theorem see_mono {s : St} {e : Ev} (hI : Inv s) (hw : Wide e) (h : readyE s e = true) {r n : Int} (hh : hasv s.seen r n = true) : hasv (seeE s e).seen r n = true := by
  obtain ⟨-, h2, h3, -⟩ := ready_facts hI hw h
  have hd := okdot_iff.1 h2
  have hl := hI.len
  show hasv (s.seen.set e.r.toNat e.n) r n = true
  rw [hasv_iff] at hh ⊢
  refine ⟨hh.1, ?_⟩
  rw [getD_set (by omega)]
  split
  · rename_i e1
    rw [← e1] at hh
    omega
  · exact hh.2
theorem see_self {s : St} {e : Ev} (hI : Inv s) (hw : Wide e) (h : readyE s e = true) : hasv (seeE s e).seen e.r e.n = true := by
  obtain ⟨-, h2, h3, -⟩ := ready_facts hI hw h
  have hd := okdot_iff.1 h2
  have hl := hI.len
  show hasv (s.seen.set e.r.toNat e.n) e.r e.n = true
  rw [hasv_iff]
  refine ⟨h2, ?_⟩
  rw [getD_set (by omega), if_pos rfl]
  exact Int.le_refl _
theorem ready_deps {s : St} {e : Ev} (hI : Inv s) (hw : Wide e) (h : readyE s e = true) {r n : Int} (hh : hasv e.deps r n = true) : hasv s.seen r n = true := by
  obtain ⟨-, -, -, h4⟩ := ready_facts hI hw h
  rw [hasv_iff] at hh ⊢
  have hd := okdot_iff.1 hh.1
  have := h4 r.toNat (by omega)
  exact ⟨hh.1, by omega⟩
theorem ready_new {s : St} {e : Ev} (hw : Wide e) (h : readyE s e = true) : hasv s.seen e.r e.n = false := (ready_rdy hw h).new
theorem Came.dots {l : List Ev} (h : Came l) : ∀ a ∈ l, hasv (seenS l).seen a.r a.n = true := by
  induction h with
  | nil => simp
  | snoc hc hw hr ih =>
    intro a ha
    rw [seenS_snoc]
    rcases List.mem_append.1 ha with h1 | h1
    · exact see_mono hc.inv hw hr (ih a h1)
    · rw [List.mem_singleton.1 h1]; exact see_self hc.inv hw hr
theorem Came.deps {l : List Ev} (h : Came l) : ∀ b ∈ l, ∀ r n, hasv b.deps r n = true → hasv (seenS l).seen r n = true := by
  induction h with
  | nil => simp
  | snoc hc hw hr ih =>
    intro b hb r n hh
    rw [seenS_snoc]
    rcases List.mem_append.1 hb with h1 | h1
    · exact see_mono hc.inv hw hr (ih b h1 r n hh)
    · rw [List.mem_singleton.1 h1] at hh
      exact see_mono hc.inv hw hr (ready_deps hc.inv hw hr hh)
theorem Came.ok {l : List Ev} (h : Came l) : ∀ a ∈ l, okev a = true := by
  induction h with
  | nil => simp
  | snoc hc hw hr ih =>
    intro a ha
    rcases List.mem_append.1 ha with h1 | h1
    · exact ih a h1
    · rw [List.mem_singleton.1 h1]; exact (ready_facts hc.inv hw hr).1
theorem Came.unlike {l : List Ev} (h : Came l) : Unlike l := by
  induction h with
  | nil => exact List.Pairwise.nil
  | snoc hc hw hr ih =>
    unfold Unlike at *
    rw [List.pairwise_append]
    refine ⟨ih, List.pairwise_singleton _ _, fun a ha b hb hs => ?_⟩
    rw [List.mem_singleton.1 hb] at hs
    have h1 := hc.dots a ha
    rw [hs.1, hs.2, ready_new hw hr] at h1
    cases h1
/-- Nothing that was seen ends what is new, nor does it end itself. -/
theorem Came.endsNone {l : List Ev} {e : Ev} (h : Came l) (hw : Wide e) (hr : readyE (seenS l) e = true) : ∀ b ∈ l ++ [e], endsE b e = false := by
  intro b hb
  refine ends_covers ?_
  cases hh : hasv b.deps e.r e.n
  · rfl
  · have h1 : hasv (seenS l).seen e.r e.n = true := by
      rcases List.mem_append.1 hb with h1 | h1
      · exact h.deps b h1 _ _ hh
      · rw [List.mem_singleton.1 h1] at hh
        exact ready_deps h.inv hw hr hh
    rw [ready_new hw hr] at h1
    cases h1
theorem isLive_snoc (l : List Ev) (x a : Ev) : isLive (l ++ [x]) a = (isLive l a && !endsE x a) := by
  unfold isLive
  rw [List.any_append]
  simp [Bool.and_assoc]
theorem live_step {l : List Ev} {e : Ev} (h : Came l) (hw : Wide e) (hr : readyE (seenS l) e = true) :
    liveE (l ++ [e]) = (liveE l).filter (fun a => !endsE e a) ++ (if addsE e.kind then [e] else []) := by
  have hn := h.endsNone hw hr
  have h0 : isLive (l ++ [e]) e = addsE e.kind := by
    unfold isLive
    rw [List.any_eq_false.2 (fun b hb => by rw [hn b hb]; simp)]
    simp
  unfold liveE
  rw [List.filter_append]
  congr 1
  · rw [List.filter_filter]
    refine List.filter_congr fun a _ => ?_
    rw [isLive_snoc, Bool.and_comm]
  · cases ha : addsE e.kind
    · rw [List.filter_cons_of_neg (by rw [h0, ha]; simp)]; rfl
    · rw [List.filter_cons_of_pos (by rw [h0, ha])]; rfl
theorem Came.live {l : List Ev} (h : Came l) : (seenS l).L.Perm (liveE l) := by
  induction h with
  | nil => exact List.Perm.refl _
  | @snoc l e hc hw hr ih =>
    rw [live_step hc hw hr, seenS_snoc]
    have h1 := ih.filter (fun a => !endsE e a)
    have hnd := hc.inv.noDot (ready_rdy hw hr)
    show (if addsE e.kind then putE ((seenS l).L.filter fun a => !endsE e a) e else (seenS l).L.filter fun a => !endsE e a).Perm _
    cases ha : addsE e.kind
    · simp only [Bool.false_eq_true, if_false, List.append_nil]
      exact h1
    · simp only [if_true]
      refine (putE_perm (fun a ha => hnd a (List.mem_filter.1 ha).1)).trans ?_
      refine (List.Perm.cons e h1).trans ?_
      exact (List.perm_append_comm (l₁ := [e]))
theorem Came.mem {l : List Ev} (h : Came l) {a : Ev} : a ∈ (seenS l).L ↔ a ∈ l ∧ isLive l a = true := by
  rw [h.live.mem_iff]
  unfold liveE
  exact List.mem_filter
theorem Came.unlikeL {l : List Ev} (h : Came l) : Unlike (seenS l).L := h.inv.srL.unlike
theorem Came.allL {l : List Ev} (h : Came l) : allE (seenS l).L = allE l := by
  have h1 : liveE (seenS l).L = (seenS l).L := List.filter_eq_self.2 fun a ha => live_part (fun b hb => (h.mem.1 hb).1) (h.mem.1 ha).2
  unfold allE
  rw [h1]
  exact srt_order h.live h.unlikeL
theorem Came.type {l : List Ev} (h : Came l) (key : Key) : typeE (ofKeyE key (seenS l).L) key = typeE l key := by
  rw [type_key]
  unfold typeE
  rw [h.allL]
theorem Came.of {l : List Ev} (h : Came l) (key : Key) : ofE (ofKeyE key (seenS l).L) key = ofE l key := by
  rw [of_key]
  unfold ofE
  rw [h.allL]
  unfold typeE
  rw [h.allL]
/-- The nodes that were ended. -/
def endedE (l : List Ev) : List Ev := l.filter fun a => decide (a.kind = 9) && l.any fun b => endsE b a
theorem dead_perm {e : Ev} : ∀ (L : List Ev) (DL : List Ed), (∀ a ∈ L, noDotD DL a) → L.Pairwise (fun a b => ¬ sameDot a b) →
    ((deadTo e L DL).map Ed.push).Perm (DL.map Ed.push ++ L.filter (fell e))
  | [], DL, _, _ => by simp [deadTo]
  | a :: L, DL, hn, hp => by
    obtain ⟨p1, p2⟩ := List.pairwise_cons.1 hp
    have hstep : deadTo e (a :: L) DL = deadTo e L (if fell e a then putD DL ⟨a, e.r, e.n⟩ else DL) := rfl
    have hn' : ∀ b ∈ L, noDotD (if fell e a then putD DL ⟨a, e.r, e.n⟩ else DL) b := fun b hb d hd => by
      split at hd
      · rcases mem_putD hd with rfl | hd
        · exact p1 b hb
        · exact hn b (by simp [hb]) d hd
      · exact hn b (by simp [hb]) d hd
    rw [hstep]
    refine (dead_perm L _ hn' p2).trans ?_
    cases hf : fell e a
    · rw [List.filter_cons_of_neg (by rw [hf]; simp)]
      exact List.Perm.refl _
    · rw [List.filter_cons_of_pos hf]
      simp only [if_true]
      refine (((putD_perm (d := ⟨a, e.r, e.n⟩) (hn a (by simp))).map Ed.push).append_right _).trans ?_
      rw [List.map_cons]
      exact (List.perm_middle (l₁ := DL.map Ed.push) (a := a)).symm
theorem ended_snoc {l : List Ev} {e : Ev} (h : Came l) (hw : Wide e) (hr : readyE (seenS l) e = true) :
    (endedE (l ++ [e])).Perm (endedE l ++ (liveE l).filter (fell e)) := by
  have hn := h.endsNone hw hr
  have h1 : endedE (l ++ [e]) = l.filter fun a => (decide (a.kind = 9) && l.any fun b => endsE b a) || (isLive l a && fell e a) := by
    unfold endedE
    rw [List.filter_append, List.filter_cons_of_neg (by rw [List.any_eq_false.2 (fun b hb => by rw [hn b hb]; simp)]; simp), List.filter_nil, List.append_nil]
    refine List.filter_congr fun a _ => ?_
    rw [List.any_append]
    unfold isLive fell
    by_cases hk : a.kind = 9
    · have ha : addsE a.kind = true := by unfold addsE; simp [hk]
      rw [ha]
      simp only [hk, decide_true, Bool.true_and, Bool.and_true, List.any_cons, List.any_nil, Bool.or_false]
      cases l.any (fun b => endsE b a) <;> simp
    · simp [hk]
  rw [h1]
  unfold endedE liveE
  rw [List.filter_filter]
  refine (filter_or_perm _ _ l fun a _ hh => ?_).symm.trans (List.Perm.append (List.Perm.refl _) (List.Perm.of_eq (List.filter_congr fun a _ => Bool.and_comm _ _)))
  obtain ⟨h2, h3⟩ := hh
  simp only [Bool.and_eq_true] at h2 h3
  have h4 := h3.1
  unfold isLive at h4
  rw [h2.2] at h4
  simp at h4
theorem Came.dead {l : List Ev} (h : Came l) : ((seenS l).DL.map Ed.push).Perm (endedE l) := by
  induction h with
  | nil => exact List.Perm.refl _
  | @snoc l e hc hw hr ih =>
    rw [seenS_snoc]
    show ((deadTo e (seenS l).L (seenS l).DL).map Ed.push).Perm _
    refine (dead_perm (seenS l).L (seenS l).DL hc.inv.apart hc.unlikeL).trans ?_
    refine (List.Perm.append ih (hc.live.filter (fell e))).trans ?_
    exact (ended_snoc hc hw hr).symm
end Go.Proofs.YtmlfekbmbnfkjabGreatDoor

