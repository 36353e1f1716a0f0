/-
  What byRThenN and slices.SortFunc of dots come to.
-/
import Derived.Test.YtlbjdokfnammfaaMdr
import Derived.Test.YtlbjdokfnammfaaMco
import Derived.Test.YtlbjdokfnammfaaMsd
import Derived.Shelf.SlSortCmp.NoneTotal
import Derived.Deep.RegionHeld3
namespace Go.Proofs.Ytlbjdokfnammfaa
set_option maxRecDepth 100000
open Go.RowKit Go.Sort

def cfD (i j : Dt) : Int := orI (cmpI i.1 j.1) (cmpI i.2 j.2)
set_option maxHeartbeats 1000000 in
theorem byrn_any (i j : Dt) (w : World) : Calls Try.prog 19 #[.agg (dotc i.1 i.2), .agg (dotc j.1 j.2)] w fun e w' => e = .returned (.int .i64 (cfD i j)) ∧ ∃ q os', w' = grow (w.drewN q) os' := by
  obtain ⟨ir, iN⟩ := i
  obtain ⟨jr, jn⟩ := j
  show Calls Try.prog 19 #[.agg (dotc ir iN), .agg (dotc jr jn)] w fun e w' => e = .returned (.int .i64 (orI (cmpI ir jr) (cmpI iN jn))) ∧ ∃ q os', w' = grow (w.drewN q) os'
  have hr := fun W => compare_any ir jr W
  have hn := fun W => compare_any iN jn W
  obtain ⟨W, hW⟩ : ∃ W, (w.alloc (.cells (dotc ir iN) 34)).alloc (.cells (dotc jr jn) 34) = W := ⟨_, rfl⟩
  have hs : W.heap.size = w.heap.size + 2 := by rw [← hW]; simp
  have ha : W.heap[w.heap.size]? = some (.cells (dotc ir iN) 34 (0, 0)) := by
    rw [← hW, Below.heap_alloc _ _ _ (by simp)]
    exact heap_alloc_new w _
  have hb : W.heap[w.heap.size + 1]? = some (.cells (dotc jr jn) 34 (0, 0)) := by
    rw [← hW]
    have := heap_alloc_new (w.alloc (.cells (dotc ir iN) 34)) (.cells (dotc jr jn) 34)
    rwa [World.size_alloc] at this
  have c0 : W.cell? ⟨w.heap.size, 0, none⟩ = some (.int .i64 ir) := cell_of_row W _ 0 _ _ _ ha
  have c1 : W.cell? ⟨w.heap.size, 1, none⟩ = some (.int .i64 iN) := cell_of_row W _ 1 _ _ _ ha
  have d0 : W.cell? ⟨w.heap.size + 1, 0, none⟩ = some (.int .i64 jr) := cell_of_row W _ 0 _ _ _ hb
  have d1 : W.cell? ⟨w.heap.size + 1, 1, none⟩ = some (.int .i64 jn) := cell_of_row W _ 1 _ _ _ hb
  have hor := fun (b : Nat) (W' : World) => or_any (cmpI ir jr) (cmpI iN jn) b W'
  have HO : Hid _ := hor
  generalize orI (cmpI ir jr) (cmpI iN jn) = c at *
  generalize cmpI ir jr = p at *
  generalize cmpI iN jn = q at *
  obtain ⟨W2, hW2⟩ : ∃ W2, (W.alloc (.cells #[.int .i64 p, .int .i64 q] 3)).drew = W2 := ⟨_, rfl⟩
  have hb2 : Below W.heap.size W W2 := hW2 ▸ ((Below.refl _ W).alloc (Nat.le_refl _) _).drew
  have f0 := (hb2.cell (p := ⟨w.heap.size, 0, none⟩) (by show w.heap.size < _; omega)).trans c0
  have f1 := (hb2.cell (p := ⟨w.heap.size, 1, none⟩) (by show w.heap.size < _; omega)).trans c1
  have f2 := (hb2.cell (p := ⟨w.heap.size + 1, 0, none⟩) (by show w.heap.size + 1 < _; omega)).trans d0
  have f3 := (hb2.cell (p := ⟨w.heap.size + 1, 1, none⟩) (by show w.heap.size + 1 < _; omega)).trans d1
  have hnew : W2.heap[w.heap.size + 2]? = some (.cells #[.int .i64 p, .int .i64 q] 3 (0, 0)) := by
    rw [← hW2, ← hs]
    exact heap_alloc_new W _
  have g0 : W2.cell? ⟨w.heap.size + 2, 0, none⟩ = some (.int .i64 p) := cell_of_row W2 _ 0 _ _ _ hnew
  have g1 : W2.cell? ⟨w.heap.size + 2, 1, none⟩ = some (.int .i64 q) := cell_of_row W2 _ 1 _ _ _ hnew
  have hgw : Hid (∃ k os', W2 = grow (w.drewN k) os') := ⟨1, _, by
    rw [← hW2, ← hW, alloc_eq_grow, alloc_eq_grow, alloc_eq_grow, grow_grow, grow_grow, drew_grow]; rfl⟩
  have hr' : Hid _ := hr
  have hn' : Hid _ := hn
  clear hor hr hn ha hb hb2 hnew
  go_enter Try.func19, Try.ntmps19
  go_wp2
  clear hW
  go_region_held3 (fun w' => w'.cell? ⟨w.heap.size, 0, none⟩ = some (.int .i64 ir) ∧ w'.cell? ⟨w.heap.size, 1, none⟩ = some (.int .i64 iN) ∧ w'.cell? ⟨w.heap.size + 1, 0, none⟩ = some (.int .i64 jr) ∧ w'.cell? ⟨w.heap.size + 1, 1, none⟩ = some (.int .i64 jn))
    (first | assumption | exact ⟨f0, f1, f2, f3⟩ | exact ⟨c0, c1, d0, d1⟩)
    (first
    | (go_at_call_of 26 (Value.int IntKind.i64 ir); refine Calls.mono (hr'.out _) ?_; rintro e wx ⟨rfl, rfl⟩)
    | (go_at_call_of 26 (Value.int IntKind.i64 iN); refine Calls.mono (hn'.out _) ?_; rintro e wx ⟨rfl, rfl⟩)
    | (go_at_call 25; refine Calls.mono (HO.out _ _ g0 g1) ?_; rintro e wx ⟨rfl, rfl⟩))
  all_goals
    go_wp2
    go_ret
    exact ⟨rfl, hgw.out⟩

/-! The order of dots. -/
def befD (a b : Dt) : Bool := decide (a.1 < b.1 ∨ (a.1 = b.1 ∧ a.2 < b.2))
theorem befD_iff {a b : Dt} : befD a b = true ↔ (a.1 < b.1 ∨ (a.1 = b.1 ∧ a.2 < b.2)) := by simp [befD]
theorem befD_irrefl (a : Dt) : befD a a = false := by simp [befD]
theorem befD_trans {a b c : Dt} (h : befD a b = true) (k : befD b c = true) : befD a c = true := by rw [befD_iff] at *; omega
theorem befD_false {a b : Dt} : befD a b = false ↔ ¬ (a.1 < b.1 ∨ (a.1 = b.1 ∧ a.2 < b.2)) := by simp [befD]
theorem befD_eq {a b : Dt} (h : befD a b = false) (k : befD b a = false) : a = b := by
  rw [befD_false] at *
  exact Prod.ext (by omega) (by omega)
theorem cfD_lt (i j : Dt) : ltOf cfD i j = befD i j := by
  unfold ltOf cfD orI cmpI befD
  by_cases h1 : i.1 < j.1
  · simp [h1]
  · by_cases h2 : j.1 < i.1
    · have : ¬ i.1 = j.1 := by omega
      simp [h1, h2, this]
    · have e : i.1 = j.1 := by omega
      by_cases h3 : i.2 < j.2
      · simp [e, h3]
      · by_cases h4 : j.2 < i.2 <;> simp [e, h3, h4]
theorem cfD_swo : SWO (ltOf (α := Dt) cfD) where
  irrefl x := by rw [cfD_lt]; exact befD_irrefl x
  trans x y z h1 h2 := by rw [cfD_lt] at *; exact befD_trans h1 h2
  ntrans x y z h1 h2 := by
    rw [cfD_lt, befD_false] at *
    omega
theorem flat_dts (d : Array Dt) : (flatK dtl 2 d).toList = dts d.toList := by
  apply List.ext_getElem?
  intro t
  by_cases ht : t < d.size * 2
  · have hk : t / 2 < d.size := by omega
    have hi : d.toList[t / 2]? = some d[t / 2] := by simp [hk]
    have hm : t % 2 < (dtl d[t / 2]).length := by rw [dtl_length]; omega
    obtain ⟨v, hv⟩ : ∃ v, (dtl d[t / 2])[t % 2]? = some v := ⟨_, List.getElem?_eq_getElem hm⟩
    have h1 := dts_at (t / 2) _ hi (t % 2) v hv
    rw [show t / 2 * 2 + t % 2 = t by omega] at h1
    have hsz : t < (flatK dtl 2 d).size := by rw [size_flatK]; exact ht
    have h2 := get_flatK dtl 2 d t ht
    rw [getElem!_pos _ t hsz, getElem!_pos d _ hk] at h2
    rw [h1, Array.getElem?_toList, Array.getElem?_eq_getElem hsz, h2]
    obtain ⟨h3, h4⟩ := List.getElem?_eq_some_iff.1 hv
    rw [getElem!_pos (dtl d[t / 2]) (t % 2) h3, h4]
  · rw [List.getElem?_eq_none (by rw [Array.length_toList, size_flatK]; omega), List.getElem?_eq_none (by rw [dts_length, Array.length_toList]; omega)]
theorem holds_dts {w : World} {g : Nat} {cur : Array Value} {e : TypeId} {L : List Dt} (hb : w.heap[g]? = some (.cells cur e (0, 0))) (ht : cur.toList.take (L.length * 2) = dts L) : HoldsK dtl 2 w g 0 L.toArray := by
  intro j hj
  have hj' : j < L.length * 2 := by rw [size_flatK] at hj; simpa using hj
  refine ⟨?_, by simp [World.frozen?, hb]⟩
  have h1 : (cur.toList.take (L.length * 2))[j]? = (flatK dtl 2 L.toArray).toList[j]? := by rw [ht, flat_dts]
  rw [List.getElem?_take_of_lt hj', Array.getElem?_toList, Array.getElem?_toList, Array.getElem?_eq_getElem hj] at h1
  simp only [World.cell?, hb, Nat.zero_add]
  simp only [Option.isSome_none, Bool.false_eq_true, if_false]
  rw [h1, getElem!_pos _ j hj]
  rfl
theorem dheap_sorted {w : World} {g n : Nat} {os : Array Obj} {cur : Array Value} {e : TypeId} {fr : Nat × Nat} (d : Array Dt) (hb : w.heap[g]? = some (.cells cur e fr)) :
    (sortWorldK dtl 2 w g 0 n d os).heap[g]? = some (.cells (putCells id 0 (flatK dtl 2 d) cur) e fr) := by
  have hg : g < w.heap.size := (Array.getElem?_eq_some_iff.1 hb).1
  unfold sortWorldK putRowK
  rw [heap_grow_old _ _ (by simpa using hg)]
  simp [putRow, mapBlock, Sort.ahead, Array.getElem?_modify, hb, onCells]
theorem dgrownBy_sorted {w : World} {g n : Nat} {os : Array Obj} (d : Array Dt) : w.grownBy (sortWorldK dtl 2 w g 0 n d os) (some g) := by
  unfold sortWorldK putRowK
  refine ⟨rfl, rfl, rfl, by simp, fun k hk hne => ?_⟩
  rw [heap_grow_old _ _ (by simpa using hk)]
  have : g ≠ k := fun e => hne (by rw [e])
  simp [putRow, mapBlock, Sort.ahead, Array.getElem?_modify, this]
theorem dtake_putCells (cur : Array Value) (d : Array Dt) (h : d.size * 2 ≤ cur.size) : (putCells id 0 (flatK dtl 2 d) cur).toList.take (d.size * 2) = dts d.toList := by
  rw [← flat_dts]
  apply List.ext_getElem?
  intro j
  by_cases hj : j < d.size * 2
  · have hj2 : j < (flatK dtl 2 d).size := by rw [size_flatK]; exact hj
    rw [List.getElem?_take_of_lt hj, Array.getElem?_toList, Array.getElem?_toList, Array.getElem?_eq_getElem hj2]
    simp [putCells, hj, show j < cur.size by omega]
  · rw [List.getElem?_take_eq_none (by omega), List.getElem?_eq_none (by rw [Array.length_toList, size_flatK]; omega)]
/-- In order, some of them perhaps more than once. -/
def UpD (S : List Dt) : Prop := ∀ i j (hi : i < S.length) (hj : j < S.length), i < j → befD S[j] S[i] = false
theorem sortd_any (v : Value) (L : List Dt) (base : Nat) (w : World) (hrow : DRow w base v L) (hl : L.length ≤ 1048576) (hb : base ≤ w.heap.size) :
    Calls Try.prog 18 #[v, .func (.func 19) #[] #[]] w fun e w' => e = .returned (.tuple #[]) ∧ ∃ S, L.Perm S ∧ UpD S ∧ DRow w' base v S ∧ Below base w w' := by
  rcases hrow.2 with ⟨rfl, h0⟩ | ⟨g, cap, cur, rfl, hbg, hg, hn, hc, hcs, htk⟩
  · have hL : L = [] := List.eq_nil_of_length_eq_zero h0
    subst hL
    have hcon := AnyF.slices_SortFunc_none sortD none 0 (.func (.func 19) #[] #[]) w
    change Calls Try.prog 18 _ _ _ at hcon
    refine hcon.mono ?_
    rintro e w' ⟨he, rfl⟩
    exact ⟨he, [], List.Perm.refl _, (fun i j hi => by cases hi), hrow, Below.refl _ _⟩
  · have hgl : g < w.heap.size := (Array.getElem?_eq_some_iff.1 hg).1
    have eg : ∀ args w, (callFunc 19 args).run Try.prog w = .ok (.enter 19 args) w := enters_of Try.func19 (by kernel_rfl) rfl
    have hcmp : CmpLays Try.prog 19 #[] dtl 2 cfD g 0 L.toArray.size w := fun m os dk _ x y => byrn_any x y _
    have hcon := AnyQ.slices_SortFunc sortD 2 Try.isAgg34 Try.sizeOf34 dtl dtl_length dtl_one cfD cfD_swo 19 #[] g 0 cap L.toArray w eg hcmp (holds_dts hg htk) hgl (by simp; omega)
    change Calls Try.prog 18 _ _ _ at hcon
    rw [List.size_toArray] at hcon
    refine hcon.mono ?_
    rintro e w' ⟨he, d, n, os, ⟨hs, -, hpm⟩, h2, rfl⟩
    have e1 : (d.extract 0 L.length) = d := by rw [show L.length = d.size by simpa using hs.symm]; exact Array.extract_size
    have e2 : (L.toArray.extract 0 L.length) = L.toArray := by simp
    rw [e1, e2] at hpm
    have hds : d.size = L.length := by simpa using hs
    have hp : L.Perm d.toList := hpm.symm
    refine ⟨he, d.toList, hp, fun i j hi hj hij => ?_, ⟨dts_length _, .inr ⟨g, cap, _, by show Value.slice (some ⟨g, 0, none⟩) L.length cap = _; rw [← hds, Array.length_toList], hbg, dheap_sorted d hg, by rw [Array.length_toList]; omega, hc, by simp [putCells, hcs], ?_⟩⟩, (Below.refl _ _).grown (dgrownBy_sorted d) hb (fun j hj => by cases hj; exact hbg)⟩
    · have hi' : i < d.size := by simpa using hi
      have hj' : j < d.size := by simpa using hj
      have := h2 i j (Nat.zero_le _) hij (by omega)
      rw [getElem!_pos d j hj', getElem!_pos d i hi', cfD_lt] at this
      simpa using this
    · have := dtake_putCells cur d (by rw [hcs, hds]; omega)
      rw [Array.length_toList]
      exact this
end Go.Proofs.Ytlbjdokfnammfaa
