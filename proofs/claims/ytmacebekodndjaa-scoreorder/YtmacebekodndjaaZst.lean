/-
  What slices.SortFunc of pairs comes to.
-/
import Derived.Test.YtmacebekodndjaaZcm
import Derived.Test.YtmacebekodndjaaZsd
import Derived.Shelf.SlSortCmp.NoneTotal
namespace Go.Proofs.Ytmacebekodndjaa
set_option maxRecDepth 100000
open Go.RowKit Go.Sort

theorem flat_prs (d : Array Pr) : (flatK prl 2 d).toList = prs d.toList := by
  apply List.ext_getElem?
  intro t
  by_cases ht : t < d.size * 2
  · have hk : t / 2 < d.size := by omega
    have hi : d.toList[t / 2]? = some d[t / 2] := by simp [hk]
    have hm : t % 2 < (prl d[t / 2]).length := by rw [prl_length]; omega
    obtain ⟨v, hv⟩ : ∃ v, (prl d[t / 2])[t % 2]? = some v := ⟨_, List.getElem?_eq_getElem hm⟩
    have h1 := prs_at (t / 2) _ hi (t % 2) v hv
    rw [show t / 2 * 2 + t % 2 = t by omega] at h1
    have hsz : t < (flatK prl 2 d).size := by rw [size_flatK]; exact ht
    have h2 := get_flatK prl 2 d t ht
    rw [getElem!_pos _ t hsz, getElem!_pos d _ hk] at h2
    rw [h1, Array.getElem?_toList, Array.getElem?_eq_getElem hsz, h2]
    obtain ⟨h3, h4⟩ := List.getElem?_eq_some_iff.1 hv
    rw [getElem!_pos (prl d[t / 2]) (t % 2) h3, h4]
  · rw [List.getElem?_eq_none (by rw [Array.length_toList, size_flatK]; omega), List.getElem?_eq_none (by rw [prs_length, Array.length_toList]; omega)]
theorem holds_prs {w : World} {g : Nat} {cur : Array Value} {e : TypeId} {L : List Pr} (hb : w.heap[g]? = some (.cells cur e (0, 0))) (ht : cur.toList.take (L.length * 2) = prs L) : HoldsK prl 2 w g 0 L.toArray := by
  intro j hj
  have hj' : j < L.length * 2 := by rw [size_flatK] at hj; simpa using hj
  refine ⟨?_, by simp [World.frozen?, hb]⟩
  have h1 : (cur.toList.take (L.length * 2))[j]? = (flatK prl 2 L.toArray).toList[j]? := by rw [ht, flat_prs]
  rw [List.getElem?_take_of_lt hj', Array.getElem?_toList, Array.getElem?_toList, Array.getElem?_eq_getElem hj] at h1
  simp only [World.cell?, hb, Nat.zero_add]
  simp only [Option.isSome_none, Bool.false_eq_true, if_false]
  rw [h1, getElem!_pos _ j hj]
  rfl
theorem pheap_sorted {w : World} {g n : Nat} {os : Array Obj} {cur : Array Value} {e : TypeId} {fr : Nat × Nat} (d : Array Pr) (hb : w.heap[g]? = some (.cells cur e fr)) :
    (sortWorldK prl 2 w g 0 n d os).heap[g]? = some (.cells (putCells id 0 (flatK prl 2 d) cur) e fr) := by
  have hg : g < w.heap.size := (Array.getElem?_eq_some_iff.1 hb).1
  unfold sortWorldK putRowK
  rw [heap_grow_old _ _ (by simpa using hg)]
  simp [putRow, mapBlock, Sort.ahead, Array.getElem?_modify, hb, onCells]
theorem pgrownBy_sorted {w : World} {g n : Nat} {os : Array Obj} (d : Array Pr) : w.grownBy (sortWorldK prl 2 w g 0 n d os) (some g) := by
  unfold sortWorldK putRowK
  refine ⟨rfl, rfl, rfl, by simp, fun k hk hne => ?_⟩
  rw [heap_grow_old _ _ (by simpa using hk)]
  have : g ≠ k := fun e => hne (by rw [e])
  simp [putRow, mapBlock, Sort.ahead, Array.getElem?_modify, this]
theorem ptake_putCells (cur : Array Value) (d : Array Pr) (h : d.size * 2 ≤ cur.size) : (putCells id 0 (flatK prl 2 d) cur).toList.take (d.size * 2) = prs d.toList := by
  rw [← flat_prs]
  apply List.ext_getElem?
  intro j
  by_cases hj : j < d.size * 2
  · have hj2 : j < (flatK prl 2 d).size := by rw [size_flatK]; exact hj
    rw [List.getElem?_take_of_lt hj, Array.getElem?_toList, Array.getElem?_toList, Array.getElem?_eq_getElem hj2]
    simp [putCells, hj, show j < cur.size by omega]
  · rw [List.getElem?_take_eq_none (by omega), List.getElem?_eq_none (by rw [Array.length_toList, size_flatK]; omega)]
/-- In order, some of them perhaps more than once. -/
def UpP (S : List Pr) : Prop := ∀ i j (hi : i < S.length) (hj : j < S.length), i < j → ¬ Bef S[j] S[i]
theorem sortp_any (v : Value) (L : List Pr) (base : Nat) (w : World) (hrow : PRow w base v L) (hl : L.length ≤ 1048576) (hb : base ≤ w.heap.size) :
    Calls Try.prog 20 #[v, .func (.func 21) #[] #[]] w fun e w' => e = .returned (.tuple #[]) ∧ ∃ S, L.Perm S ∧ UpP S ∧ PRow w' base v S ∧ Below base w w' := by
  rcases hrow.2 with ⟨rfl, h0⟩ | ⟨g, cap, cur, rfl, hbg, hg, hn, hc, hcs, htk⟩
  · have hL : L = [] := List.eq_nil_of_length_eq_zero h0
    subst hL
    have hcon := AnyF.slices_SortFunc_none sortP none 0 (.func (.func 21) #[] #[]) w
    change Calls Try.prog 20 _ _ _ at hcon
    refine hcon.mono ?_
    rintro e w' ⟨he, rfl⟩
    exact ⟨he, [], List.Perm.refl _, (fun i j hi => by cases hi), hrow, Below.refl _ _⟩
  · have hgl : g < w.heap.size := (Array.getElem?_eq_some_iff.1 hg).1
    have eg : ∀ args w, (callFunc 21 args).run Try.prog w = .ok (.enter 21 args) w := enters_of Try.func21 (by kernel_rfl) rfl
    have hcmp : CmpLays Try.prog 21 #[] prl 2 cfP g 0 L.toArray.size w := fun m os dk _ x y => zcmp_any x y _
    have hcon := AnyQ.slices_SortFunc sortP 2 Try.isAgg45 Try.sizeOf45 prl prl_length prl_one cfP cfP_swo 21 #[] g 0 cap L.toArray w eg hcmp (holds_prs hg htk) hgl (by simp; omega)
    change Calls Try.prog 20 _ _ _ at hcon
    rw [List.size_toArray] at hcon
    refine hcon.mono ?_
    rintro e w' ⟨he, d, n, os, ⟨hs, -, hpm⟩, h2, rfl⟩
    have e1 : (d.extract 0 L.length) = d := by rw [show L.length = d.size by simpa using hs.symm]; exact Array.extract_size
    have e2 : (L.toArray.extract 0 L.length) = L.toArray := by simp
    rw [e1, e2] at hpm
    have hds : d.size = L.length := by simpa using hs
    have hp : L.Perm d.toList := hpm.symm
    refine ⟨he, d.toList, hp, fun i j hi hj hij => ?_, ⟨prs_length _, .inr ⟨g, cap, _, by show Value.slice (some ⟨g, 0, none⟩) L.length cap = _; rw [← hds, Array.length_toList], hbg, pheap_sorted d hg, by rw [Array.length_toList]; omega, hc, by simp [putCells, hcs], ?_⟩⟩, (Below.refl _ _).grown (pgrownBy_sorted d) hb (fun j hj => by cases hj; exact hbg)⟩
    · have hi' : i < d.size := by simpa using hi
      have hj' : j < d.size := by simpa using hj
      have := h2 i j (Nat.zero_le _) hij (by omega)
      rw [getElem!_pos d j hj', getElem!_pos d i hi', cfP_lt] at this
      simpa using this
    · have := ptake_putCells cur d (by rw [hcs, hds]; omega)
      rw [Array.length_toList]
      exact this
end Go.Proofs.Ytmacebekodndjaa
