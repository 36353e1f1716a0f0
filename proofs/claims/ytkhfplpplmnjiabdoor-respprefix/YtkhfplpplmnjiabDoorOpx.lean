/-
  What comes in: a list of texts, of bytes, of lists of texts; a reply by value: how it lies in memory.
-/
import Derived.Test.YtkhfplpplmnjiabDoorSam
import Derived.SliceStrings
import Derived.OpenShut
import Derived.ChangeOld
import Derived.Lib.SmallJoins
import Derived.Deep.SlicePairs
namespace Go.Proofs.YtkhfplpplmnjiabDoor
set_option maxRecDepth 100000
open Go.RowKit Go.ChangeShapes Go.WideShapes Go.Joins

/-- A list of lists of texts as a call may be handed it. -/
structure Tss (w : World) (ao : Option Addr) (m : Nat) (L : List (List ByteArray)) : Prop where
  len : L.length = m
  none : ao = none → m = 0
  cells : ∀ ad, ao = some ad → ∀ j S, L[j]? = some S → ∃ ao' c', w.cell? (ad.add j) = some (.slice ao' S.length c') ∧ Txts w ao' S.length c' S ∧ c' ≤ maxLen
theorem Tss.css {w : World} {ao : Option Addr} {m : Nat} {L : List (List ByteArray)} (h : Tss w ao m L) : Css w ao L :=
  ⟨fun hn => List.eq_nil_of_length_eq_zero (h.len.trans (h.none hn)), fun ad had j S hj => by
    obtain ⟨ao', c', h1, h2, -⟩ := h.cells ad had j S hj
    exact ⟨ao', c', h1, h2.txc⟩⟩
section
variable {H : Type} {enc : TypeId × Value → H}
theorem open_txts0 {w : World} {v : Value} {y : DataW H × List MemPlace} {fuel : Nat} (hf : DataW.trod enc Tryd.prog w 0 (fun _ => true) true fuel 22 [v] = some y) :
    ∃ a len cap S, v = .slice a len cap ∧ Txts w a len cap S ∧ cap ≤ maxLen := by
  rcases open_strings Tryd.underlying22 Tryd.underlying9 (by kernel_rfl) hf with ⟨hcs, _⟩ | ⟨x, l, c, ss, hcs, _, hl, hm, hz, hx, hcell, hsz⟩
  · simp only [List.cons.injEq, and_true] at hcs
    subst hcs
    exact ⟨none, 0, 0, [], rfl, ⟨rfl, Nat.le_refl _, fun _ => ⟨rfl, rfl⟩, (fun _ h => by cases h), (fun _ h => by cases h)⟩, Nat.zero_le _⟩
  · simp only [List.cons.injEq, and_true] at hcs
    subst hcs
    simp only [if_true] at hz
    refine ⟨some x, l, c, ss.take l, rfl, ⟨by rw [List.length_take]; omega, hl, (fun h => by cases h), ?_, fun s hs => hsz s (List.mem_of_mem_take hs)⟩, hm⟩
    intro ad had j s hs
    obtain rfl := Option.some.inj had
    rw [List.getElem?_take] at hs
    split at hs
    · have hj := (List.getElem?_eq_some_iff.1 hs).1
      rw [hcell j hj, List.getD, hs, Option.getD_some]
    · cases hs
theorem open_txts {w : World} {a : Option Addr} {len cap : Nat} {d : DataW H} {ps : List MemPlace} (h : DataW.Trod enc Tryd.prog w 0 (fun _ => true) true 22 (.slice a len cap) d ps) :
    ∃ S, Txts w a len cap S ∧ cap ≤ maxLen := by
  obtain ⟨fuel, hf⟩ := h
  obtain ⟨a', len', cap', S, h1, h2, h3⟩ := open_txts0 (by simpa [Value.cells] using hf)
  simp only [Value.slice.injEq] at h1
  obtain ⟨rfl, rfl, rfl⟩ := h1
  exact ⟨S, h2, h3⟩
theorem open_bytes {w : World} {a : Option Addr} {len cap : Nat} {d : DataW H} {ps : List MemPlace} (h : DataW.Trod enc Tryd.prog w 0 (fun _ => true) true 25 (.slice a len cap) d ps) :
    ∃ l, Bytes w a len cap l ∧ cap ≤ maxLen := by
  obtain ⟨fuel, hf⟩ := h
  rcases open_ints Tryd.underlying25 Tryd.underlying5 (by kernel_rfl) hf with ⟨hcs, _⟩ | ⟨x, l, c, zs, hcs, _, hl, hm, hz, hx, hcell, hwf⟩
  · simp [Value.cells] at hcs
    obtain ⟨rfl, rfl, rfl⟩ := hcs
    exact ⟨[], Bytes.nil w, Nat.zero_le _⟩
  · simp [Value.cells] at hcs
    obtain ⟨rfl, rfl, rfl⟩ := hcs
    simp only [if_true] at hz
    refine ⟨(zs.take len).map fun z => UInt8.ofNat z.toNat, ⟨by rw [List.length_map, List.length_take]; omega, hl, (fun h => by cases h), ?_⟩, hm⟩
    intro ad had j u hu
    obtain rfl := Option.some.inj had
    rw [bs, List.map_map, List.getElem?_map, List.getElem?_take] at hu
    split at hu
    · rename_i hjl
      have hj : j < zs.length := by omega
      rw [List.getElem?_eq_getElem hj, Option.map_some] at hu
      obtain rfl := Option.some.inj hu
      rw [hcell j hj]
      have hb := bounds_u8 (hwf zs[j] (List.getElem_mem hj))
      simp only [Function.comp, List.getD, List.getElem?_eq_getElem hj, Option.getD_some]
      rw [UInt8.toNat_ofNat', show zs[j].toNat % 2 ^ 8 = zs[j].toNat by omega, Int.toNat_of_nonneg hb.1]
    · cases hu
theorem open_cmds {w : World} {a : Option Addr} {len cap : Nat} {d : DataW H} {ps : List MemPlace} (h : DataW.Trod enc Tryd.prog w 0 (fun _ => true) true 29 (.slice a len cap) d ps) :
    ∃ L, Tss w a len L ∧ len ≤ maxLen ∧ cap ≤ maxLen := by
  obtain ⟨fuel, hf⟩ := h
  rcases DataW.trod_slice Tryd.underlying29 hf with ⟨hcs, _⟩ | ⟨x, l, c, elems, rest, n, _, hcs, _, _, hl, hm, hlen, hel, -, -⟩
  · simp [Value.cells] at hcs
    obtain ⟨rfl, rfl, rfl⟩ := hcs
    exact ⟨[], ⟨rfl, fun _ => rfl, (fun _ h => by cases h)⟩, Nat.zero_le _, Nat.zero_le _⟩
  · simp [Value.cells] at hcs
    obtain ⟨rfl, rfl, rfl⟩ := hcs
    have hc1 : Tryd.prog.cellsOf 22 = 1 := by kernel_rfl
    have key : ∀ i, i < len → ∃ S : List ByteArray, ∃ ao' c', w.cell? (x.add i) = some (.slice ao' S.length c') ∧ Txts w ao' S.length c' S ∧ c' ≤ maxLen := by
      intro i hi
      have hb := hel i hi
      rw [List.getElem?_eq_getElem (by omega), hc1, Nat.mul_one, Option.bind_eq_some_iff] at hb
      obtain ⟨cs', hcs, hy⟩ := hb
      obtain ⟨v, rfl⟩ : ∃ v, cs' = [v] := by
        have := hcs
        rcases DataW.trod_slice Tryd.underlying22 hy with ⟨h, _⟩ | ⟨a, l, c, _, _, _, _, h, _⟩
        · exact ⟨_, h⟩
        · exact ⟨_, h⟩
      obtain ⟨ao', l', c', S, rfl, hT, hc⟩ := open_txts0 hy
      have hl' := hT.len
      subst hl'
      exact ⟨S, ao', c', cell_of_cells?_one hcs, hT, hc⟩
    obtain ⟨q, hq⟩ := Go.Deep.choose_lt key
    refine ⟨(List.range len).map q, ⟨by simp, (fun h => by cases h), fun ad had j S hj => ?_⟩, by omega, hm⟩
    obtain rfl := Option.some.inj had
    rw [List.getElem?_map] at hj
    by_cases hjl : j < len
    · rw [List.getElem?_range hjl, Option.map_some] at hj
      obtain rfl := Option.some.inj hj
      exact hq j hjl
    · rw [List.getElem?_eq_none (by simp; omega)] at hj; cases hj
end
end Go.Proofs.YtkhfplpplmnjiabDoor
