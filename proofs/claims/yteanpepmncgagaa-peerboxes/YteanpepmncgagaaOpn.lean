/-
  A vector and a dot, as data: opened and shut.
-/
import Derived.Test.YteanpepmncgagaaVec
import Derived.ProofKit
import Derived.OpenShut
import Derived.DataBytes
namespace Go.Proofs.Yteanpepmncgagaa
set_option maxRecDepth 100000
open Go.ChangeShapes Go.WideShapes Go.ChangeAt Go.RowKit

section
variable {H : Type} {enc : TypeId × Value → H} {w : World} {base : Nat} {spare : Nat → Bool} {held : Bool}

def datum (H : Type) (l : List Int) : DataW H := .agg (l.map fun x => .lit (.int .i64 x))

theorem shut_vec {l : List Int} (hl : l.length = 16) (hw : ∀ x ∈ l, (Lit.int .i64 x).wf = true) : DataW.Trod enc Try.prog w base spare held 35 (.agg (vals l)) (datum H l) [] := by
  have hu : Try.prog.underlying 35 = some (.array 16 3) := by kernel_rfl
  have h3 : Try.prog.underlying 3 = some (.int .i64) := by kernel_rfl
  have c1 : Try.prog.cellsOf 3 = 1 := by kernel_rfl
  have c2 : Try.prog.cellsOf 35 = 16 := by kernel_rfl
  refine ⟨2, ?_⟩
  unfold DataW.trod
  rw [hu]
  simp only [Value.cells, vals, List.length_map, c1, c2, hl, if_true, Nat.mul_one]
  rw [mapM_some_of_forall (g := fun i => ((.lit (.int .i64 (l.getD i 0)) : DataW H), ([] : List MemPlace))) (List.range 16)]
  · simp only [Option.map_some, Option.some.injEq, Prod.mk.injEq]
    refine ⟨?_, by simp⟩
    rw [datum]
    congr 1
    apply List.ext_getElem
    · simp [hl]
    · intro i h1 h2
      have hi : i < l.length := by simpa using h2
      simp [List.getD, hi]
  · intro i hi
    have hil : i < l.length := by rw [List.mem_range] at hi; omega
    have e : ((l.map (Value.int .i64)).drop i).take 1 = [.int .i64 l[i]] := by
      rw [List.drop_eq_getElem_cons (by simpa using hil)]
      simp
    unfold DataW.trod
    rw [h3, e]
    simp [hw l[i] (List.getElem_mem hil), List.getD, hil]

theorem open_vec {r : Reach} {b0 : Nat} {v : Value} {d : DataW H} {ps : List MemPlace} (hval : Value.okWide Try.prog w r b0 35 v) (hd : DataW.Trod enc Try.prog w base spare held 35 v d ps) :
    ∃ l : List Int, v = .agg (vals l) ∧ d = datum H l ∧ ps = [] ∧ l.length = 16 ∧ ∀ x ∈ l, (Lit.int .i64 x).wf = true := by
  have hu : Try.prog.underlying 35 = some (.array 16 3) := by kernel_rfl
  have h3 : Try.prog.underlying 3 = some (.int .i64) := by kernel_rfl
  have c1 : Try.prog.cellsOf 3 = 1 := by kernel_rfl
  have c2 : Try.prog.cellsOf 35 = 16 := by kernel_rfl
  obtain ⟨cs, rfl, hsz, -⟩ : ∃ cs, v = .agg cs ∧ cs.size = Try.prog.cellsOf 35 ∧ Row.okWide Try.prog w r b0 35 cs := by
    simpa [Value.okWide, hu] using hval
  rw [c2] at hsz
  have hd0 := hd
  obtain ⟨fuel, hf⟩ := hd
  obtain ⟨xs, m, -, hx, -, hlx, hget⟩ := DataW.trod_array hu hf
  rw [c1] at hget
  have key : ∀ i, i < 16 → ∃ n, cs[i]? = some (.int .i64 n) ∧ (Lit.int .i64 n).wf = true := by
    intro i hi
    have h := hget i hi
    rw [List.getElem?_eq_getElem (by omega : i < xs.length)] at h
    obtain ⟨n, hn, -, hwf⟩ := DataW.trod_int h3 h
    refine ⟨n, ?_, hwf⟩
    simp only [Value.cells, Nat.mul_one] at hn
    have hic : i < cs.toList.length := by simpa using (by omega : i < cs.size)
    rw [List.drop_eq_getElem_cons hic] at hn
    simp at hn
    rw [Array.getElem?_eq_getElem (by omega), hn]
  have hcs : cs = vals ((List.range 16).map fun i => intOf (cs.getD i undef)) := by
    apply Array.ext
    · simp [vals, hsz]
    · intro i h1 h2
      obtain ⟨n, hn, -⟩ := key i (by omega)
      have hn' : cs[i] = .int .i64 n := by rw [Array.getElem?_eq_getElem h1] at hn; exact Option.some.inj hn
      simp [vals, h1, hn', intOf]
  have hwf : ∀ x ∈ (List.range 16).map fun i => intOf (cs.getD i undef), (Lit.int .i64 x).wf = true := by
    intro x hxm
    obtain ⟨i, hi, rfl⟩ := List.mem_map.1 hxm
    obtain ⟨n, hn, hwf⟩ := key i (List.mem_range.1 hi)
    have hic : i < cs.size := by rw [List.mem_range] at hi; omega
    rw [Array.getElem?_eq_getElem hic] at hn
    simpa [hic, Option.some.inj hn, intOf] using hwf
  have hlen : ((List.range 16).map fun i => intOf (cs.getD i undef)).length = 16 := by simp
  generalize (List.range 16).map (fun i => intOf (cs.getD i undef)) = l at hcs hwf hlen
  subst hcs
  obtain ⟨f2, h2⟩ := shut_vec (H := H) (enc := enc) (w := w) (base := base) (spare := spare) (held := held) hlen hwf
  refine ⟨l, rfl, ?_, ?_, hlen, hwf⟩ <;>
  · have hl2 : ∀ i, i < 16 → xs[i]? = some ((.lit (.int .i64 (l.getD i 0)) : DataW H), []) := by
      intro i hi
      have h := hget i hi
      have hil : i < l.length := by omega
      have e : (((Value.agg (vals l)).cells.toList.drop (i * 1)).take 1) = [.int .i64 l[i]] := by
        simp only [Value.cells, vals, Nat.mul_one]
        rw [List.drop_eq_getElem_cons (by simpa using hil)]
        simp
      rw [e, List.getElem?_eq_getElem (by omega : i < xs.length)] at h
      obtain ⟨n, hn, hx2, -⟩ := DataW.trod_int h3 h
      simp at hn
      rw [List.getElem?_eq_getElem (by omega : i < xs.length), hx2, ← hn]
      simp [List.getD, hil]
    have hxs : xs = l.map (fun x => ((.lit (.int .i64 x) : DataW H), ([] : List MemPlace))) := by
      apply List.ext_getElem?
      intro i
      by_cases hi : i < 16
      · rw [hl2 i hi]
        have hil : i < l.length := by omega
        simp [List.getD, hil]
      · rw [List.getElem?_eq_none (by omega), List.getElem?_eq_none (by rw [List.length_map]; omega)]
    rw [Prod.mk.injEq] at hx
    first
      | (rw [hx.1, hxs, datum]; simp; done)
      | (rw [hx.2, hxs]; simp; done)

theorem shut_dot {r n : Int} (hr : (Lit.int .i64 r).wf = true) (hn : (Lit.int .i64 n).wf = true) : DataW.Trod enc Try.prog w base spare held 33 (.agg (dotc r n)) (.agg [.lit (.int .i64 r), .lit (.int .i64 n)]) [] := by
  have h3 : Try.prog.underlying 3 = some (.int .i64) := by kernel_rfl
  have c1 : Try.prog.cellsOf 3 = 1 := by kernel_rfl
  have c2 : Try.prog.cellsOf 33 = 2 := by kernel_rfl
  exact ⟨2, by simp [DataW.trod, Value.cells, dotc, Try.underlying33, h3, c1, c2, hr, hn]⟩

theorem open_dot {r : Reach} {b0 : Nat} {v : Value} {d : DataW H} {ps : List MemPlace} (hval : Value.okWide Try.prog w r b0 33 v) (hd : DataW.Trod enc Try.prog w base spare held 33 v d ps) :
    ∃ r n : Int, v = .agg (dotc r n) ∧ d = .agg [.lit (.int .i64 r), .lit (.int .i64 n)] ∧ ps = [] ∧ (Lit.int .i64 r).wf = true ∧ (Lit.int .i64 n).wf = true := by
  have h3 : Try.prog.underlying 3 = some (.int .i64) := by kernel_rfl
  have c1 : Try.prog.cellsOf 3 = 1 := by kernel_rfl
  have c2 : Try.prog.cellsOf 33 = 2 := by kernel_rfl
  obtain ⟨cs, rfl, hsz, -⟩ : ∃ cs, v = .agg cs ∧ cs.size = Try.prog.cellsOf 33 ∧ Row.okWide Try.prog w r b0 33 cs := by
    simpa [Value.okWide, Try.underlying33] using hval
  rw [c2] at hsz
  obtain ⟨l⟩ := cs
  obtain ⟨x, y, rfl⟩ : ∃ x y, l = [x, y] := by
    match l, hsz with
    | [x, y], _ => exact ⟨x, y, rfl⟩
  obtain ⟨fuel, hf⟩ := hd
  cases fuel with
  | zero => simp [DataW.trod] at hf
  | succ m =>
    unfold DataW.trod at hf
    rw [Try.underlying33] at hf
    simp [Value.cells, c1, c2] at hf
    cases h0 : DataW.trod enc Try.prog w base spare held m 3 [x] with
    | none => simp [h0] at hf
    | some y0 =>
      cases h1 : DataW.trod enc Try.prog w base spare held m 3 [y] with
      | none => simp [h0, h1] at hf
      | some y1 =>
        obtain ⟨a, ha, rfl, wa⟩ := DataW.trod_int h3 h0
        obtain ⟨b, hb, rfl, wb⟩ := DataW.trod_int h3 h1
        simp [h0, h1] at hf
        simp at ha hb
        subst ha hb
        exact ⟨a, b, rfl, hf.1.symm, hf.2, wa, wb⟩
end
end Go.Proofs.Yteanpepmncgagaa
