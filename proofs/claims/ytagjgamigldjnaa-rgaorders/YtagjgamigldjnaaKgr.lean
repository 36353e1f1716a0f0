/-
  A map to rows of numbers: no two keys' rows lie in one block.
-/
import Derived.Test.YtagjgamigldjnaaKin
namespace Go.Proofs.Ytagjgamigldjnaa
set_option maxRecDepth 100000
open Go.RowKit
open Go.ChangeMaps (setBlock heap_setBlock_same heap_setBlock_other)

section
variable {κ : Type} [DecidableEq κ] {kty : TypeId} {kv : κ → Value}
def rowOf (f : κ → Option Value) (s : κ) : Value := (f s).getD (.slice none 0 0)
/-- The groups: the map's block, the rows from 'base' on. -/
structure Gri (kv : κ → Value) (w : World) (b base : Nat) (f : κ → Option Value) (G : κ → List Nat) : Prop where
  map : Mp kv w b f
  rows : ∀ s, IRow w base (rowOf f s) (G s)
  apart : ∀ s t k, (rowOf f s).ownBlock = some k → (rowOf f t).ownBlock = some k → s = t
  lt : b < base
omit [DecidableEq κ] in
theorem Gri.below {w w' : World} {b base B : Nat} {f : κ → Option Value} {G : κ → List Nat} (h : Gri kv w b base f G) (hb : Below B w w') (hB : w.heap.size ≤ B) : Gri kv w' b base f G :=
  ⟨h.map.below hb (Nat.lt_of_lt_of_le h.map.lt hB), fun s => (h.rows s).below hb hB, h.apart, h.lt⟩
omit [DecidableEq κ] in
theorem gri_new (kv : κ → Value) (w : World) : Gri kv (w.alloc (.map #[] 0)) w.heap.size (w.heap.size + 1) (fun _ => none) (fun _ => []) :=
  ⟨mp_new kv w, fun _ => irow_nil _ _, (fun _ _ _ h => by cases h), Nat.lt_succ_self _⟩
omit [DecidableEq κ] in
theorem Gri.look (K : KeyOk kty kv) {t : TypeId} (ht : Try.prog.underlying t = some (.map kty 50)) {w : World} {b base : Nat} {f : κ → Option Value} {G : κ → List Nat} (h : Gri kv w b base f G) (s : κ) :
    (Instr.lookup t (.map (some b)) (kv s) false).run Try.prog w = .ok (rowOf f s) w := h.map.look K ht (fun w => Try.zeroValue50 w) s
/-- 'm[s] = append(m[s], n)': the row appended to, laid back. -/
theorem Gri.push (K : KeyOk kty kv) {t : TypeId} (ht : Try.prog.underlying t = some (.map kty 50)) {w : World} {b base : Nat} {f : κ → Option Value} {G : κ → List Nat} (h : Gri kv w b base f G) (s : κ) (n : Nat) (hl : (G s).length < 1000000) (hbase : base ≤ w.heap.size) (ty : TypeId) :
    ∃ v w4 w5, (Builtin.append_ #[50, 50] ty #[rowOf f s, .slice (some ⟨w.heap.size, 0, none⟩) 1 1]).run Try.prog (w.alloc (.cells #[.int .i64 (n : Int)] 3)) = .ok v w4 ∧
      (Instr.mapUpdate t (.map (some b)) (kv s) v).run Try.prog w4 = .ok () w5 ∧
      Gri kv w5 b base (fun y => if s = y then some v else f y) (fun y => if s = y then G s ++ [n] else G y) ∧
      (∀ k, k < w.heap.size → some k ≠ (rowOf f s).ownBlock → w4.heap[k]? = w.heap[k]?) ∧ (∀ k, k < w.heap.size → some k ≠ (rowOf f s).ownBlock → k ≠ b → w5.heap[k]? = w.heap[k]?) ∧ Below b w w5 := by
  have hB1 : Below w.heap.size w (w.alloc (.cells #[.int .i64 (n : Int)] 3)) := (Below.refl _ _).alloc (Nat.le_refl _) _
  have hG1 := h.below hB1 (Nat.le_refl _)
  obtain ⟨v, w4, hr4, hR4, hg4, ho4⟩ := run_appI (w := w.alloc (.cells #[.int .i64 (n : Int)] 3)) ty base (rowOf f s) (G s) (hG1.rows s) _ 1 1 [n] (iv_one w n) (by omega) (by simp; omega)
  have hblt : b < (w.alloc (.cells #[.int .i64 (n : Int)] 3)).heap.size := hG1.map.lt
  have hbrow : ∀ t, some b ≠ (rowOf f t).ownBlock := fun t e => by
    have := ((h.rows t).lt b e.symm).1
    have := h.lt
    omega
  have hM4 : Mp kv w4 b f := hG1.map.kept (hg4.block b hblt (hbrow s))
  obtain ⟨o, ho⟩ := hM4.update K ht s v
  obtain ⟨hr5, hM5⟩ := ho w4 rfl
  have hg5 := grownBy_setBlock w4 b o
  have hvb : ∀ k, v.ownBlock = some k → base ≤ k := hR4.own
  have hlt4 : w.heap.size ≤ w4.heap.size := Nat.le_trans hB1.size hg4.size
  have hrow : ∀ y, rowOf (fun y => if s = y then some v else f y) y = if s = y then v else rowOf f y := fun y => by
    unfold rowOf
    by_cases hy : s = y
    · simp [hy]
    · simp [hy]
  refine ⟨v, w4, setBlock w4 b o, hr4, hr5, ⟨hM5, fun y => ?_, fun y y' k h1 h2 => ?_, h.lt⟩, fun k hk hne => ?_, fun k hk hne hkb => ?_, ?_⟩
  · rw [hrow]
    by_cases hy : s = y
    · rw [if_pos hy, if_pos hy]
      refine hR4.keep (fun k hk => hg5.block k ((hR4.lt k hk).2) (fun e => ?_))
      have h1 := hvb k hk
      have h2 := h.lt
      have : k = b := by simpa using e
      omega
    · rw [if_neg hy, if_neg hy]
      have r4 : IRow w4 base (rowOf f y) (G y) := (hG1.rows y).keep (fun k hk => hg4.block k ((hG1.rows y).lt k hk).2 (fun e => hy (h.apart s y k e.symm hk)))
      refine r4.keep (fun k hk => hg5.block k ((r4.lt k hk).2) (fun e => hbrow y (by rw [hk]; exact e.symm)))
  · rw [hrow] at h1 h2
    have key : ∀ t, ¬ s = t → v.ownBlock = some k → (rowOf f t).ownBlock = some k → False := fun t ht e1 e2 => by
      rcases ho4 k e1 with h3 | h3
      · exact ht (h.apart s t k h3 e2)
      · have := ((hG1.rows t).lt k e2).2
        omega
    by_cases hy : s = y <;> by_cases hy' : s = y'
    · rw [← hy, ← hy']
    · rw [if_pos hy] at h1; rw [if_neg hy'] at h2
      exact (key y' hy' h1 h2).elim
    · rw [if_neg hy] at h1; rw [if_pos hy'] at h2
      exact (key y hy h2 h1).elim
    · rw [if_neg hy] at h1; rw [if_neg hy'] at h2
      exact h.apart y y' k h1 h2
  · rw [hg4.block k (by simp; omega) hne, hB1.block k hk]
  · rw [hg5.block k (by omega) (by simpa using hkb), hg4.block k (by simp; omega) hne, hB1.block k hk]
  · refine ((hB1.mono (Nat.le_of_lt (by have := h.lt; omega))).grown hg4 (by omega) (fun k hk => ?_)).grown hg5 (by have := hg4.size; omega) (fun k hk => ?_)
    · have h1 := ((h.rows s).lt k hk).1
      have h2 := h.lt
      omega
    · have : b = k := by simpa using hk
      omega
end
theorem mapI : Try.prog.underlying 47 = some (.map 3 50) := Try.underlying47
theorem mapD : Try.prog.underlying 58 = some (.map 26 50) := Try.underlying58
end Go.Proofs.Ytagjgamigldjnaa
