/-
  A list of calls on a box (a number and whether it takes) that came in.
-/
import Derived.Test.YteanpepmncgagaaGba
import Derived.Deep.MidRow
import Derived.Deep.SlicePairs
import Derived.OpenShut
import Derived.ChangeOld
namespace Go.Proofs.Yteanpepmncgagaa
set_option maxRecDepth 100000
open Go.RowKit Go.ChangeShapes Go.WideShapes

def IsBoxs (w : World) (a : Option Addr) (len : Nat) (N : Nat → Int) (S : Nat → Bool) : Prop :=
  len = 0 ∨ ∃ b off, a = some ⟨b, off, none⟩ ∧ len ≤ maxLen ∧ b < w.heap.size ∧ ∀ i, i < len → w.cell? ⟨b, off + i * 2, none⟩ = some (.int .i64 (N i)) ∧ w.cell? ⟨b, off + i * 2 + 1, none⟩ = some (.bool (S i)) ∧ (Lit.int .i64 (N i)).wf = true
section
variable {H : Type} {enc : TypeId × Value → H}
theorem open_boxs0 {w : World} {a : Option Addr} {len cap : Nat} {d : DataW H} {ps : List MemPlace} (h : DataW.Trod enc Try.prog w 0 (fun _ => true) true 59 (.slice a len cap) d ps) (lt : ∀ x ∈ ps, x.block < w.heap.size) :
    ∃ N S, IsBoxs w a len N S := by
  obtain ⟨fuel, hf⟩ := h
  rcases Go.Deep.open_slice_pairs Try.underlying59 Try.underlying66 (by kernel_rfl) rfl rfl (by kernel_rfl) (by kernel_rfl) hf with ⟨hcs, _⟩ | ⟨x, l, c, m, n, V0, V1, D0, D1, P0, P1, hcs, _, hl, hm, hmm, hx, hall⟩
  · simp [Value.cells] at hcs
    exact ⟨fun _ => 0, fun _ => false, .inl hcs.2.1⟩
  · simp [Value.cells] at hcs
    obtain ⟨rfl, rfl, rfl⟩ := hcs
    simp only [if_true] at hmm
    subst hmm
    have h3 : Try.prog.underlying 3 = some (.int .i64) := by kernel_rfl
    have h4 : Try.prog.underlying 4 = some .bool := by kernel_rfl
    have key : ∀ i, i < m → ∃ q : Int × Bool, w.cell? (x.add (i * 2)) = some (.int .i64 q.1) ∧ w.cell? (x.add (i * 2 + 1)) = some (.bool q.2) ∧ (Lit.int .i64 q.1).wf = true := by
      intro i hi
      obtain ⟨c0, c1, t0, t1⟩ := hall i hi
      obtain ⟨n0, e0, -, wn⟩ := DataW.trod_int h3 t0
      obtain ⟨s0, e1, -⟩ := DataW.trod_bool h4 t1
      simp only [List.cons.injEq, and_true] at e0 e1
      exact ⟨(n0, s0), by rw [c0, e0], by rw [c1, e1], wn⟩
    obtain ⟨q, hq⟩ := Go.Deep.choose_lt key
    refine ⟨fun i => (q i).1, fun i => (q i).2, ?_⟩
    by_cases h0 : len = 0
    · exact .inl h0
    · right
      obtain ⟨b, off, spot⟩ := x
      have hs : spot = none := by simpa [Addr.add] using World.cell?_spot (hq 0 (by omega)).1
      subst hs
      simp only [Prod.mk.injEq] at hx
      refine ⟨b, off, rfl, by omega, ?_, fun i hi => ?_⟩
      · have := lt (.cell b (off + 0)) (by
          rw [hx.2]
          refine List.mem_append_left _ ?_
          simp only [MemPlace.row, List.mem_map, List.mem_range]
          exact ⟨0, by omega, rfl⟩)
        exact this
      · have := hq i (by omega)
        rw [Addr.add_mid, Addr.add_mid, ← Nat.add_assoc] at this
        exact this
end
theorem index_box (w : World) {b off k m c : Nat} (hk : k < m) : (Instr.indexAt 59 (.slice (some ⟨b, off, none⟩) m c) (.int .i64 (k : Int))).run Try.prog w = .ok (.pointer (some ⟨b, off + k * 2, none⟩)) w := by
  have hk' : (k : Int) < (m : Int) := by omega
  have hs : (Try.prog.info? 66).map (·.size) = some 2 := by kernel_rfl
  have ht : Try.prog.underlying 59 = some (.slice 66) := Try.underlying59
  go_simp
theorem IsBoxs.below {w W : World} {a : Option Addr} {len : Nat} {N : Nat → Int} {S : Nat → Bool} (h : IsBoxs w a len N S) (hb : Below w.heap.size w W) : IsBoxs W a len N S := by
  rcases h with h | ⟨b, off, ha, hl, hlt, hc⟩
  · exact .inl h
  · refine .inr ⟨b, off, ha, hl, Nat.lt_of_lt_of_le hlt hb.size, fun i hi => ?_⟩
    obtain ⟨h1, h2, h3⟩ := hc i hi
    exact ⟨by rw [World.cell?_of_block (w := w) (hb.block b hlt)]; exact h1, by rw [World.cell?_of_block (w := w) (hb.block b hlt)]; exact h2, h3⟩
end Go.Proofs.Yteanpepmncgagaa
