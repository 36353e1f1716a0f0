/-
  What Trim and Events of a log come to.
-/
import Derived.Test.YteanpepmncgagabPdf
import Derived.Lib.SliceRun
namespace Go.Proofs.Yteanpepmncgagab
set_option maxRecDepth 100000
open Go.RowKit

theorem src_back {w W0 : World} {p : Value} {E : List Ev} {g : Nat} {v : Value} (h : LP w p E) (hb : Below w.heap.size w W0) (hs : Src W0 p g v) : Src w p g v ∧ ∀ k, v.ownBlock = some k → k < w.heap.size := by
  rcases hs with ⟨rfl, hc⟩ | ⟨rfl, h1, h2⟩
  · rcases h with ⟨g', v', hp, hL⟩ | ⟨hp, -⟩
    · injection hp with hp; injection hp with hp; injection hp with hp
      subst hp
      have hc' := (hb.block _ hL.lt).symm.trans hc
      refine ⟨.inl ⟨rfl, hc'⟩, fun k e1 => ?_⟩
      rw [hL.uniq hc'] at e1
      exact hL.rowLt e1
    · cases hp
  · exact ⟨.inr ⟨rfl, by have := hb.size; omega, h2⟩, by rw [h2]; intro k e1; cases e1⟩
end Go.Proofs.Yteanpepmncgagab
