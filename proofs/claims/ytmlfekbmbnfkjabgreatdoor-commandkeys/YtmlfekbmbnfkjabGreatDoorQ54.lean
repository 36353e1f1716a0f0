/-
  What All comes to: members are gathered in a map's keys, told in whatever order, and sorted.
-/
import Derived.Test.YtmlfekbmbnfkjabGreatDoorQ29
import Derived.Maps.OwnSet
import Derived.Maps.RangeWalk
import Derived.Sort.KeysCollected
namespace Go.Proofs.YtmlfekbmbnfkjabGreatDoor
set_option maxRecDepth 100000
namespace T13
set_option maxRecDepth 100000
open Go.RowKit Go.Maps Go.WideMaps Go.Sort

theorem lawS : Keyed Tryz.prog 9 := string_keyed Tryz.underlying9
/-- The set of the members so far. -/
def setF (F : List (List UInt8)) : DataW Unit := setOf (.agg []) (F.map Lit.string)
theorem keyF {s : List UInt8} (h : s.length ≤ 1000) : keyOf Tryz.prog 9 (.string (sb s)) = some (.string s) := by
  have := keyOf_string_mk (P := Tryz.prog) (k := 9) Tryz.underlying9 (s := sb s) (by rw [sb_size]; unfold maxLen; omega)
  rw [data_sb] at this
  exact this
theorem _root_.Go.Proofs.YtmlfekbmbnfkjabGreatDoor.TRow.keep {w w' : World} {base : Nat} {v : Value} {S : List (List UInt8)} (h : TRow w base v S) (hk : ∀ k, v.ownBlock = some k → w'.heap[k]? = w.heap[k]?) : TRow w' base v S := by
  refine ⟨h.1, ?_⟩
  rcases h.2 with hn | ⟨g, cap, cur, rfl, hbg, hg, rest⟩
  · exact .inl hn
  · exact .inr ⟨g, cap, cur, rfl, hbg, by rw [hk g rfl]; exact hg, rest⟩
end T13
end Go.Proofs.YtmlfekbmbnfkjabGreatDoor

