/-
  RespNil: a nil parser tells nothing. For every input.
-/
import Derived.Test.YtkhfplpplmnjiaaDoorAwk
namespace Go.Proofs.YtkhfplpplmnjiaaDoor
set_option maxRecDepth 100000
open Go.RowKit Go.Sort

set_option maxHeartbeats 2000000 in
theorem nil_walk (s : ByteArray) (hs : s.size ≤ maxLen) (w : World) (ht : Tab w) : Calls Tryd.prog 8 #[.string s] w fun e w' => e = .returned (.bool true) ∧ Below w.heap.size w w' := by
  go_enter Tryd.func8, Tryd.ntmps8
  go_wp2_with fail
  refine Calls.mono (awake_any w ht) ?_
  rintro e w1 ⟨rfl, hb1⟩
  obtain ⟨cap, w2, hcv, hT, hcap, hb2, -⟩ := conv_tail s w1 hs
  have hb12 := hb1.trans (hb2.mono hb1.size)
  go_wp2_with fail
  refine Calls.mono (feed_nil _ _ _ w2) ?_
  rintro e w3 ⟨rfl, rfl⟩
  go_wp2
  go_ret
  exact ⟨rfl, hb12⟩
end Go.Proofs.YtkhfplpplmnjiaaDoor
