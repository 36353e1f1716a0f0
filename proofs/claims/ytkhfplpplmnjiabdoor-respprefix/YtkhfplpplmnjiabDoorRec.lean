/-
  What the reference's Encode and Command come to; the program's Command.
-/
import Derived.Test.YtkhfplpplmnjiabDoorEcd
namespace Go.Proofs.YtkhfplpplmnjiabDoor
set_option maxRecDepth 100000
open Go.RowKit Go.Sort

theorem putcmd_any (ao : Option Addr) (m c : Nat) (S : List ByteArray) (w : World) (hT : Txts w ao m c S) (hf : few3 S) (hw : Tab w) :
    Calls Tryd.prog 5 #[.slice ao m c] w fun e w' => ∃ v, e = .returned v ∧ Made w' w.heap.size v (Rs.many (dl S)) ∧ Below w.heap.size w w' := by
  go_enter Tryd.func5, Tryd.ntmps5
  go_wp2_with fail
  refine Calls.mono (putmany_any ao m c S _ hT hf hw) ?_
  rintro e w2 ⟨v, rfl, hM, hb2⟩
  go_wp2
  go_ret
  exact ⟨_, rfl, hM, hb2⟩

theorem ln3 (sg : UInt8) (l : List UInt8) : tx (Rs.ln [sg] l) = tx [sg] ++ tx l ++ tx [13, 10] := by rw [tx_app, tx_app]; rfl
theorem many_succ (S : List ByteArray) (k : Nat) (hk : k < S.length) (H : List UInt8) : tx (H ++ ((S.take (k + 1)).map fun s => s.data.toList).flatMap Rs.bulk) = tx (H ++ ((S.take k).map fun s => s.data.toList).flatMap Rs.bulk) ++ tx (Rs.bulk (S.getD k ByteArray.empty).data.toList) := by
  rw [tx_app, dl_take_succ S k hk, List.append_assoc]

end Go.Proofs.YtkhfplpplmnjiabDoor
