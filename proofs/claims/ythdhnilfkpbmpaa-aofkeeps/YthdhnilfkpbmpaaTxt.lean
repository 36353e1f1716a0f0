/-
  What vlq.PutText comes to, and the document's bytes of a number with a sign. Asked: texts of at most 1048576 bytes behind fewer than 2^40.
-/
import Derived.Test.YthdhnilfkpbmpaaMor
namespace Go.Proofs.Ythdhnilfkpbmpaa
open Go.RowKit

set_option maxHeartbeats 400000 in
theorem puttext_any (ao : Option Addr) (m c : Nat) (l : List UInt8) (s : ByteArray) (w : World) (hb : Bytes w ao m c l) (hm : m ≤ 1099511627776) (hs : s.size ≤ 1048576) :
    Calls Try.prog 52 #[.slice ao m c, .string s] w fun e w' =>
      ∃ g cap, e = .returned (.slice (some ⟨g, 0, none⟩) (m + Vq.wd s.size + s.size) cap) ∧ w'.ownsRow w.heap.size 5 1 (.slice (some ⟨g, 0, none⟩) (m + Vq.wd s.size + s.size) cap) (m + Vq.wd s.size + s.size) (bs (l ++ Vq.num s.size ++ s.data.toList)) ∧ Below w.heap.size w w' ∧ cap ≤ maxLen := by
  have h2 := Vq.wd_le s.size
  go_enter Try.func52, Try.ntmps52
  go_wp2_with fail
  refine (put_any ao m c l s.size _ hb (by omega) (by omega)).mono ?_
  rintro e w1 ⟨g, rfl, hown, hbel⟩
  go_wp2_with (at_builtin; refine wpList_append_full _ rfl (.tmp 9) (.tmp 10) rfl s rfl rfl hown (by omega) hbel.size ?_)
  intro g2 cap2 w2 hown2 hb2 hcap2
  go_wp2
  go_ret
  exact ⟨g2, cap2, rfl, by rw [List.append_assoc]; exact hown2, hbel.trans (hb2.mono hbel.size), hcap2⟩
end Go.Proofs.Ythdhnilfkpbmpaa
