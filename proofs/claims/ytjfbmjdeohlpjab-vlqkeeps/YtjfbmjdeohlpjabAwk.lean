/-
  What the statements' first call, awake, comes to: true; nothing that was there has turned.
-/
import Derived.Test.YtjfbmjdeohlpjabPut
namespace Go.Proofs.Ytjfbmjdeohlpjab
open Go.RowKit

theorem wd300 : Vq.wd 300 = 2 := by decide
theorem num300 : Vq.num 300 = [130, 44] := by decide

/-- Put behind nothing. -/
theorem put_nil (n : Nat) (w : World) (hn : n < 18446744073709551616) :
    Calls Try.prog 6 #[.slice none 0 0, .int .u64 (n : Int)] w fun e w' =>
      ∃ g, e = .returned (.slice (some ⟨g, 0, none⟩) (Vq.wd n) (Vq.wd n)) ∧ w'.ownsRow w.heap.size 5 1 (.slice (some ⟨g, 0, none⟩) (Vq.wd n) (Vq.wd n)) (Vq.wd n) (bs (Vq.num n)) ∧ Below w.heap.size w w' := by
  have h := put_any none 0 0 [] n w (Bytes.nil w) (by omega) hn
  rw [Nat.zero_add, List.nil_append] at h
  exact h

set_option maxHeartbeats 400000 in
theorem awake_any (w : World) : Calls Try.prog 5 #[] w fun e w' => e = .returned (.bool true) ∧ Below w.heap.size w w' := by
  have h := put_nil 300 w (by omega)
  rw [wd300, num300] at h
  go_enter Try.func5, Try.ntmps5
  go_wp2_with fail
  refine h.mono ?_
  rintro e w1 ⟨g, rfl, hown, hbel⟩
  clear h
  have h0 : w1.cell? ⟨g, 0, none⟩ = some (.int .u8 130) := hown.cellAt 0 (by omega)
  have h1 : w1.cell? ⟨g, 1, none⟩ = some (.int .u8 44) := hown.cellAt 1 (by omega)
  go_wp2
  go_ret
  exact ⟨rfl, hbel⟩
end Go.Proofs.Ytjfbmjdeohlpjab
