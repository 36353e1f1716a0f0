/-
  What the first call of each statement comes to; things put one behind the other.
-/
import Derived.Test.YteihijejohgfpaaBgl
import Derived.Test.YteihijejohgfpaaBar
namespace Go.Proofs.Yteihijejohgfpaa
open Go.RowKit

set_option maxHeartbeats 1000000 in
set_option maxRecDepth 100000 in
theorem awake_any (w : World) : Calls Try.prog 9 #[] w fun e w' => e = .returned (.bool true) ∧ Below w.heap.size w w' := by
  have hn := new_any w
  have hB := bg_new w
  have hb : Below w.heap.size w (w.alloc (.cells #[.map none] 32)) := (Below.refl _ w).alloc (Nat.le_refl _) _
  have hs : w.heap.size < (w.alloc (.cells #[.map none] 32)).heap.size := by simp
  obtain ⟨W, hW⟩ : ∃ W, w.alloc (.cells #[.map none] 32) = W := ⟨_, rfl⟩
  rw [hW] at hn hB hb hs
  clear hW
  go_enter Try.func9, Try.ntmps9
  go_wp2_with (first | (go_at_call 10; refine hn.mono ?_; rintro e w1 ⟨rfl, rfl⟩))
  refine (put_any _ _ _ ⟨1, 2, 7⟩ _ hB).mono ?_
  rintro e w2 ⟨rfl, m2, hB2, ht2⟩
  have hb2 := hb.trans (ht2.below hb.size (Nat.le_refl _) (by simp))
  clear hb hB ht2 hn
  go_wp2_with fail
  refine (get_any _ _ _ 1 2 _ hB2).mono ?_
  rintro e w3 ⟨rfl, hb3⟩
  have hB3 := hB2.below hb3 (Nat.le_refl _)
  have hb4 := hb2.trans (hb3.mono hb2.size)
  rw [show gets (put [] (⟨1, 2, 7⟩ : It Int)) 1 2 = ⟨1, 2, 7⟩ from rfl, show hasD (put [] (⟨1, 2, 7⟩ : It Int)) 1 2 = true from rfl]
  clear hb2 hB2 hb3
  go_wp2_with fail
  refine (len_any _ _ _ _ hB3).mono ?_
  rintro e w4 ⟨rfl, hw⟩
  obtain rfl := hw.symm
  rw [show (put [] (⟨1, 2, 7⟩ : It Int)).length = 1 from rfl]
  go_wp2
  go_ret
  exact ⟨rfl, hb4⟩
end Go.Proofs.Yteihijejohgfpaa
