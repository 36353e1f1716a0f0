/-
  The keys of no map, sorted; what a nil space's Keys and Collect come to.
-/
import Derived.Test.YtmlfekbmbnfkjabGreatDoorQ60
import Derived.Test.YtmlfekbmbnfkjabGreatDoorQ61
import Derived.WalkKit
namespace Go.Proofs.YtmlfekbmbnfkjabGreatDoor
set_option maxRecDepth 100000
open Go.RowKit Go.Maps Go.Sort Go.Shelf

theorem sortsK (m : Nat) : AnyZ.SortsIn Tryz.prog sortedKRen Fence.wide m :=
  ⟨fun blk off cap ss W hH hblk hsz => callsIn_wide.2 (AnyM.slices_Sort_string sortK blk off cap ss W hH hblk hsz),
   fun p cap W => callsIn_wide.2 (AnyM.slices_Sort_string_none sortK p cap W)⟩
theorem mkeys_any (mb : Option Nat) (W : World) : Calls Tryz.prog 199 #[.map mb] W fun e w' => e = .returned (.func (.func 227) #[] #[.pointer (some ⟨W.heap.size, 0, none⟩)]) ∧ w' = W.alloc (.cells #[.map mb] 56) :=
  (callsIn_wide (n := 5)).1 (AnyZ.keys_in keysK Fence.wide 5 trivial rfl mb W)
theorem sorted_nil (w : World) : Calls Tryz.prog 198 #[.func (.func 227) #[] #[.pointer (some ⟨w.heap.size, 0, none⟩)]] (w.alloc (.cells #[.map none] 56)) fun e w' => e = .returned (.slice none 0 0) ∧ Below (w.alloc (.cells #[.map none] 56)).heap.size (w.alloc (.cells #[.map none] 56)) w' := by
  have hseq : SeqGives Fence.wide 2 Tryz.prog 227 #[.pointer (some ⟨w.heap.size, 0, none⟩)] encStr (fun ss : List (List UInt8) => ss = []) 0 (w.alloc (.cells #[.map none] 56)) :=
    AnyZ.keys_gives_nil (ρ := keysKRen) { keysK with } Fence.wide _ trivial rfl w.heap.size _ (by simp) (by simp)
  have h := (callsIn_wide (n := 5)).1 (AnyZ.sorted_in sortedK Fence.wide 5 trivial trivial trivial trivial rfl (by omega) (sortsK _) (enters_of Tryz.func182 (by kernel_rfl) rfl) 227 #[.pointer (some ⟨w.heap.size, 0, none⟩)] trivial (enters_of Tryz.func227 (by kernel_rfl) rfl) _ 0 (Nat.zero_le _) (by omega) _ hseq)
  refine Calls.mono h ?_
  rintro e w' ⟨v, ss, rfl, rfl, -, hnil, hb⟩
  exact ⟨by rw [hnil.2 rfl], hb⟩
theorem names_zero (g : Nat) (w : World) (hc : w.cell? ⟨g, 17, none⟩ = some (.map none)) : Calls Tryz.prog 158 #[.pointer (some ⟨g, 0, none⟩)] w fun e w' => e = .returned (.slice none 0 0) ∧ Below w.heap.size w w' := by
  have hz := sorz_some g w
  have hk := mkeys_any none w
  have hs := sorted_nil w
  have hb : Below w.heap.size w (w.alloc (.cells #[.map none] 56)) := (Below.refl _ w).alloc (Nat.le_refl _) _
  obtain ⟨W, hW⟩ : ∃ W, W = w.alloc (.cells #[.map none] 56) := ⟨_, rfl⟩
  rw [← hW] at hk hs hb
  have HB : Hid (Below w.heap.size w W) := hb
  clear hb hW
  go_enter Tryz.func158, Tryz.ntmps158
  go_wp2_with fail
  refine Calls.mono hz ?_
  rintro e w1 ⟨rfl, hw⟩
  obtain rfl := hw.symm
  clear hz
  go_wp2_with fail
  refine Calls.mono hk ?_
  rintro e w2 ⟨rfl, hw⟩
  obtain rfl := hw.symm
  clear hk
  go_wp2_with fail
  refine Calls.mono hs ?_
  rintro e w3 ⟨rfl, hb3⟩
  have FIN : Hid (Below w.heap.size w w3) := HB.out.trans (hb3.mono HB.out.size)
  clear hs hb3
  go_wp2
  go_ret
  exact ⟨rfl, FIN.out⟩
end Go.Proofs.YtmlfekbmbnfkjabGreatDoor

