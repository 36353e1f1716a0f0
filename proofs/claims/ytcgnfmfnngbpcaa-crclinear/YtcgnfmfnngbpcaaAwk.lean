/-
  What the statements' first call, awake, comes to: true; nothing that was there has turned.
-/
import Derived.Test.YtcgnfmfnngbpcaaOpn
import Derived.Lib.SlBytesConst
namespace Go.Proofs.Ytcgnfmfnngbpcaa
open Go.RowKit

def nine : List UInt8 := [49, 50, 51, 52, 53, 54, 55, 56, 57]
theorem nine_crc : Ck.crc nine = 10673#16 := by decide +kernel
theorem nine_bytes (w : World) : Bytes (w.alloc (Obj.cells #[.int .u8 49, .int .u8 50, .int .u8 51, .int .u8 52, .int .u8 53, .int .u8 54, .int .u8 55, .int .u8 56, .int .u8 57] 5 (9, 10))) (some ⟨w.heap.size, 0, .none⟩) 9 9 nine :=
  ⟨rfl, Nat.le_refl _, (fun h => by cases h), fun ad had j u hu => by
    obtain rfl := Option.some.inj had
    rw [Addr.add_lit, Nat.zero_add, World.cell?_alloc_mark]
    exact (List.getElem?_toArray ..).trans hu⟩

set_option maxHeartbeats 400000 in
theorem awake_any (w : World) : Calls Try.prog 8 #[] w fun e w' => e = .returned (.bool true) ∧ Below w.heap.size w w' := by
  have Hof : Hid _ := of_any _ 9 9 nine _ (nine_bytes w) (by unfold maxLen; omega)
  rw [nine_crc] at Hof
  have kc := Lib.run_convert_bytes_const (P := Try.prog) w 23 5 #[.int .u8 49, .int .u8 50, .int .u8 51, .int .u8 52, .int .u8 53, .int .u8 54, .int .u8 55, .int .u8 56, .int .u8 57] 9 9 Try.underlying23 Try.underlying5
  go_enter Try.func8, Try.ntmps8
  go_wp2_with fail
  refine Calls.mono Hof.out ?_
  rintro e w1 ⟨rfl, hw⟩
  obtain rfl := hw.symm
  go_wp2
  go_ret
  exact ⟨rfl, (Below.refl _ _).alloc (Nat.le_refl _) _⟩
end Go.Proofs.Ytcgnfmfnngbpcaa
