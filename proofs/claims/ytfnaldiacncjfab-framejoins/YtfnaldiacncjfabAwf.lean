/-
  What the statements' first call, awake, comes to: true; nothing that was there has turned.
-/
import Derived.Test.YtfnaldiacncjfabFpu
import Derived.Test.YtfnaldiacncjfabFsc
import Derived.Lib.SlBytesConst
namespace Go.Proofs.Ytfnaldiacncjfab
open Go.RowKit

def abl : List UInt8 := [97, 98]
theorem ab_bytes (w : World) : Bytes (w.alloc (Obj.cells #[.int .u8 97, .int .u8 98] 5 (2, 3))) (some ⟨w.heap.size, 0, .none⟩) 2 2 abl :=
  ⟨rfl, Nat.le_refl _, (fun h => by cases h), fun ad had j u hu => by
    obtain rfl := Option.some.inj had
    rw [Addr.add_lit, Nat.zero_add, World.cell?_alloc_mark]
    exact (List.getElem?_toArray ..).trans hu⟩

set_option maxHeartbeats 400000 in
theorem awake_any (w : World) : Calls Try.prog 4 #[] w fun e w' => e = .returned (.bool true) ∧ Below w.heap.size w w' := by
  have kc := Lib.run_convert_bytes_const (P := Try.prog) w 24 5 #[.int .u8 97, .int .u8 98] 2 2 Try.underlying24 Try.underlying5
  have Hp : Hid _ := put_ok _ 2 2 abl _ (ab_bytes w) (by omega)
  go_enter Try.func4, Try.ntmps4
  go_wp2_with fail
  refine Calls.mono Hp.out ?_
  rintro e w1 ⟨g, rfl, hown, hb1⟩
  have hfr := Fr.take_frame abl [] (by decide)
  rw [List.append_nil] at hfr
  have Ht : Hid _ := take_ok _ 8 8 (Fr.frame abl) 0 w1 (Bytes.own hown) (by unfold maxLen; omega) (by omega) hfr.1
  rw [List.drop_zero, hfr.2.1, hfr.2.2, Fr.frame_length] at Ht
  clear hfr
  go_wp2_with fail
  refine Calls.mono Ht.out ?_
  rintro e w2 ⟨g2, rfl, hown2, hb2⟩
  have hc := conv_own hown2
  have hbel := (Below.refl w.heap.size w).alloc (Nat.le_refl _) (Obj.cells #[Value.int .u8 97, .int .u8 98] 5 (2, 3))
  have hbel1 := hbel.trans (hb1.mono hbel.size)
  have hbel2 := hbel1.trans (hb2.mono hbel1.size)
  go_wp2
  go_ret
  exact ⟨rfl, hbel2⟩
end Go.Proofs.Ytfnaldiacncjfab
