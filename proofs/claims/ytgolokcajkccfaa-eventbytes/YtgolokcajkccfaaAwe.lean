/-
  What the statements' first call, awake, comes to: true; nothing that was there has turned.
-/
import Derived.Test.YtgolokcajkccfaaEnc
namespace Go.Proofs.Ytgolokcajkccfaa
open Go.RowKit

/-- The event of awake. -/
def aw : Ev := ⟨1, 1, 9, zeros, 1, [107], [], [118], 0, 0, 0⟩
def zev : Ev := ⟨0, 0, 0, zeros, 0, [], [], [], 0, 0, 0⟩
theorem aw_ok : okev aw = true := by decide +kernel
theorem aw_bytes : evb aw = [1, 1, 9, 0, 0, 0, 0, 0, 0, 0, 0, 0, 0, 0, 0, 0, 0, 0, 0, 1, 1, 107, 1, 118] := by decide +kernel
theorem aw_room : Room aw := ⟨by simp [aw], by simp [aw], by simp [aw]⟩
theorem aw_adds : addsE 1 = true := by decide
theorem aw_laid (w : World) : LiesE ((w.alloc (.cells (evc zev) 29)).setRow w.heap.size (evc aw)) w.heap.size aw := (liesE_new w zev).row aw

set_option maxHeartbeats 1000000 in
theorem awake_any (w : World) : Calls Try.prog 9 #[] w fun e w' => e = .returned (.bool true) ∧ Below w.heap.size w w' := by
  have hz := liesE_new w zev
  have hE := aw_laid w
  have H0 : Hid (Below w.heap.size w ((w.alloc (.cells (evc zev) 29)).setRow w.heap.size (evc aw))) := below_setRow ((Below.refl _ _).alloc (Nat.le_refl _) _) (Nat.le_refl _) _
  go_enter Try.func9, Try.ntmps9
  go_wp2_with (first | refine store_ev (e := aw) rfl rfl rfl rfl hz rfl rfl ?_ | refine load_ev rfl rfl rfl hE rfl ?_)
  refine (encode_ok aw rfl aw_room aw_ok _).mono ?_
  rintro e1 w1 ⟨g, c, rfl, b1, m1, hb1⟩
  have hE1 : LiesE w1 w.heap.size aw := hE.below hb1 hE.lt
  have H1 : Hid (Below w.heap.size w w1) := H0.out.trans (hb1.mono H0.out.size)
  rw [aw_bytes] at *
  have Y1 : Hid _ := b1
  have hr := b1.room
  clear hz hE H0 hb1 b1 m1
  go_wp2_with (refine load_ev rfl rfl rfl hE1 rfl ?_)
  refine (eright_any aw rfl aw_room _).mono ?_
  rintro e2 w2 ⟨rfl, hb2⟩
  have H2 : Hid (Below w.heap.size w w2) := H1.out.trans (hb2.mono H1.out.size)
  have hc : w2.cell? ⟨g, 2, none⟩ = some (.int .u8 9) := (Y1.out.below hb2 (Nat.le_refl _)).cells _ rfl 2 _ rfl
  rw [aw_ok]
  clear hE1 hb2 H1 Y1
  go_wp2_with fail
  refine (adds_any 1 _).mono ?_
  rintro e3 w3 ⟨rfl, hw⟩
  obtain rfl := hw.symm
  rw [aw_adds]
  go_wp2
  go_ret
  exact ⟨rfl, H2.out⟩
end Go.Proofs.Ytgolokcajkccfaa
