/-
  What awake comes to.
-/
import Derived.Test.YtcopjgincdbliaaDcs
import Derived.Lib.SlBytesConst
namespace Go.Proofs.Ytcopjgincdbliaa
open Go.RowKit

theorem bytes_ab (w : World) : Bytes (w.alloc (Obj.cells #[.int .u8 97, .int .u8 98] 5 (2, 3))) (some ⟨w.heap.size, 0, .none⟩) 2 2 [97, 98] :=
  ⟨rfl, Nat.le_refl _, (fun h => by cases h), fun ad had j u hu => by
    obtain rfl := Option.some.inj had
    rw [Addr.add_lit, Nat.zero_add, World.cell?_alloc_mark]
    exact (List.getElem?_toArray ..).trans hu⟩

/-- A row that a call made, as a text. -/
theorem own_text {w : World} {base : Nat} {v : Value} {l : List UInt8} (h : w.ownsRow base 5 1 v l.length (bs l)) : (convert 38 9 v).run Try.prog w = .ok (.string (tx l)) w := by
  rcases h.2 with ⟨rfl, h0⟩ | ⟨g', cap, cur, rfl, hb, hg, hnc, hcm, hcs, htake⟩
  · have h1 : l = [] := List.eq_nil_of_length_eq_zero h0
    subst h1
    exact conv_any (t := tx []) (by rw [tx_list]; exact Bytes.nil w)
  · exact conv_own h

theorem new_ok (x : Int) (base : Nat) (w : World) (hb : base ≤ w.heap.size) :
    Calls Try.prog 11 #[.int .i64 x] w fun e w' => e = .returned (.pointer (some ⟨w.heap.size, 0, none⟩)) ∧ Dsk w' base w.heap.size (.slice none 0 0) [] 0 (held x) ∧ Below w.heap.size w w' ∧ w'.heap.size = w.heap.size + 1 := by
  refine (new_any x w).mono ?_
  rintro e w' ⟨rfl, rfl⟩
  exact ⟨rfl, dsk_new w base (held x) hb (held_le x), (Below.refl _ w).alloc (Nat.le_refl _) _, by simp⟩
/-- What the row of bytes is as a slice. -/
theorem own_slice {w : World} {base n : Nat} {v : Value} {xs : List Value} (h : w.ownsRow base 5 1 v n xs) : ∃ ao c, v = .slice ao n c := by
  rcases h.2 with ⟨h, h0⟩ | ⟨g', cap', cur, h, _⟩
  · exact ⟨none, 0, by rw [h, h0]⟩
  · exact ⟨_, _, h⟩

set_option maxHeartbeats 1000000 in
theorem awake_any (w : World) : Calls Try.prog 9 #[] w fun e w' => e = .returned (.bool true) ∧ Below w.heap.size w w' := by
  go_enter Try.func9, Try.ntmps9
  go_wp2_with fail
  refine (new_ok 9 w.heap.size _ (Nat.le_refl _)).mono ?_
  rintro e w1 ⟨rfl, hD, hb1, -⟩
  have hr : held 9 = 9 := by decide
  rw [hr] at hD
  clear hr
  have hb2 := (Below.refl _ w1).alloc (Nat.le_refl _) (Obj.cells #[.int .u8 97, .int .u8 98] 5 (2, 3))
  have hD2 := hD.below hb2 (Nat.le_refl _)
  have hB2 := bytes_ab w1
  have kc := Lib.run_convert_bytes_const (P := Try.prog) w1 38 5 #[.int .u8 97, .int .u8 98] 2 2 Try.underlying38 Try.underlying5
  have HB : Hid _ := hb1.trans (hb2.mono hb1.size)
  clear hD hb1 hb2
  have hsz := HB.out.size
  go_wp2_with fail
  refine (append_ok _ _ _ _ _ _ _ _ _ _ _ _ _ (orz_some _ _) hD2 hB2 (by decide) hsz).mono ?_
  rintro e w2 ⟨rfl, v2, h2, s2⟩
  have hb2 := HB.out.trans (hD2.stepBelow s2 hsz)
  clear hD2 hB2 HB hsz s2 kc
  go_wp2_with fail
  refine (bytes_any _ _ _ _ _ _ _ _ _ (orz_some _ _) h2).mono ?_
  rintro e w3 ⟨v3, rfl, h3, b3⟩
  have hcv := own_text h3
  have hD3 := h2.below b3 (Nat.le_refl _)
  have hb3 := hb2.trans (b3.mono hb2.size)
  obtain ⟨a3, c3, rfl⟩ := own_slice h3
  have hcv2 : (convert 38 9 (.slice a3 2 c3)).run Try.prog w3 = .ok (.string ⟨#[97, 98]⟩) w3 := hcv
  clear h2 b3 hb2 h3 hcv
  go_wp2_with fail
  refine (room_any _ _ _ _ _ _ _ _ _ (orz_some _ _) hD3).mono ?_
  rintro e w4 ⟨rfl, hw⟩
  subst hw
  clear hcv2 hD3
  go_wp2
  go_ret
  exact ⟨rfl, hb3⟩
end Go.Proofs.Ytcopjgincdbliaa
