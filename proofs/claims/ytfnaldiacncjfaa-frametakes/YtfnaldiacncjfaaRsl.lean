/-
  What the reference's Seal and Open come to.
-/
import Derived.Test.YtfnaldiacncjfaaRof
import Derived.Test.YtfnaldiacncjfaaSea
namespace Go.Proofs.Ytfnaldiacncjfaa
open Go.RowKit

/-- A text with its check behind. -/
def stx (b : ByteArray) : ByteArray := b ++ ⟨#[Ck.hi (Ck.crc b.data.toList), Ck.lo (Ck.crc b.data.toList)]⟩
theorem stx_list (b : ByteArray) : (stx b).data.toList = Ck.sealed b.data.toList := by
  rw [stx, ByteArray.data_append, Array.toList_append]; rfl
theorem stx_size (b : ByteArray) : (stx b).size = b.size + 2 := by rw [stx, ByteArray.size_append]; rfl

theorem conv_two (w : World) (y : BitVec 16) :
    (convert 23 9 (.slice (some ⟨w.heap.size, 0, none⟩) 2 2)).run Try.prog (w.alloc (Obj.cells #[Value.int .u8 ((y.toNat : Int) / 256), Value.int .u8 ((y.toNat : Int) % 256)] 5)) =
      .ok (.string ⟨#[Ck.hi y, Ck.lo y]⟩) (w.alloc (Obj.cells #[Value.int .u8 ((y.toNat : Int) / 256), Value.int .u8 ((y.toNat : Int) % 256)] 5)) := by
  refine run_convert_bytes_back _ 23 9 5 ⟨w.heap.size, 0, none⟩ 2 [Ck.hi y, Ck.lo y] Try.underlying23 Try.underlying5 Try.underlying9 ?_
  intro j hj
  refine new_two w _ _ j _ ?_
  rw [← bs_two, bs, List.getElem?_map, List.getElem?_eq_getElem hj]
  rfl

set_option maxHeartbeats 400000 in
theorem rseal_any (b : ByteArray) (hb : b.size ≤ 1048576) (w : World) :
    Calls Try.prog 24 #[.string b] w fun e w' => e = .returned (.string (stx b)) ∧ Below w.heap.size w w' := by
  have Hof : Hid _ := rof_any b (by unfold maxLen; omega) w
  have hx : (Ck.crc b.data.toList).toNat < 65536 := (Ck.crc b.data.toList).isLt
  have Hx : Hid (stx b = b ++ ⟨#[Ck.hi (Ck.crc b.data.toList), Ck.lo (Ck.crc b.data.toList)]⟩) := rfl
  have hcv := conv_two w (Ck.crc b.data.toList)
  have hsz : (⟨#[Ck.hi (Ck.crc b.data.toList), Ck.lo (Ck.crc b.data.toList)]⟩ : ByteArray).size = 2 := rfl
  generalize (⟨#[Ck.hi (Ck.crc b.data.toList), Ck.lo (Ck.crc b.data.toList)]⟩ : ByteArray) = t at *
  generalize (Ck.crc b.data.toList).toNat = n at *
  have a1 : ¬ 9223372036854775807 < b.size + 2 := by omega
  go_enter Try.func24, Try.ntmps24
  go_wp2_with fail
  refine Calls.mono Hof.out ?_
  rintro e w1 ⟨rfl, hw⟩
  obtain rfl := hw.symm
  go_wp2
  go_ret
  rw [Hx.out]
  exact ⟨rfl, (Below.refl _ _).alloc (Nat.le_refl _) _⟩

theorem Ck.parts_two (l : List UInt8) (m : Nat) (h : l.length = m + 2) : l = l.take m ++ [l.getD m 0, l.getD (m + 1) 0] := by
  have h1 : l.drop m = [l.getD m 0, l.getD (m + 1) 0] := by
    rw [List.drop_eq_getElem_cons (by omega), List.drop_eq_getElem_cons (by omega), List.drop_eq_nil_of_le (by omega)]
    simp [List.getD, show m < l.length by omega, show m + 1 < l.length by omega]
  rw [← h1, List.take_append_drop]
theorem Ck.hi_word (a b : UInt8) : Ck.hi (Ck.word a b) = a := by
  have ha := a.toNat_lt
  have hb := b.toNat_lt
  apply UInt8.toNat_inj.1
  rw [Ck.hi, Ck.word, BitVec.toNat_ofNat, toNat_ofNat_lt _ (by omega)]
  omega
theorem Ck.lo_word (a b : UInt8) : Ck.lo (Ck.word a b) = b := by
  have ha := a.toNat_lt
  have hb := b.toNat_lt
  apply UInt8.toNat_inj.1
  rw [Ck.lo, Ck.word, BitVec.toNat_ofNat, toNat_ofNat_lt _ (by omega)]
  omega
theorem Ck.sealed_iff (l : List UInt8) (m : Nat) (h : l.length = m + 2) : Ck.sealed (l.take m) = l ↔ Ck.crc (l.take m) = Ck.word (l.getD m 0) (l.getD (m + 1) 0) := by
  constructor
  · intro e
    have h2 := Ck.parts_two l m h
    rw [Ck.sealed] at e
    have h3 := e.trans h2
    have h4 := List.append_cancel_left h3
    simp only [List.cons.injEq, and_true] at h4
    rw [← h4.1, ← h4.2, Fr.word_hi_lo]
  · intro e
    rw [Ck.sealed, e, Ck.hi_word, Ck.lo_word]
    exact (Ck.parts_two l m h).symm
theorem ext_list (b : ByteArray) (k : Nat) : (b.extract 0 k).data.toList = b.data.toList.take k := by simp
theorem stx_eq (b : ByteArray) (m : Nat) (h : b.size = m + 2) : ((stx (b.extract 0 m)).toList == b.toList) = decide (Ck.crc (b.data.toList.take m) = Ck.word (b.data.toList.getD m 0) (b.data.toList.getD (m + 1) 0)) := by
  have hl : b.data.toList.length = m + 2 := by rw [Array.length_toList]; exact h
  rw [Bool.eq_iff_iff, beq_iff_eq, decide_eq_true_eq, ByteArray.toList_eq, ByteArray.toList_eq, stx_list, ext_list]
  exact Ck.sealed_iff _ m hl

set_option maxHeartbeats 400000 in
theorem ropen_few (b : ByteArray) (hb : b.size < 2) (w : World) :
    Calls Try.prog 22 #[.string b] w fun e w' => e = .returned (.tuple #[.string ByteArray.empty, .bool false]) ∧ w' = w := by
  have h2 : (b.size : Int) < 2 := by omega
  go_enter Try.func22, Try.ntmps22
  go_wp2
  go_ret2
  exact ⟨rfl, rfl⟩

set_option maxHeartbeats 400000 in
theorem ropen_no (b : ByteArray) (m : Nat) (h : b.size = m + 2) (hm : m ≤ 1048576) (hne : Ck.crc (b.data.toList.take m) ≠ Ck.word (b.data.toList.getD m 0) (b.data.toList.getD (m + 1) 0)) (w : World) :
    Calls Try.prog 22 #[.string b] w fun e w' => e = .returned (.tuple #[.string ByteArray.empty, .bool false]) ∧ Below w.heap.size w w' := by
  have he := stx_eq b m h
  rw [decide_eq_false hne] at he
  have hx : (b.extract 0 m).size = m := by rw [ByteArray.size_extract]; omega
  have Hs : Hid _ := rseal_any (b.extract 0 m) (by omega) w
  have hsz : (b.size : Int) = (m : Int) + 2 := by omega
  clear hne
  go_enter Try.func22, Try.ntmps22
  go_wp2_with fail
  refine Calls.mono Hs.out ?_
  rintro e w1 ⟨rfl, hb1⟩
  go_wp2
  go_ret2
  exact ⟨rfl, hb1⟩

set_option maxHeartbeats 400000 in
theorem ropen_yes (b : ByteArray) (m : Nat) (h : b.size = m + 2) (hm : m ≤ 1048576) (hne : Ck.crc (b.data.toList.take m) = Ck.word (b.data.toList.getD m 0) (b.data.toList.getD (m + 1) 0)) (w : World) :
    Calls Try.prog 22 #[.string b] w fun e w' => e = .returned (.tuple #[.string (b.extract 0 m), .bool true]) ∧ Below w.heap.size w w' := by
  have he := stx_eq b m h
  rw [decide_eq_true hne] at he
  have hx : (b.extract 0 m).size = m := by rw [ByteArray.size_extract]; omega
  have Hs : Hid _ := rseal_any (b.extract 0 m) (by omega) w
  have hsz : (b.size : Int) = (m : Int) + 2 := by omega
  clear hne
  go_enter Try.func22, Try.ntmps22
  go_wp2_with fail
  refine Calls.mono Hs.out ?_
  rintro e w1 ⟨rfl, hb1⟩
  go_wp2
  go_ret2
  exact ⟨rfl, hb1⟩
end Go.Proofs.Ytfnaldiacncjfaa
