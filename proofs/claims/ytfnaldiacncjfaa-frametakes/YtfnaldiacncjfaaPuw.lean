/-
  FramePuts: any body has the frame that the document says, or none. For every input.
-/
import Derived.Test.YtfnaldiacncjfaaAwf
import Derived.Test.YtfnaldiacncjfaaRsl
namespace Go.Proofs.Ytfnaldiacncjfaa
open Go.RowKit

theorem conv_any {w : World} {ao : Option Addr} {m c : Nat} {t : ByteArray} (h : Bytes w ao m c t.data.toList) :
    (convert 23 9 (.slice ao m c)).run Try.prog w = .ok (.string t) w := by
  cases ao with
  | none =>
    obtain ⟨rfl, rfl⟩ := h.none rfl
    have ht : t = ByteArray.empty := by
      have h0 : t.data.toList = [] := List.eq_nil_of_length_eq_zero h.len
      obtain ⟨d⟩ := t
      have : d = #[] := Array.toList_inj.1 h0
      rw [this]; rfl
    rw [ht, run_convert_bytes_string w 23 9 5 _ 0 0 Try.underlying23 Try.underlying5 Try.underlying9]
    simp [Conv.bytesToString]
  | some ad =>
    have hl := h.len
    subst hl
    refine run_convert_bytes_back w 23 9 5 ad c t.data.toList Try.underlying23 Try.underlying5 Try.underlying9 ?_
    intro j hj
    refine h.cells ad rfl j _ ?_
    rw [bs, List.getElem?_map, List.getElem?_eq_getElem hj]
    rfl

/-- A body's frame, as a text. -/
def ftx (b : ByteArray) : ByteArray := stx ⟨(Fr.two b.size).toArray⟩ ++ stx b
theorem ftx_list (b : ByteArray) : (ftx b).data.toList = Fr.frame b.data.toList := by
  have h : b.data.toList.length = b.size := by rw [Array.length_toList]; rfl
  rw [ftx, ByteArray.data_append, Array.toList_append, stx_list, stx_list, Fr.frame, h]

theorem conv_len (w : World) (n : Nat) (h : n ≤ 65529) :
    (convert 23 9 (.slice (some ⟨w.heap.size, 0, none⟩) 2 2)).run Try.prog (w.alloc (Obj.cells #[Value.int .u8 ((n : Int) / 256), Value.int .u8 ((n : Int) % 256)] 5)) =
      .ok (.string ⟨(Fr.two n).toArray⟩) (w.alloc (Obj.cells #[Value.int .u8 ((n : Int) / 256), Value.int .u8 ((n : Int) % 256)] 5)) := by
  refine run_convert_bytes_back _ 23 9 5 ⟨w.heap.size, 0, none⟩ 2 (Fr.two n) Try.underlying23 Try.underlying5 Try.underlying9 ?_
  intro j hj
  refine new_two w _ _ j _ ?_
  rw [← two_bs n h, bs, List.getElem?_map, List.getElem?_eq_getElem hj]
  rfl

set_option maxHeartbeats 1000000 in
theorem rframe_any (b : ByteArray) (hb : b.size ≤ 65529) (w : World) :
    Calls Try.prog 19 #[.string b] w fun e w' => e = .returned (.string (ftx b)) ∧ Below w.heap.size w w' := by
  have hcv := conv_len w b.size hb
  have Hs : Hid _ := rseal_any ⟨(Fr.two b.size).toArray⟩ (by show 2 ≤ _; omega) (w.alloc (Obj.cells #[Value.int .u8 ((b.size : Int) / 256), Value.int .u8 ((b.size : Int) % 256)] 5))
  have HF : Hid (ftx b = stx ⟨(Fr.two b.size).toArray⟩ ++ stx b) := rfl
  have z1 : (stx ⟨(Fr.two b.size).toArray⟩).size = 4 := by rw [stx_size]; rfl
  have z2 := stx_size b
  generalize (⟨(Fr.two b.size).toArray⟩ : ByteArray) = t at *
  generalize stx t = t1 at *
  go_enter Try.func19, Try.ntmps19
  go_wp2_with fail
  refine Calls.mono Hs.out ?_
  rintro e w1 ⟨rfl, hb1⟩
  go_wp2_with fail
  refine (rseal_any b (by omega) _).mono ?_
  rintro e w2 ⟨rfl, hb2⟩
  have hbel := (Below.refl w.heap.size w).alloc (Nat.le_refl _) (Obj.cells #[Value.int .u8 ((b.size : Int) / 256), Value.int .u8 ((b.size : Int) % 256)] 5)
  have hbel1 := hbel.trans (hb1.mono hbel.size)
  have hbel2 := hbel1.trans (hb2.mono hbel1.size)
  clear Hs hcv
  have a1 : ¬ 9223372036854775807 < 4 + (b.size + 2) := by omega
  go_wp2
  go_ret
  rw [HF.out]
  exact ⟨rfl, hbel2⟩

set_option maxHeartbeats 1000000 in
theorem rput_ok (b : ByteArray) (hb : b.size ≤ 65529) (w : World) :
    Calls Try.prog 11 #[.string b] w fun e w' => e = .returned (.tuple #[.string (ftx b), .int .i64 0]) ∧ Below w.heap.size w w' := by
  have h : ¬ (65529 : Int) < (b.size : Int) := by omega
  have Hs : Hid _ := rframe_any b hb w
  go_enter Try.func11, Try.ntmps11
  go_wp2_with fail
  refine Calls.mono Hs.out ?_
  rintro e w1 ⟨rfl, hb1⟩
  go_wp2
  go_ret2
  exact ⟨rfl, hb1⟩
set_option maxHeartbeats 1000000 in
theorem rput_long (b : ByteArray) (hb : 65529 < b.size) (hm : b.size ≤ 100000) (w : World) :
    Calls Try.prog 11 #[.string b] w fun e w' => e = .returned (.tuple #[.string ByteArray.empty, .int .i64 4]) ∧ w' = w := by
  have h : (65529 : Int) < (b.size : Int) := by omega
  go_enter Try.func11, Try.ntmps11
  go_wp2
  go_ret2
  exact ⟨rfl, rfl⟩

set_option maxHeartbeats 1000000 in
theorem puts_walk (b : ByteArray) (hb : b.size ≤ maxLen) (w : World) :
    Calls Try.prog 3 #[.string b] w fun e w' => e = .returned (.bool true) ∧ Below w.heap.size w w' := by
  have hbm := hb
  unfold maxLen at hbm
  by_cases h : b.size ≤ 100000
  · have hgt : ¬ (100000 : Int) < (b.size : Int) := by omega
    by_cases hl : b.size ≤ 65529
    · go_enter Try.func3, Try.ntmps3
      go_wp2_with fail
      refine (awake_any _).mono ?_
      rintro e w1 ⟨rfl, hb1⟩
      obtain ⟨cap, w2, hcv, hB2, hcap, hb2, hz2⟩ := conv_bytes b w1 hb
      go_wp2_with fail
      refine (put_ok _ _ _ _ _ hB2 hl).mono ?_
      rintro e w3 ⟨g3, rfl, hown3, hb3⟩
      go_wp2_with fail
      refine (rput_ok b hl _).mono ?_
      rintro e w4 ⟨rfl, hb4⟩
      have B4 := Bytes.own (own_below hown3 hb4)
      rw [← ftx_list] at B4
      have hc := conv_any B4
      have s2 := hb1.trans (hb2.mono hb1.size)
      have s3 := s2.trans (hb3.mono s2.size)
      have s4 := s3.trans (hb4.mono s3.size)
      clear hcv hB2 hcap hb2 hz2 hown3 hb3 B4 s2 s3 hb1
      go_wp2
      go_ret
      exact ⟨rfl, s4⟩
    · go_enter Try.func3, Try.ntmps3
      go_wp2_with fail
      refine (awake_any _).mono ?_
      rintro e w1 ⟨rfl, hb1⟩
      obtain ⟨cap, w2, hcv, hB2, hcap, hb2, hz2⟩ := conv_bytes b w1 hb
      go_wp2_with fail
      refine (put_long _ _ _ _ (by omega) hb).mono ?_
      rintro e w3 ⟨rfl, hw⟩
      obtain rfl := hw.symm
      clear hw
      go_wp2_with fail
      refine (rput_long b (by omega) h _).mono ?_
      rintro e w4 ⟨rfl, hw⟩
      obtain rfl := hw.symm
      have hc := conv_any (w := w2) (t := ByteArray.empty) (Bytes.nil w2)
      have s2 := hb1.trans (hb2.mono hb1.size)
      clear hcv hB2 hcap hb2 hz2 hb1
      go_wp2
      go_ret
      exact ⟨rfl, s2⟩
  · have hgt : (100000 : Int) < (b.size : Int) := by omega
    go_enter Try.func3, Try.ntmps3
    go_wp2_with fail
    refine (awake_any _).mono ?_
    rintro e w1 ⟨rfl, hb1⟩
    go_wp2_with fail
    refine (awake_any _).mono ?_
    rintro e w2 ⟨rfl, hb2⟩
    go_wp2
    go_ret
    exact ⟨rfl, hb1.trans (hb2.mono hb1.size)⟩
end Go.Proofs.Ytfnaldiacncjfaa
