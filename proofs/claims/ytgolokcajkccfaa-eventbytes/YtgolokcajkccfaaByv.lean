/-
  EventBytes: any event has the bytes that the document says, or none.
-/
import Derived.Test.YtgolokcajkccfaaRby
import Derived.Test.YtgolokcajkccfaaAwe
namespace Go.Proofs.Ytgolokcajkccfaa
open Go.RowKit

set_option maxHeartbeats 1000000 in
theorem bytes_no (e : Ev) (hl : e.deps.length = 16) (lk : Room e) (h : okev e = false) (w : World) :
    Calls Try.prog 4 #[.agg (evc e)] w fun e w' => e = .returned (.bool true) ∧ Below w.heap.size w w' := by
  obtain ⟨hE, hB⟩ := boxedE w e
  have H0 : Hid (Below w.heap.size w (w.alloc (.cells (evc e) 29))) := hB
  have HK : Hid _ := h
  clear hB h
  go_enter Try.func4, Try.ntmps4
  go_wp2_with fail
  refine (awake_any _).mono ?_
  rintro e1 w1 ⟨rfl, hb1⟩
  have E1 := hE.below hb1 hE.lt
  have H1 : Hid (Below w.heap.size w w1) := H0.out.trans (hb1.mono H0.out.size)
  clear hE hb1 H0
  go_wp2_with (refine load_ev rfl rfl rfl E1 hl ?_)
  refine (encode_no e hl lk HK.out _).mono ?_
  rintro e2 w2 ⟨rfl, hb2⟩
  have E2 := E1.below hb2 E1.lt
  have H2 : Hid (Below w.heap.size w w2) := H1.out.trans (hb2.mono H1.out.size)
  clear E1 hb2 H1
  go_wp2_with (refine load_ev rfl rfl rfl E2 hl ?_)
  refine (rencode_no e hl HK.out _).mono ?_
  rintro e3 w3 ⟨rfl, hb3⟩
  have H3 : Hid (Below w.heap.size w w3) := H2.out.trans (hb3.mono H2.out.size)
  have hcv := conv_of (Bytes.nil w3)
  rw [show (⟨([] : List UInt8).toArray⟩ : ByteArray) = sb [] from rfl] at hcv
  clear E2 hb3 H2
  generalize sb [] = q at *
  go_wp2
  go_ret
  exact ⟨rfl, H3.out⟩

set_option maxHeartbeats 1000000 in
theorem bytes_ok (e : Ev) (hl : e.deps.length = 16) (lk : Room e) (h : okev e = true) (w : World) :
    Calls Try.prog 4 #[.agg (evc e)] w fun e w' => e = .returned (.bool true) ∧ Below w.heap.size w w' := by
  obtain ⟨hE, hB⟩ := boxedE w e
  have H0 : Hid (Below w.heap.size w (w.alloc (.cells (evc e) 29))) := hB
  have HK : Hid _ := h
  clear hB h
  go_enter Try.func4, Try.ntmps4
  go_wp2_with fail
  refine (awake_any _).mono ?_
  rintro e1 w1 ⟨rfl, hb1⟩
  have E1 := hE.below hb1 hE.lt
  have H1 : Hid (Below w.heap.size w w1) := H0.out.trans (hb1.mono H0.out.size)
  clear hE hb1 H0
  go_wp2_with (refine load_ev rfl rfl rfl E1 hl ?_)
  refine (encode_ok e hl lk HK.out _).mono ?_
  rintro e2 w2 ⟨g, c, rfl, hby, hc, hb2⟩
  have E2 := E1.below hb2 E1.lt
  have H2 : Hid (Below w.heap.size w w2) := H1.out.trans (hb2.mono H1.out.size)
  have HY : Hid (Bytes w2 (some ⟨g, 0, none⟩) (evb e).length c (evb e)) := hby
  have HR : Hid (∀ W, Calls Try.prog 19 #[.agg (evc e)] W fun e' w' => e' = .returned (.tuple #[.string (sb (evb e)), .int .i64 0]) ∧ Below W.heap.size W w') := fun W => rencode_ok e hl HK.out W
  clear E1 hb2 H1 hby hc
  generalize evb e = q at *
  go_wp2_with (refine load_ev rfl rfl rfl E2 hl ?_)
  refine Calls.mono (HR.out _) ?_
  rintro e3 w3 ⟨rfl, hb3⟩
  have H3 : Hid (Below w.heap.size w w3) := H2.out.trans (hb3.mono H2.out.size)
  have hcv := conv_of (HY.out.below hb3 (Nat.le_refl _))
  rw [show (⟨q.toArray⟩ : ByteArray) = sb q from rfl] at hcv
  clear E2 hb3 H2 HY HR
  generalize sb q = p at *
  generalize q.length = m at *
  go_wp2
  go_ret
  exact ⟨rfl, H3.out⟩

theorem bytes_walk (e : Ev) (hl : e.deps.length = 16) (lk : Room e) (w : World) :
    Calls Try.prog 4 #[.agg (evc e)] w fun e w' => e = .returned (.bool true) ∧ Below w.heap.size w w' := by
  rcases Bool.eq_false_or_eq_true (okev e) with h | h
  · exact bytes_ok e hl lk h w
  · exact bytes_no e hl lk h w
end Go.Proofs.Ytgolokcajkccfaa
