/-
  What resp.Encode and Command come to; and the reference's.
-/
import Derived.Test.YtkhfplpplmnjiabDoorEnc
namespace Go.Proofs.YtkhfplpplmnjiabDoor
set_option maxRecDepth 100000
open Go.RowKit Go.Sort

/-- A reply's bytes. -/
def enc (kind : Int) (t : List UInt8) (n : Int) (S : List (List UInt8)) : List UInt8 :=
  if kind = 1 then Rs.ln [43] (Rs.flat t) else if kind = 2 then Rs.ln [45] (Rs.flat t) else if kind = 3 then Rs.ln [58] (Lib.itoa n) else if kind = 4 then Rs.bulk t else if kind = 5 then Rs.ln [36] [45, 49] else if kind = 6 then Rs.many S else []

theorem k_ne {k : Int} {n : Int} (h : k ≠ n) : (k == n) = false := by rw [beq_eq_false_iff_ne]; exact h
def rep (kind : Int) (t : ByteArray) (n : Int) (ao : Option Addr) (m c : Nat) : Value := .agg #[.int .i64 kind, .string t, .int .i64 n, .slice ao m c]

set_option maxHeartbeats 2000000 in
theorem encode_any (kind : Int) (t : ByteArray) (n : Int) (ao : Option Addr) (m c : Nat) (S : List ByteArray) (w : World) (ht : t.size ≤ 3000) (h0 : -9223372036854775808 ≤ n) (h1 : n ≤ 9223372036854775807) (hT : Txts w ao m c S) (hf : few3 S) (hw : Tab w) :
    Calls Tryd.prog 9 #[.agg #[.int .i64 kind, .string t, .int .i64 n, .slice ao m c]] w fun e w' => ∃ v, e = .returned v ∧ Made w' w.heap.size v (enc kind t.data.toList n (dl S)) ∧ Below w.heap.size w w' := by
  have hbx : ∀ o : Obj, Below w.heap.size w (w.alloc o) := fun o => (Below.refl _ _).alloc (Nat.le_refl _) o
  have hil := Lib.itoa_length_le n h0 h1
  by_cases k1 : kind = 1
  · subst k1
    have he : enc 1 t.data.toList n (dl S) = Rs.ln [43] (Rs.flat t.data.toList) := rfl
    rw [he]
    clear hT hf
    go_enter Tryd.func9, Tryd.ntmps9
    go_wp2_with fail
    refine Calls.mono (flat_any t (by omega) _) ?_
    rintro e w1 ⟨rfl, hb1⟩
    have hb1' := (hbx _).trans (hb1.mono (hbx _).size)
    go_wp2_with fail
    refine Calls.mono (putline_lit w.heap.size (.slice none 0 0) [] [43] (Rs.flat t.data.toList) w1 (World.ownsRow_nil w1 _ _ _) hb1'.size (by rw [flat_len, lsize]; simp only [List.length_nil, List.length_cons]; omega)) ?_
    rintro e w2 ⟨v, rfl, hM, hb2⟩
    go_wp2
    go_ret
    exact ⟨_, rfl, hM, hb1'.trans hb2⟩
  have j1 := k_ne k1
  by_cases k2 : kind = 2
  · subst k2
    have he : enc 2 t.data.toList n (dl S) = Rs.ln [45] (Rs.flat t.data.toList) := rfl
    rw [he]
    clear hT hf
    go_enter Tryd.func9, Tryd.ntmps9
    go_wp2_with fail
    refine Calls.mono (flat_any t (by omega) _) ?_
    rintro e w1 ⟨rfl, hb1⟩
    have hb1' := (hbx _).trans (hb1.mono (hbx _).size)
    go_wp2_with fail
    refine Calls.mono (putline_lit w.heap.size (.slice none 0 0) [] [45] (Rs.flat t.data.toList) w1 (World.ownsRow_nil w1 _ _ _) hb1'.size (by rw [flat_len, lsize]; simp only [List.length_nil, List.length_cons]; omega)) ?_
    rintro e w2 ⟨v, rfl, hM, hb2⟩
    go_wp2
    go_ret
    exact ⟨_, rfl, hM, hb1'.trans hb2⟩
  have j2 := k_ne k2
  by_cases k3 : kind = 3
  · subst k3
    have he : enc 3 t.data.toList n (dl S) = Rs.ln [58] (Lib.itoa n) := rfl
    rw [he]
    clear hT hf
    go_enter Tryd.func9, Tryd.ntmps9
    go_wp2_with fail
    refine Calls.mono (itoa_any n h0 h1 _ (hw.below (hbx _))) ?_
    rintro e w1 ⟨rfl, hb1⟩
    have hb1' := (hbx _).trans (hb1.mono (hbx _).size)
    go_wp2_with fail
    refine Calls.mono (putline_lit w.heap.size (.slice none 0 0) [] [58] (Lib.itoa n) w1 (World.ownsRow_nil w1 _ _ _) hb1'.size (by simp only [List.length_nil, List.length_cons]; omega)) ?_
    rintro e w2 ⟨v, rfl, hM, hb2⟩
    go_wp2
    go_ret
    exact ⟨_, rfl, hM, hb1'.trans hb2⟩
  have j3 := k_ne k3
  by_cases k4 : kind = 4
  · subst k4
    have he : enc 4 t.data.toList n (dl S) = Rs.bulk t.data.toList := rfl
    rw [he]
    clear hT hf
    go_enter Tryd.func9, Tryd.ntmps9
    go_wp2_with fail
    refine Calls.mono (putbulk_any w.heap.size (.slice none 0 0) [] t _ (World.ownsRow_nil _ _ _ _) (hbx _).size (by decide) (by omega) (hw.below (hbx _))) ?_
    rintro e w2 ⟨v, rfl, hM, hb2⟩
    go_wp2
    go_ret
    exact ⟨_, rfl, hM, (hbx _).trans hb2⟩
  have j4 := k_ne k4
  by_cases k5 : kind = 5
  · subst k5
    have he : enc 5 t.data.toList n (dl S) = Rs.ln [36] [45, 49] := rfl
    rw [he]
    clear hT hf
    go_enter Tryd.func9, Tryd.ntmps9
    go_wp2_with fail
    refine Calls.mono (putline_lit w.heap.size (.slice none 0 0) [] [36] [45, 49] _ (World.ownsRow_nil _ _ _ _) (hbx _).size (by decide)) ?_
    rintro e w2 ⟨v, rfl, hM, hb2⟩
    go_wp2
    go_ret
    exact ⟨_, rfl, hM, (hbx _).trans hb2⟩
  have j5 := k_ne k5
  by_cases k6 : kind = 6
  · subst k6
    have he : enc 6 t.data.toList n (dl S) = Rs.many (dl S) := rfl
    rw [he]
    go_enter Tryd.func9, Tryd.ntmps9
    go_wp2_with fail
    refine Calls.mono (putmany_any ao m c S _ (hT.below (hbx _) (Nat.le_refl _)) hf (hw.below (hbx _))) ?_
    rintro e w2 ⟨v, rfl, hM, hb2⟩
    go_wp2
    go_ret
    exact ⟨_, rfl, own_rebase hM (hbx _).size, (hbx _).trans (hb2.mono (hbx _).size)⟩
  have j6 := k_ne k6
  have he : enc kind t.data.toList n (dl S) = [] := by
    rw [enc, if_neg k1, if_neg k2, if_neg k3, if_neg k4, if_neg k5, if_neg k6]
  rw [he]
  clear hT hf
  go_enter Tryd.func9, Tryd.ntmps9
  go_wp2
  go_ret
  exact ⟨_, rfl, World.ownsRow_nil _ _ _ _, hbx _⟩
end Go.Proofs.YtkhfplpplmnjiabDoor
