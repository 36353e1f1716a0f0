/-
  VlqPuts: any number, any text, any number with a sign is put behind any bytes as the document says. Asked: that each text is of at most 1048576 bytes.
-/
import Derived.Test.YtjfbmjdeohlpjaaRin
import Derived.Test.YtjfbmjdeohlpjaaAwk
import Derived.Test.YtjfbmjdeohlpjaaRgn
namespace Go.Proofs.Ytjfbmjdeohlpjaa
open Go.RowKit

/-- Bytes behind a text. -/
def glue (b : ByteArray) (l : List UInt8) : ByteArray := ⟨(b.data.toList ++ l).toArray⟩
theorem conv_glue {w : World} {base g cap : Nat} {b : ByteArray} {n : Nat} (h : w.ownsRow base 5 1 (.slice (some ⟨g, 0, none⟩) (b.size + Vq.wd n) cap) (b.size + Vq.wd n) (bs (b.data.toList ++ Vq.num n))) :
    (convert 24 9 (.slice (some ⟨g, 0, none⟩) (b.size + Vq.wd n) cap)).run Try.prog w = .ok (.string (glue b (Vq.num n))) w := conv_own h
theorem conv_glue2 {w : World} {base g cap : Nat} {b s : ByteArray} (h : w.ownsRow base 5 1 (.slice (some ⟨g, 0, none⟩) (b.size + Vq.wd s.size + s.size) cap) (b.size + Vq.wd s.size + s.size) (bs (b.data.toList ++ Vq.num s.size ++ s.data.toList))) :
    (convert 24 9 (.slice (some ⟨g, 0, none⟩) (b.size + Vq.wd s.size + s.size) cap)).run Try.prog w = .ok (.string (glue b (Vq.num s.size ++ s.data.toList))) w := by
  rw [List.append_assoc] at h
  exact conv_own h
theorem glue_num (b : ByteArray) (n : Nat) : ((glue b (Vq.num n)).toList == (b ++ txt n).toList) = true := by
  rw [beq_iff_eq, ByteArray.toList_eq, ByteArray.toList_eq, ByteArray.data_append]
  simp [glue, txt]
theorem glue_text (b s : ByteArray) : ((glue b (Vq.num s.size ++ s.data.toList)).toList == (b ++ ttx s).toList) = true := by
  rw [beq_iff_eq, ByteArray.toList_eq, ByteArray.toList_eq, ByteArray.data_append]
  simp [glue, txt, ttx, ByteArray.data_append]

set_option maxHeartbeats 1000000 in
theorem puts_walk (b : ByteArray) (u : Nat) (s : ByteArray) (n : Int) (w : World) (hb : b.size ≤ 1048576) (hu : u < 18446744073709551616) (hs : s.size ≤ 1048576) (hn : -9223372036854775808 ≤ n ∧ n ≤ 9223372036854775807) :
    Calls Try.prog 3 #[.string b, .int .u64 (u : Int), .string s, .int .i64 n] w fun e w' => e = .returned (.bool true) ∧ Below w.heap.size w w' := by
  have z1 := txt_size u
  have z2 := ttx_size s
  have z3 := txt_size (zig n)
  have y1 := Vq.wd_le u
  have y2 := Vq.wd_le s.size
  have y3 := Vq.wd_le (zig n)
  have a1 : ¬ 9223372036854775807 < b.size + Vq.wd u := by omega
  have a2 : ¬ 9223372036854775807 < b.size + (Vq.wd s.size + s.size) := by omega
  have a3 : ¬ 9223372036854775807 < b.size + Vq.wd (zig n) := by omega
  have e1 := glue_num b u
  have e2 := glue_text b s
  have e3 := glue_num b (zig n)
  go_enter Try.func3, Try.ntmps3
  go_wp2_with fail
  refine (awake_any _).mono ?_
  rintro e w1 ⟨rfl, hb1⟩
  go_wp2_with fail
  refine wp_region_noPanic ?_
  refine wp_region_held_drew (S := fun _ => True) (by kernel_rfl) trivial (fun hHeld => ?_)
  refine wpAnyH_take (i := 0) (oi := { dst := some 11, op := _, type := _, pos := _, after := _, guard := _ }) (v := ?_) rfl (by kernel_rfl) (by kernel_rfl) (by kernel_rfl) (fun _ _ _ h => h) (Or.inl ⟨by rfl, ?_⟩) (by assumption) ?_
  rotate_left
  · intro w hSw
    go_simp <;> with_reducible rfl
  simp only [Act.put, List.setIfInBounds_toArray, List.set_cons_zero, List.set_cons_succ]
  refine wpAnyH_take (i := 2) (oi := { dst := some 13, op := _, type := _, pos := _, after := _, guard := _ }) (v := ?_) rfl (by kernel_rfl) (by kernel_rfl) (by kernel_rfl) (fun _ _ _ h => h) (Or.inl ⟨by rfl, ?_⟩) (by assumption) ?_
  rotate_left
  · intro w hSw
    go_simp <;> with_reducible rfl
  simp only [Act.put, List.setIfInBounds_toArray, List.set_cons_zero, List.set_cons_succ]
  refine wpAnyH_take (i := 5) (oi := { dst := some 16, op := _, type := _, pos := _, after := _, guard := _ }) (v := ?_) rfl (by kernel_rfl) (by kernel_rfl) (by kernel_rfl) (fun _ _ _ h => h) (Or.inl ⟨by rfl, ?_⟩) (by assumption) ?_
  rotate_left
  · intro w hSw
    go_simp <;> with_reducible rfl
  simp only [Act.put, List.setIfInBounds_toArray, List.set_cons_zero, List.set_cons_succ]
  refine wpAnyH_take (i := 6) (oi := { dst := some 17, op := _, type := _, pos := _, after := _, guard := _ }) (v := ?_) rfl (by kernel_rfl) (by kernel_rfl) (by kernel_rfl) (fun _ _ _ h => h) (Or.inl ⟨by rfl, ?_⟩) (by assumption) ?_
  rotate_left
  · intro w hSw
    go_simp <;> with_reducible rfl
  simp only [Act.put, List.setIfInBounds_toArray, List.set_cons_zero, List.set_cons_succ]
  obtain ⟨cap, w3, hrun, hby, hcap, hb3, _⟩ := conv_bytes b w1.drew (by unfold maxLen; omega)
  refine wpAnyH_ready (rs := [1]) (by kernel_rfl) (by simp) ?_
  refine AllReadyH.cons (o := { dst := some 12, op := _, type := _, pos := _, after := _, guard := _ }) rfl (fun K hK => ?_) AllReadyH.nil
  go_simp
  refine hK.out _ _ (trivial) (fun hHeld => ?_)
  clear hK K
  clear hrun
  refine wpAnyH_ready (rs := [3]) (by kernel_rfl) (by simp) ?_
  refine AllReadyH.cons (o := { dst := some 14, op := _, type := _, pos := _, after := _, guard := _ }) rfl (fun K hK => ?_) AllReadyH.nil
  go_simp
  refine (put_any _ _ _ _ u _ hby (by omega) hu).mono ?_
  rintro e w4 ⟨g1, rfl, hown1, hb4⟩
  refine hK.out _ _ (trivial) (fun hHeld => ?_)
  clear hK K
  refine held_more (S' := fun w0 => w0.ownsRow w3.heap.size 5 1 (.slice (some ⟨g1, 0, none⟩) (b.size + Vq.wd u) (b.size + Vq.wd u)) (b.size + Vq.wd u) (bs (b.data.toList ++ Vq.num u))) (fun _ _ => by first | trivial | (rename_i h; exact h.1)) _ _ _ _ ?_
  have hS1 := hown1
  refine wpAnyH_take (i := 4) (oi := { dst := some 15, op := _, type := _, pos := _, after := _, guard := _ }) (v := ?_) rfl (by kernel_rfl) (by kernel_rfl) (by kernel_rfl) (fun _ _ _ h => h) (Or.inl ⟨by rfl, ?_⟩) (by assumption) ?_
  rotate_left
  · intro w hSw
    have hc := conv_glue hSw
    go_simp <;> with_reducible rfl
  simp only [Act.put, List.setIfInBounds_toArray, List.set_cons_zero, List.set_cons_succ]
  refine wpAnyH_ready (rs := [7]) (by kernel_rfl) (by simp) ?_
  refine AllReadyH.cons (o := { dst := some 18, op := _, type := _, pos := _, after := _, guard := _ }) rfl (fun K hK => ?_) AllReadyH.nil
  go_simp
  refine (number_any u _ hu).mono ?_
  rintro e w5 ⟨rfl, hb5⟩
  have hS1 := own_below hS1 hb5
  refine hK.out _ _ (hS1) (fun hHeld => ?_)
  clear hK K
  refine wpAnyH_take (i := 8) (oi := { dst := some 19, op := _, type := _, pos := _, after := _, guard := _ }) (v := ?_) rfl (by kernel_rfl) (by kernel_rfl) (by kernel_rfl) (fun _ _ _ h => h) (Or.inl ⟨by rfl, ?_⟩) (by assumption) ?_
  rotate_left
  · intro w hSw
    go_simp <;> with_reducible rfl
  simp only [Act.put, List.setIfInBounds_toArray, List.set_cons_zero, List.set_cons_succ]
  refine wpAnyH_take (i := 9) (oi := { dst := some 20, op := _, type := _, pos := _, after := _, guard := _ }) (v := ?_) rfl (by kernel_rfl) (by kernel_rfl) (by kernel_rfl) (fun _ _ _ h => h) (Or.inl ⟨by rfl, ?_⟩) (by assumption) ?_
  rotate_left
  · intro w hSw
    go_simp <;> with_reducible rfl
  simp only [Act.put, List.setIfInBounds_toArray, List.set_cons_zero, List.set_cons_succ]
  refine wpAnyH_take (i := 10) (oi := { dst := some 21, op := _, type := _, pos := _, after := _, guard := _ }) (v := ?_) rfl (by kernel_rfl) (by kernel_rfl) (by kernel_rfl) (fun _ _ _ h => h) (Or.inl ⟨by rfl, ?_⟩) (by assumption) ?_
  rotate_left
  · intro w hSw
    go_simp <;> with_reducible rfl
  simp only [Act.put, List.setIfInBounds_toArray, List.set_cons_zero, List.set_cons_succ]
  refine wpAnyH_take (i := 11) (oi := { dst := some 22, op := _, type := _, pos := _, after := _, guard := _ }) (v := ?_) rfl (by kernel_rfl) (by kernel_rfl) (by kernel_rfl) (fun _ _ _ h => h) (Or.inl ⟨by rfl, ?_⟩) (by assumption) ?_
  rotate_left
  · intro w hSw
    go_simp <;> with_reducible rfl
  simp only [Act.put, List.setIfInBounds_toArray, List.set_cons_zero, List.set_cons_succ]
  refine wpAnyH_take (i := 13) (oi := { dst := some 24, op := _, type := _, pos := _, after := _, guard := _ }) (v := ?_) rfl (by kernel_rfl) (by kernel_rfl) (by kernel_rfl) (fun _ _ _ h => h) (Or.inl ⟨by rfl, ?_⟩) (by assumption) ?_
  rotate_left
  · intro w hSw
    go_simp <;> with_reducible rfl
  simp only [Act.put, List.setIfInBounds_toArray, List.set_cons_zero, List.set_cons_succ]
  refine wpAnyH_take (i := 16) (oi := { dst := some 27, op := _, type := _, pos := _, after := _, guard := _ }) (v := ?_) rfl (by kernel_rfl) (by kernel_rfl) (by kernel_rfl) (fun _ _ _ h => h) (Or.inl ⟨by rfl, ?_⟩) (by assumption) ?_
  rotate_left
  · intro w hSw
    go_simp <;> with_reducible rfl
  simp only [Act.put, List.setIfInBounds_toArray, List.set_cons_zero, List.set_cons_succ]
  refine wpAnyH_take (i := 17) (oi := { dst := some 28, op := _, type := _, pos := _, after := _, guard := _ }) (v := ?_) rfl (by kernel_rfl) (by kernel_rfl) (by kernel_rfl) (fun _ _ _ h => h) (Or.inl ⟨by rfl, ?_⟩) (by assumption) ?_
  rotate_left
  · intro w hSw
    go_simp <;> with_reducible rfl
  simp only [Act.put, List.setIfInBounds_toArray, List.set_cons_zero, List.set_cons_succ]
  obtain ⟨cap5, w6, hrun, hby6, hcap6, hb6, _⟩ := conv_bytes b w5 (by unfold maxLen; omega)
  refine wpAnyH_ready (rs := [12]) (by kernel_rfl) (by simp) ?_
  refine AllReadyH.cons (o := { dst := some 23, op := _, type := _, pos := _, after := _, guard := _ }) rfl (fun K hK => ?_) AllReadyH.nil
  go_simp
  have hS1 := own_below hS1 hb6
  refine hK.out _ _ (hS1) (fun hHeld => ?_)
  clear hK K
  clear hrun
  refine wpAnyH_ready (rs := [14]) (by kernel_rfl) (by simp) ?_
  refine AllReadyH.cons (o := { dst := some 25, op := _, type := _, pos := _, after := _, guard := _ }) rfl (fun K hK => ?_) AllReadyH.nil
  go_simp
  refine (puttext_any _ _ _ _ s _ hby6 (by omega) hs).mono ?_
  rintro e w7 ⟨g2, cap2, rfl, hown2, hb7, hcap7⟩
  have hS1 := own_below hS1 hb7
  refine hK.out _ _ (hS1) (fun hHeld => ?_)
  clear hK K
  refine held_more (S' := fun w0 => (w0.ownsRow w3.heap.size 5 1 (.slice (some ⟨g1, 0, none⟩) (b.size + Vq.wd u) (b.size + Vq.wd u)) (b.size + Vq.wd u) (bs (b.data.toList ++ Vq.num u))) ∧ w0.ownsRow w6.heap.size 5 1 (.slice (some ⟨g2, 0, none⟩) (b.size + Vq.wd s.size + s.size) cap2) (b.size + Vq.wd s.size + s.size) (bs (b.data.toList ++ Vq.num s.size ++ s.data.toList))) (fun _ _ => by first | trivial | (rename_i h; exact h.1)) _ _ _ _ ?_
  have hS2 := And.intro hS1 hown2
  refine wpAnyH_take (i := 15) (oi := { dst := some 26, op := _, type := _, pos := _, after := _, guard := _ }) (v := ?_) rfl (by kernel_rfl) (by kernel_rfl) (by kernel_rfl) (fun _ _ _ h => h) (Or.inl ⟨by rfl, ?_⟩) (by assumption) ?_
  rotate_left
  · intro w hSw
    have hc := conv_glue2 hSw.2
    go_simp <;> with_reducible rfl
  simp only [Act.put, List.setIfInBounds_toArray, List.set_cons_zero, List.set_cons_succ]
  refine wpAnyH_ready (rs := [18]) (by kernel_rfl) (by simp) ?_
  refine AllReadyH.cons (o := { dst := some 29, op := _, type := _, pos := _, after := _, guard := _ }) rfl (fun K hK => ?_) AllReadyH.nil
  go_simp
  refine (text_any s _ hs).mono ?_
  rintro e w8 ⟨rfl, hb8⟩
  have hS2 := And.intro (own_below hS2.1 hb8) (own_below hS2.2 hb8)
  refine hK.out _ _ (hS2) (fun hHeld => ?_)
  clear hK K
  refine wpAnyH_take (i := 19) (oi := { dst := some 30, op := _, type := _, pos := _, after := _, guard := _ }) (v := ?_) rfl (by kernel_rfl) (by kernel_rfl) (by kernel_rfl) (fun _ _ _ h => h) (Or.inl ⟨by rfl, ?_⟩) (by assumption) ?_
  rotate_left
  · intro w hSw
    go_simp <;> with_reducible rfl
  simp only [Act.put, List.setIfInBounds_toArray, List.set_cons_zero, List.set_cons_succ]
  refine wpAnyH_take (i := 20) (oi := { dst := some 31, op := _, type := _, pos := _, after := _, guard := _ }) (v := ?_) rfl (by kernel_rfl) (by kernel_rfl) (by kernel_rfl) (fun _ _ _ h => h) (Or.inl ⟨by rfl, ?_⟩) (by assumption) ?_
  rotate_left
  · intro w hSw
    go_simp <;> with_reducible rfl
  simp only [Act.put, List.setIfInBounds_toArray, List.set_cons_zero, List.set_cons_succ]
  refine wpAnyH_take (i := 21) (oi := { dst := some 32, op := _, type := _, pos := _, after := _, guard := _ }) (v := ?_) rfl (by kernel_rfl) (by kernel_rfl) (by kernel_rfl) (fun _ _ _ h => h) (Or.inl ⟨by rfl, ?_⟩) (by assumption) ?_
  rotate_left
  · intro w hSw
    go_simp <;> with_reducible rfl
  simp only [Act.put, List.setIfInBounds_toArray, List.set_cons_zero, List.set_cons_succ]
  refine wpAnyH_take (i := 22) (oi := { dst := some 33, op := _, type := _, pos := _, after := _, guard := _ }) (v := ?_) rfl (by kernel_rfl) (by kernel_rfl) (by kernel_rfl) (fun _ _ _ h => h) (Or.inl ⟨by rfl, ?_⟩) (by assumption) ?_
  rotate_left
  · intro w hSw
    go_simp <;> with_reducible rfl
  simp only [Act.put, List.setIfInBounds_toArray, List.set_cons_zero, List.set_cons_succ]
  refine wpAnyH_take (i := 23) (oi := { dst := some 34, op := _, type := _, pos := _, after := _, guard := _ }) (v := ?_) rfl (by kernel_rfl) (by kernel_rfl) (by kernel_rfl) (fun _ _ _ h => h) (Or.inl ⟨by rfl, ?_⟩) (by assumption) ?_
  rotate_left
  · intro w hSw
    go_simp <;> with_reducible rfl
  simp only [Act.put, List.setIfInBounds_toArray, List.set_cons_zero, List.set_cons_succ]
  refine wpAnyH_take (i := 25) (oi := { dst := some 36, op := _, type := _, pos := _, after := _, guard := _ }) (v := ?_) rfl (by kernel_rfl) (by kernel_rfl) (by kernel_rfl) (fun _ _ _ h => h) (Or.inl ⟨by rfl, ?_⟩) (by assumption) ?_
  rotate_left
  · intro w hSw
    go_simp <;> with_reducible rfl
  simp only [Act.put, List.setIfInBounds_toArray, List.set_cons_zero, List.set_cons_succ]
  refine wpAnyH_take (i := 28) (oi := { dst := some 39, op := _, type := _, pos := _, after := _, guard := _ }) (v := ?_) rfl (by kernel_rfl) (by kernel_rfl) (by kernel_rfl) (fun _ _ _ h => h) (Or.inl ⟨by rfl, ?_⟩) (by assumption) ?_
  rotate_left
  · intro w hSw
    go_simp <;> with_reducible rfl
  simp only [Act.put, List.setIfInBounds_toArray, List.set_cons_zero, List.set_cons_succ]
  refine wpAnyH_take (i := 29) (oi := { dst := some 40, op := _, type := _, pos := _, after := _, guard := _ }) (v := ?_) rfl (by kernel_rfl) (by kernel_rfl) (by kernel_rfl) (fun _ _ _ h => h) (Or.inl ⟨by rfl, ?_⟩) (by assumption) ?_
  rotate_left
  · intro w hSw
    go_simp <;> with_reducible rfl
  simp only [Act.put, List.setIfInBounds_toArray, List.set_cons_zero, List.set_cons_succ]
  obtain ⟨cap8, w9, hrun, hby9, hcap9, hb9, _⟩ := conv_bytes b w8 (by unfold maxLen; omega)
  refine wpAnyH_ready (rs := [24]) (by kernel_rfl) (by simp) ?_
  refine AllReadyH.cons (o := { dst := some 35, op := _, type := _, pos := _, after := _, guard := _ }) rfl (fun K hK => ?_) AllReadyH.nil
  go_simp
  have hS2 := And.intro (own_below hS2.1 hb9) (own_below hS2.2 hb9)
  refine hK.out _ _ (hS2) (fun hHeld => ?_)
  clear hK K
  clear hrun
  refine wpAnyH_ready (rs := [26]) (by kernel_rfl) (by simp) ?_
  refine AllReadyH.cons (o := { dst := some 37, op := _, type := _, pos := _, after := _, guard := _ }) rfl (fun K hK => ?_) AllReadyH.nil
  go_simp
  refine (putint_any _ _ _ _ n _ hby9 (by omega) hn).mono ?_
  rintro e w10 ⟨g3, rfl, hown3, hb10⟩
  have hS2 := And.intro (own_below hS2.1 hb10) (own_below hS2.2 hb10)
  refine hK.out _ _ (hS2) (fun hHeld => ?_)
  clear hK K
  refine held_more (S' := fun w0 => ((w0.ownsRow w3.heap.size 5 1 (.slice (some ⟨g1, 0, none⟩) (b.size + Vq.wd u) (b.size + Vq.wd u)) (b.size + Vq.wd u) (bs (b.data.toList ++ Vq.num u))) ∧ w0.ownsRow w6.heap.size 5 1 (.slice (some ⟨g2, 0, none⟩) (b.size + Vq.wd s.size + s.size) cap2) (b.size + Vq.wd s.size + s.size) (bs (b.data.toList ++ Vq.num s.size ++ s.data.toList))) ∧ w0.ownsRow w9.heap.size 5 1 (.slice (some ⟨g3, 0, none⟩) (b.size + Vq.wd (zig n)) (b.size + Vq.wd (zig n))) (b.size + Vq.wd (zig n)) (bs (b.data.toList ++ Vq.num (zig n)))) (fun _ _ => by first | trivial | (rename_i h; exact h.1)) _ _ _ _ ?_
  have hS3 := And.intro hS2 hown3
  refine wpAnyH_take (i := 27) (oi := { dst := some 38, op := _, type := _, pos := _, after := _, guard := _ }) (v := ?_) rfl (by kernel_rfl) (by kernel_rfl) (by kernel_rfl) (fun _ _ _ h => h) (Or.inl ⟨by rfl, ?_⟩) (by assumption) ?_
  rotate_left
  · intro w hSw
    have hc := conv_glue hSw.2
    go_simp <;> with_reducible rfl
  simp only [Act.put, List.setIfInBounds_toArray, List.set_cons_zero, List.set_cons_succ]
  refine wpAnyH_ready (rs := [30]) (by kernel_rfl) (by simp) ?_
  refine AllReadyH.cons (o := { dst := some 41, op := _, type := _, pos := _, after := _, guard := _ }) rfl (fun K hK => ?_) AllReadyH.nil
  go_simp
  refine (rint_any n _ hn).mono ?_
  rintro e w11 ⟨rfl, hb11⟩
  have hS3 := And.intro (And.intro (own_below hS3.1.1 hb11) (own_below hS3.1.2 hb11)) (own_below hS3.2 hb11)
  refine hK.out _ _ (hS3) (fun hHeld => ?_)
  clear hK K
  refine wpAnyH_take (i := 31) (oi := { dst := some 42, op := _, type := _, pos := _, after := _, guard := _ }) (v := ?_) rfl (by kernel_rfl) (by kernel_rfl) (by kernel_rfl) (fun _ _ _ h => h) (Or.inl ⟨by rfl, ?_⟩) (by assumption) ?_
  rotate_left
  · intro w hSw
    go_simp <;> with_reducible rfl
  simp only [Act.put, List.setIfInBounds_toArray, List.set_cons_zero, List.set_cons_succ]
  refine wpAnyH_take (i := 32) (oi := { dst := some 43, op := _, type := _, pos := _, after := _, guard := _ }) (v := ?_) rfl (by kernel_rfl) (by kernel_rfl) (by kernel_rfl) (fun _ _ _ h => h) (Or.inl ⟨by rfl, ?_⟩) (by assumption) ?_
  rotate_left
  · intro w hSw
    go_simp <;> with_reducible rfl
  simp only [Act.put, List.setIfInBounds_toArray, List.set_cons_zero, List.set_cons_succ]
  refine wpAnyH_take (i := 33) (oi := { dst := some 44, op := _, type := _, pos := _, after := _, guard := _ }) (v := ?_) rfl (by kernel_rfl) (by kernel_rfl) (by kernel_rfl) (fun _ _ _ h => h) (Or.inl ⟨by rfl, ?_⟩) (by assumption) ?_
  rotate_left
  · intro w hSw
    go_simp <;> with_reducible rfl
  simp only [Act.put, List.setIfInBounds_toArray, List.set_cons_zero, List.set_cons_succ]
  refine wpAnyH_take (i := 34) (oi := { dst := some 8, op := _, type := _, pos := _, after := _, guard := _ }) (v := ?_) rfl (by kernel_rfl) (by kernel_rfl) (by kernel_rfl) (fun _ _ _ h => h) (Or.inl ⟨by rfl, ?_⟩) (by assumption) ?_
  rotate_left
  · intro w hSw
    go_simp <;> with_reducible rfl
  simp only [Act.put, List.setIfInBounds_toArray, List.set_cons_zero, List.set_cons_succ]
  refine wpAnyH_done (by kernel_rfl) ?_ _
  refine NoPanic.normal ?_
  go_wp2
  go_ret
  have s1 := hb1.drew.trans (hb3.mono hb1.size)
  have s2 := s1.trans (hb4.mono s1.size)
  have s3 := s2.trans (hb5.mono s2.size)
  have s4 := s3.trans (hb6.mono s3.size)
  have s5 := s4.trans (hb7.mono s4.size)
  have s6 := s5.trans (hb8.mono s5.size)
  have s7 := s6.trans (hb9.mono s6.size)
  have s8 := s7.trans (hb10.mono s7.size)
  exact ⟨rfl, s8.trans (hb11.mono s8.size)⟩
end Go.Proofs.Ytjfbmjdeohlpjaa
