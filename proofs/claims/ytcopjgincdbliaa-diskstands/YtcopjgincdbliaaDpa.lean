/-
  DiskParts: bytes that are appended in two pieces are there as in one. For every input.
-/
import Derived.Test.YtcopjgincdbliaaDaw
namespace Go.Proofs.Ytcopjgincdbliaa
open Go.RowKit

/-- Two disks share nothing. -/
structure Apart (gx : Nat) (vx : Value) (gy : Nat) (vy : Value) : Prop where
  g : gx ≠ gy
  yx : vy.ownBlock ≠ some gx
  xy : vx.ownBlock ≠ some gy
  rows : ∀ k, vx.ownBlock = some k → vy.ownBlock ≠ some k
theorem Apart.symm {gx gy : Nat} {vx vy : Value} (h : Apart gx vx gy vy) : Apart gy vy gx vx := ⟨h.g.symm, h.xy, h.yx, fun k hk e => h.rows k e hk⟩
theorem Apart.step {gx gy base f r : Nat} {vx vx' vy : Value} {w w' : World} {l : List UInt8} (h : Apart gx vx gy vy) (hs : Step gx vx vx' w w') (hy : Dsk w base gy vy l f r) : Apart gx vx' gy vy :=
  ⟨h.g, h.yx, fun e => by
    rcases hs.own gy e with h1 | h1
    · exact h.xy h1
    · have := hy.lt; omega,
   fun k hk e => by
    rcases hs.own k hk with h1 | h1
    · exact h.rows k h1 e
    · have := (hy.own k e).2.1; omega⟩
theorem Dsk.apart {gx gy base f r : Nat} {vx vx' vy : Value} {w w' : World} {l : List UInt8} (hy : Dsk w base gy vy l f r) (h : Apart gx vx gy vy) (hs : Step gx vx vx' w w') : Dsk w' base gy vy l f r :=
  hy.step hs h.g.symm h.xy h.yx (fun k hk e => h.rows k e hk)
theorem tx_app (a b : ByteArray) : tx (a.data.toList ++ b.data.toList) = a ++ b := by
  rw [← tx_data (a ++ b), ByteArray.data_append, Array.toList_append]
theorem size_list (a : ByteArray) : a.data.toList.length = a.size := by rw [Array.length_toList]; rfl

set_option maxHeartbeats 1000000 in
theorem parts_long (x : Int) (a b : ByteArray) (ha : a.size ≤ maxLen) (hb : b.size ≤ maxLen) (h : 70000 < a.size ∨ 70000 < b.size) (w : World) :
    Calls Try.prog 8 #[.int .i64 x, .string a, .string b] w fun e w' => e = .returned (.bool true) ∧ Below w.heap.size w w' := by
  unfold maxLen at ha hb
  by_cases h1 : 70000 < a.size
  · have h1' : (70000 : Int) < (a.size : Int) := by omega
    go_enter Try.func8, Try.ntmps8
    go_wp2_with fail
    refine (awake_any _).mono ?_
    rintro e w1 ⟨rfl, b1⟩
    go_wp2_with fail
    refine (awake_any _).mono ?_
    rintro e w2 ⟨rfl, b2⟩
    go_wp2
    go_ret
    exact ⟨rfl, b1.trans (b2.mono b1.size)⟩
  · have h1' : ¬ (70000 : Int) < (a.size : Int) := by omega
    have h2' : (70000 : Int) < (b.size : Int) := by omega
    go_enter Try.func8, Try.ntmps8
    go_wp2_with fail
    refine (awake_any _).mono ?_
    rintro e w1 ⟨rfl, b1⟩
    go_wp2_with fail
    refine (awake_any _).mono ?_
    rintro e w2 ⟨rfl, b2⟩
    go_wp2
    go_ret
    exact ⟨rfl, b1.trans (b2.mono b1.size)⟩

set_option maxHeartbeats 4000000 in
theorem parts_fits (x : Int) (a b : ByteArray) (ha : a.size ≤ 70000) (hb : b.size ≤ 70000) (hr : a.size + b.size ≤ held x) (w : World) :
    Calls Try.prog 8 #[.int .i64 x, .string a, .string b] w fun e w' => e = .returned (.bool true) ∧ Below w.heap.size w w' := by
  have h1' : ¬ (70000 : Int) < (a.size : Int) := by omega
  have h2' : ¬ (70000 : Int) < (b.size : Int) := by omega
  have hrm := held_le x
  go_enter Try.func8, Try.ntmps8
  go_wp2_with fail
  refine (awake_any _).mono ?_
  rintro e w1 ⟨rfl, b1⟩
  have s1 := b1.size
  go_wp2_with fail
  refine (new_ok x w.heap.size _ s1).mono ?_
  rintro e w2 ⟨rfl, hX, b2, z2⟩
  have B2 := b1.trans (b2.mono s1)
  have s2 := B2.size
  go_wp2_with fail
  refine (new_ok x w.heap.size _ s2).mono ?_
  rintro e w3 ⟨rfl, hY, b3, z3⟩
  have B3 := B2.trans (b3.mono s2)
  have s3 := B3.size
  have hX3 := hX.below b3 (Nat.le_refl _)
  have hap : Apart w1.heap.size (.slice none 0 0) w2.heap.size (.slice none 0 0) := ⟨by omega, (fun e => by cases e), (fun e => by cases e), (fun k e => by cases e)⟩
  clear b1 b2 b3 hX B2 z2 z3 s1 s2
  generalize w1.heap.size = gx at *
  generalize w2.heap.size = gy at *
  generalize held x = r at *
  have zab : (a ++ b).size = a.size + b.size := ByteArray.size_append
  obtain ⟨c1, w4, hcv1, hB4, hc1, b4, -⟩ := conv_bytes (a ++ b) w3 (by unfold maxLen; omega)
  have hX4 := hX3.below b4 (Nat.le_refl _)
  have hY4 := hY.below b4 (Nat.le_refl _)
  have B4 := B3.trans (b4.mono s3)
  have s4 := B4.size
  clear b4 B3 hX3 hY
  rw [ByteArray.data_append, Array.toList_append, zab] at hB4
  go_wp2_with fail
  refine (append_ok _ _ _ _ _ _ _ _ _ _ _ _ _ (orz_some _ _) hX4 hB4 (by rw [List.length_nil]; omega) s4).mono ?_
  rintro e w5 ⟨rfl, vx, hX5, sX⟩
  have B5 := B4.trans (hX4.stepBelow sX s4)
  have s5 := B5.size
  have hY5 := hY4.apart hap sX
  have hap5 := hap.step sX hY4
  clear hB4 hX4 hY4 hap sX B4 hcv1 hc1 s4 s3
  obtain ⟨c2, w6, hcv2, hB6, -, b6, -⟩ := conv_bytes a w5 (by unfold maxLen; omega)
  have hX6 := hX5.below b6 (Nat.le_refl _)
  have hY6 := hY5.below b6 (Nat.le_refl _)
  have B6 := B5.trans (b6.mono s5)
  have s6 := B6.size
  clear b6 B5 hX5 hY5
  go_wp2_with fail
  refine (append_ok _ _ _ _ _ _ _ _ _ _ _ _ _ (orz_some _ _) hY6 hB6 (by rw [List.length_nil]; omega) s6).mono ?_
  rintro e w7 ⟨rfl, vy, hY7, sY⟩
  have B7 := B6.trans (hY6.stepBelow sY s6)
  have s7 := B7.size
  have hX7 := hX6.apart hap5.symm sY
  have hap7 := (hap5.symm.step sY hX6).symm
  clear hB6 hX6 hY6 hap5 sY B6 hcv2 s6 s5
  obtain ⟨c3, w8, hcv3, hB8, -, b8, -⟩ := conv_bytes b w7 (by unfold maxLen; omega)
  have hX8 := hX7.below b8 (Nat.le_refl _)
  have hY8 := hY7.below b8 (Nat.le_refl _)
  have B8 := B7.trans (b8.mono s7)
  have s8 := B8.size
  clear b8 B7 hX7 hY7
  rw [List.nil_append] at hY8 hX8
  have hal := size_list a
  have hbl := size_list b
  go_wp2_with fail
  refine (append_ok _ _ _ _ _ _ _ _ _ _ _ _ _ (orz_some _ _) hY8 hB8 (by omega) s8).mono ?_
  rintro e w9 ⟨rfl, vy2, hY9, sY⟩
  have B9 := B8.trans (hY8.stepBelow sY s8)
  have hX9 := hX8.apart hap7.symm sY
  clear hB8 hX8 hY8 hap7 sY B8 hcv3 s8 s7
  have hlen : (a.data.toList ++ b.data.toList).length = a.size + b.size := by rw [List.length_append, hal, hbl]
  go_wp2_with fail
  refine (bytes_any _ _ _ _ _ _ _ _ _ (orz_some _ _) hX9).mono ?_
  rintro e w10 ⟨v10, rfl, h10, b10⟩
  have hcv := own_text h10
  have hY10 := hY9.below b10 (Nat.le_refl _)
  have B10 := B9.trans (b10.mono B9.size)
  obtain ⟨a3, c3, rfl⟩ := own_slice h10
  rw [tx_app, hlen] at hcv
  clear hX9 hY9 b10 B9 h10
  go_wp2_with fail
  refine (bytes_any _ _ _ _ _ _ _ _ _ (orz_some _ _) hY10).mono ?_
  rintro e w11 ⟨v11, rfl, h11, b11⟩
  clear hcv
  have hcv := own_text h11
  have hY11 := hY10.below b11 (Nat.le_refl _)
  have B11 := B10.trans (b11.mono B10.size)
  obtain ⟨a4, c4, rfl⟩ := own_slice h11
  rw [tx_app, hlen] at hcv
  clear hY10 b11 B10 h11
  go_wp2_with fail
  refine (fast_any _ _ _ _ _ _ _ _ _ (orz_some _ _) hY11).mono ?_
  rintro e w12 ⟨rfl, hw⟩
  subst hw
  clear hcv
  go_wp2
  go_ret
  exact ⟨rfl, B11⟩

set_option maxHeartbeats 4000000 in
theorem parts_big (x : Int) (a b : ByteArray) (ha : a.size ≤ 70000) (hb : b.size ≤ 70000) (hr : held x < a.size + b.size) (w : World) :
    Calls Try.prog 8 #[.int .i64 x, .string a, .string b] w fun e w' => e = .returned (.bool true) ∧ Below w.heap.size w w' := by
  have h1' : ¬ (70000 : Int) < (a.size : Int) := by omega
  have h2' : ¬ (70000 : Int) < (b.size : Int) := by omega
  have hrm := held_le x
  go_enter Try.func8, Try.ntmps8
  go_wp2_with fail
  refine (awake_any _).mono ?_
  rintro e w1 ⟨rfl, b1⟩
  have s1 := b1.size
  go_wp2_with fail
  refine (new_ok x w.heap.size _ s1).mono ?_
  rintro e w2 ⟨rfl, hX, b2, z2⟩
  have B2 := b1.trans (b2.mono s1)
  have s2 := B2.size
  go_wp2_with fail
  refine (new_ok x w.heap.size _ s2).mono ?_
  rintro e w3 ⟨rfl, hY, b3, z3⟩
  have B3 := B2.trans (b3.mono s2)
  have s3 := B3.size
  have hX3 := hX.below b3 (Nat.le_refl _)
  have hap : Apart w1.heap.size (.slice none 0 0) w2.heap.size (.slice none 0 0) := ⟨by omega, (fun e => by cases e), (fun e => by cases e), (fun k e => by cases e)⟩
  clear b1 b2 b3 hX B2 z2 z3 s1 s2
  generalize w1.heap.size = gx at *
  generalize w2.heap.size = gy at *
  generalize held x = r at *
  have zab : (a ++ b).size = a.size + b.size := ByteArray.size_append
  obtain ⟨c1, w4, hcv1, hB4, hc1, b4, -⟩ := conv_bytes (a ++ b) w3 (by unfold maxLen; omega)
  have hX4 := hX3.below b4 (Nat.le_refl _)
  have hY4 := hY.below b4 (Nat.le_refl _)
  have B4 := B3.trans (b4.mono s3)
  have s4 := B4.size
  clear b4 B3 hX3 hY
  rw [ByteArray.data_append, Array.toList_append, zab] at hB4
  go_wp2_with fail
  refine (append_full _ _ _ _ _ _ _ _ _ _ _ _ (orz_some _ _) hX4 (by rw [List.length_nil]; omega) (by unfold maxLen; omega)).mono ?_
  rintro e w5 ⟨rfl, hX5, sX⟩
  have B5 := B4.trans (hX4.stepBelow sX s4)
  have s5 := B5.size
  have hY5 := hY4.apart hap sX
  have hap5 := hap.step sX hY4
  clear hB4 hX4 hY4 hap sX B4 hcv1 hc1 s4 s3
  obtain ⟨c2, w6, hcv2, hB6, -, b6, -⟩ := conv_bytes a w5 (by unfold maxLen; omega)
  have hX6 := hX5.below b6 (Nat.le_refl _)
  have hY6 := hY5.below b6 (Nat.le_refl _)
  have B6 := B5.trans (b6.mono s5)
  have s6 := B6.size
  clear b6 B5 hX5 hY5
  have hal := size_list a
  have hbl := size_list b
  have hgt : (r : Int) < (a.size : Int) + (b.size : Int) := by omega
  go_wp2_with fail
  by_cases hA : a.size ≤ r
  · refine (append_ok _ _ _ _ _ _ _ _ _ _ _ _ _ (orz_some _ _) hY6 hB6 (by rw [List.length_nil]; omega) s6).mono ?_
    rintro e w7 ⟨rfl, vy, hY7, sY⟩
    have B7 := B6.trans (hY6.stepBelow sY s6)
    have s7 := B7.size
    have hX7 := hX6.apart hap5.symm sY
    have hap7 := (hap5.symm.step sY hX6).symm
    clear hB6 hX6 hY6 hap5 sY B6 hcv2 s6 s5
    obtain ⟨c3, w8, hcv3, hB8, -, b8, -⟩ := conv_bytes b w7 (by unfold maxLen; omega)
    have hX8 := hX7.below b8 (Nat.le_refl _)
    have hY8 := hY7.below b8 (Nat.le_refl _)
    have B8 := B7.trans (b8.mono s7)
    have s8 := B8.size
    clear b8 B7 hX7 hY7
    rw [List.nil_append] at hY8
    go_wp2_with fail
    refine (append_full _ _ _ _ _ _ _ _ _ _ _ _ (orz_some _ _) hY8 (by omega) (by unfold maxLen; omega)).mono ?_
    rintro e w9 ⟨rfl, hY9, sY⟩
    have B9 := B8.trans (hY8.stepBelow sY s8)
    have hX9 := hX8.apart hap7.symm sY
    clear hB8 hX8 hY8 hap7 sY B8 hcv3 s8 s7 hY9
    go_wp2_with fail
    refine (room_any _ _ _ _ _ _ _ _ _ (orz_some _ _) hX9).mono ?_
    rintro e w10 ⟨rfl, hw⟩
    subst hw
    go_wp2_with fail
    refine (bytes_any _ _ _ _ _ _ _ _ _ (orz_some _ _) hX9).mono ?_
    rintro e w11 ⟨v11, rfl, h11, b11⟩
    have B11 := B9.trans (b11.mono B9.size)
    obtain ⟨a4, c4, rfl⟩ := own_slice h11
    clear hX9 b11 B9 h11
    go_wp2
    go_ret
    exact ⟨rfl, B11⟩
  · refine (append_full _ _ _ _ _ _ _ _ _ _ _ _ (orz_some _ _) hY6 (by rw [List.length_nil]; omega) (by unfold maxLen; omega)).mono ?_
    rintro e w7 ⟨rfl, hY7, sY⟩
    have B7 := B6.trans (hY6.stepBelow sY s6)
    have s7 := B7.size
    have hX7 := hX6.apart hap5.symm sY
    have hap7 := (hap5.symm.step sY hX6).symm
    clear hB6 hX6 hY6 hap5 sY B6 hcv2 s6 s5
    obtain ⟨c3, w8, hcv3, hB8, -, b8, -⟩ := conv_bytes b w7 (by unfold maxLen; omega)
    have hX8 := hX7.below b8 (Nat.le_refl _)
    have hY8 := hY7.below b8 (Nat.le_refl _)
    have B8 := B7.trans (b8.mono s7)
    have s8 := B8.size
    clear b8 B7 hX7 hY7
    go_wp2_with fail
    have HC : Calls Try.prog 21 #[.pointer (some ⟨gy, 0, none⟩), .slice (some ⟨w7.heap.size, 0, none⟩) b.size c3] w8 fun e w' => ∃ z : Int, e = .returned (.int .i64 z) ∧ Below w.heap.size w w' ∧ Dsk w' w.heap.size gx (.slice none 0 0) [] 0 r := by
      by_cases hBr : b.size ≤ r
      · refine (append_ok _ _ _ _ _ _ _ _ _ _ _ _ _ (orz_some _ _) hY8 hB8 (by rw [List.length_nil]; omega) s8).mono ?_
        rintro e w9 ⟨rfl, v9, hY9, sY⟩
        exact ⟨0, rfl, B8.trans (hY8.stepBelow sY s8), hX8.apart hap7.symm sY⟩
      · refine (append_full _ _ _ _ _ _ _ _ _ _ _ _ (orz_some _ _) hY8 (by rw [List.length_nil]; omega) (by unfold maxLen; omega)).mono ?_
        rintro e w9 ⟨rfl, hY9, sY⟩
        exact ⟨9, rfl, B8.trans (hY8.stepBelow sY s8), hX8.apart hap7.symm sY⟩
    refine Calls.mono HC ?_
    rintro e w9 ⟨z, rfl, B9, hX9⟩
    clear hB8 hX8 hY8 hap7 B8 hcv3 s8 s7 HC
    go_wp2_with fail
    refine (room_any _ _ _ _ _ _ _ _ _ (orz_some _ _) hX9).mono ?_
    rintro e w10 ⟨rfl, hw⟩
    subst hw
    go_wp2_with fail
    refine (bytes_any _ _ _ _ _ _ _ _ _ (orz_some _ _) hX9).mono ?_
    rintro e w11 ⟨v11, rfl, h11, b11⟩
    have B11 := B9.trans (b11.mono B9.size)
    obtain ⟨a4, c4, rfl⟩ := own_slice h11
    clear hX9 b11 B9 h11
    go_wp2
    go_ret
    exact ⟨rfl, B11⟩

theorem parts_walk (x : Int) (a b : ByteArray) (ha : a.size ≤ maxLen) (hb : b.size ≤ maxLen) (w : World) :
    Calls Try.prog 8 #[.int .i64 x, .string a, .string b] w fun e w' => e = .returned (.bool true) ∧ Below w.heap.size w w' := by
  by_cases h : 70000 < a.size ∨ 70000 < b.size
  · exact parts_long x a b ha hb h w
  · by_cases hr : a.size + b.size ≤ held x
    · exact parts_fits x a b (by omega) (by omega) hr w
    · exact parts_big x a b (by omega) (by omega) (by omega) w
end Go.Proofs.Ytcopjgincdbliaa
