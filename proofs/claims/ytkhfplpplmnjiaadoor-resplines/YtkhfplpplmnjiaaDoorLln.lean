/-
  RespLines: a Simple, an Error, an Int take just one line. For every input.
-/
import Derived.Test.YtkhfplpplmnjiaaDoorAwk
namespace Go.Proofs.YtkhfplpplmnjiaaDoor
set_option maxRecDepth 100000
open Go.RowKit Go.Sort

theorem fc_no (c : UInt8) : fc c ≠ 13 ∧ fc c ≠ 10 := by
  unfold fc
  by_cases h : c = 13 ∨ c = 10
  · rw [if_pos h]; decide
  · rw [if_neg h]
    exact ⟨fun e => h (.inl e), fun e => h (.inr e)⟩
theorem flat_fc (s : List UInt8) : Rs.flat s = s.map fc := rfl
theorem dec_no (n : Nat) : ∀ c ∈ Lib.decDigits n, c ≠ 13 ∧ c ≠ 10 := by
  induction n using Nat.strongRecOn with
  | _ n ih =>
    by_cases h : n < 10
    · rw [Lib.decDigits_one h]
      intro c hc
      rw [List.mem_singleton] at hc
      subst hc
      have e : (UInt8.ofNat (48 + n)).toNat = 48 + n := by rw [UInt8.toNat_ofNat']; omega
      constructor
      · intro h; rw [h] at e; have : (13 : UInt8).toNat = 13 := rfl; omega
      · intro h; rw [h] at e; have : (10 : UInt8).toNat = 10 := rfl; omega
    · rw [dec_ten n h]
      intro c hc
      rcases List.mem_append.1 hc with hc | hc
      · exact ih (n / 10) (by omega) c hc
      · rw [List.mem_singleton] at hc
        subst hc
        have e := dgt_nat n
        constructor
        · intro h; rw [h] at e; have : (13 : UInt8).toNat = 13 := rfl; omega
        · intro h; rw [h] at e; have : (10 : UInt8).toNat = 10 := rfl; omega
theorem itoa_no (n : Int) : ∀ c ∈ Lib.itoa n, c ≠ 13 ∧ c ≠ 10 := by
  unfold Lib.itoa
  split
  · intro c hc
    rcases List.mem_cons.1 hc with rfl | hc
    · decide
    · exact dec_no _ c hc
  · exact dec_no _
/-- A line: a body without 13 and 10, at least one byte, and its end. -/
theorem enc_line (k : Nat) (hk : k = 1 ∨ k = 2 ∨ k = 3) (t : List UInt8) (n : Int) (ht : t.length ≤ 3000) (h0 : -9223372036854775808 ≤ n) (h1 : n ≤ 9223372036854775807) : ∃ B, enc (k : Int) t n (dl []) = B ++ [13, 10] ∧ 1 ≤ B.length ∧ B.length ≤ 4000 ∧ ∀ c ∈ B, c ≠ 13 ∧ c ≠ 10 := by
  have hil := Lib.itoa_length_le n h0 h1
  rcases hk with rfl | rfl | rfl
  · refine ⟨43 :: Rs.flat t, rfl, by simp, by rw [List.length_cons, flat_len]; omega, fun c hc => ?_⟩
    rcases List.mem_cons.1 hc with rfl | hc
    · decide
    · rw [flat_fc] at hc; obtain ⟨x, -, rfl⟩ := List.mem_map.1 hc; exact fc_no x
  · refine ⟨45 :: Rs.flat t, rfl, by simp, by rw [List.length_cons, flat_len]; omega, fun c hc => ?_⟩
    rcases List.mem_cons.1 hc with rfl | hc
    · decide
    · rw [flat_fc] at hc; obtain ⟨x, -, rfl⟩ := List.mem_map.1 hc; exact fc_no x
  · refine ⟨58 :: Lib.itoa n, rfl, by simp, by rw [List.length_cons]; omega, fun c hc => ?_⟩
    rcases List.mem_cons.1 hc with rfl | hc
    · decide
    · exact itoa_no n c hc

set_option maxHeartbeats 4000000 in
theorem lines_walk (kd : Int) (t : ByteArray) (n : Int) (ao : Option Addr) (m c : Nat) (w : World) (ht : t.size ≤ maxLen) (h0 : -9223372036854775808 ≤ n) (h1 : n ≤ 9223372036854775807) (hw : Tab w) :
    Calls Tryd.prog 7 #[.agg #[.int .i64 kd, .string t, .int .i64 n, .slice ao m c]] w fun e w' => e = .returned (.bool true) ∧ Below w.heap.size w w' := by
  have hbx : ∀ o : Obj, Below w.heap.size w (w.alloc o) := fun o => (Below.refl _ _).alloc (Nat.le_refl _) o
  unfold maxLen at ht
  by_cases h3000 : 3000 < t.size
  · have h3' : (3000 : Int) < (t.size : Int) := by omega
    go_enter Tryd.func7, Tryd.ntmps7
    go_wp2_with fail
    refine Calls.mono (awake_any _ (hw.below (hbx _))) ?_
    rintro e w1 ⟨rfl, hb1⟩
    have hcl1 : w1.cell? ⟨w.heap.size, 1, none⟩ = some (.string t) := by
      rw [hb1.cell (by simp), World.cell?_alloc_mark]; rfl
    have hb1' := (hbx _).trans (hb1.mono (hbx _).size)
    have hw1 := hw.below hb1'
    clear hb1
    go_wp2_with fail
    refine Calls.mono (awake_any w1 hw1) ?_
    rintro e w2 ⟨rfl, hb2⟩
    go_wp2
    go_ret
    exact ⟨rfl, hb1'.trans (hb2.mono hb1'.size)⟩
  · have h3' : ¬ (3000 : Int) < (t.size : Int) := by omega
    go_enter Tryd.func7, Tryd.ntmps7
    go_wp2_with fail
    refine Calls.mono (awake_any _ (hw.below (hbx _))) ?_
    rintro e w1 ⟨rfl, hb1⟩
    have hcl1 : w1.cell? ⟨w.heap.size, 1, none⟩ = some (.string t) := by
      rw [hb1.cell (by simp), World.cell?_alloc_mark]; rfl
    have hcl2 : w1.cell? ⟨w.heap.size, 2, none⟩ = some (.int .i64 n) := by
      rw [hb1.cell (by simp), World.cell?_alloc_mark]; rfl
    have hb1' := (hbx _).trans (hb1.mono (hbx _).size)
    have hlt := World.block_lt_of_cell? w1 _ hcl1
    clear hb1
    go_wp2_with fail
    go_loopw [3] (fun i wr => ∃ k : Nat, 1 ≤ k ∧ k ≤ 4 ∧ i = .int .i64 (k : Int) ∧ wr.cell? ⟨w.heap.size, 1, none⟩ = some (.string t) ∧ wr.cell? ⟨w.heap.size, 2, none⟩ = some (.int .i64 n) ∧ w.heap.size < wr.heap.size ∧ Below w.heap.size w wr) (fun i _ => 4 - (intOf i).toNat)
    case atStart => exact ⟨1, by omega, by omega, rfl, hcl1, hcl2, hlt, hb1'⟩
    case round =>
      obtain ⟨k, hk1, hk4, rfl, hc1, hc2, hlt', hbel⟩ := hrel
      clear hcl1 hcl2 hlt hb1'
      by_cases hk : k ≤ 3
      · obtain ⟨B, hB, hB1, hB4, hBn⟩ := enc_line k (by omega) t.data.toList n (by rw [lsize]; omega) h0 h1
        have C := encode_any (k : Int) t n none 0 0 [] wr (by omega) h0 h1 ⟨rfl, Nat.le_refl _, fun _ => ⟨rfl, rfl⟩, (fun _ h => by cases h), (fun _ h => by cases h)⟩ ⟨by decide, (fun _ h => by cases h)⟩ (hw.below hbel)
        rw [hB] at C
        have C : Hid _ := C
        have HBn : Hid _ := hBn
        clear hB hBn
        go_wp2_with fail
        refine Calls.mono C.out ?_
        rintro e w2 ⟨v, rfl, hM, hb2⟩
        have hbel2 := hbel.trans (hb2.mono hbel.size)
        have hd1 : w2.cell? ⟨w.heap.size, 1, none⟩ = some (.string t) := by rw [hb2.cell hlt']; exact hc1
        have hd2 : w2.cell? ⟨w.heap.size, 2, none⟩ = some (.int .i64 n) := by rw [hb2.cell hlt']; exact hc2
        have hlt2 : w.heap.size < w2.heap.size := Nat.lt_of_lt_of_le hlt' hb2.size
        obtain ⟨ao2, c2, rfl, hBy, -⟩ := hM.bytes
        obtain ⟨N, hN⟩ : ∃ N, N = B.length := ⟨_, rfl⟩
        have hNl : (B ++ [13, 10]).length = N + 2 := by rw [List.length_append, hN]; rfl
        rw [hNl] at hBy ⊢
        rcases hBy.norm with ⟨h, -⟩ | ⟨b, off, hao, -, hcell⟩
        · omega
        subst hao
        have x1 := hcell N (by omega)
        have x2 := hcell (N + 1) (by omega)
        have g1 : (B ++ [13, 10]).getD N 0 = (13 : UInt8) := by rw [List.getD_eq_getElem?_getD, List.getElem?_append_right (by omega), hN, Nat.sub_self]; rfl
        rw [g1] at x1
        have g2 : (B ++ [13, 10]).getD (N + 1) 0 = (10 : UInt8) := by rw [List.getD_eq_getElem?_getD, List.getElem?_append_right (by omega), hN, show B.length + 1 - B.length = 1 by omega]; rfl
        rw [g2] at x2
        have hxs : Hid (∀ j, j < N → w2.cell? ⟨b, off + j, none⟩ = some (.int .u8 ((B.getD j 0).toNat : Int))) := fun j hj => by
          have := hcell j (by omega)
          have g3 : (B ++ [13, 10]).getD j 0 = B.getD j 0 := by rw [List.getD_eq_getElem?_getD, List.getElem?_append_left (by omega), List.getD_eq_getElem?_getD]
          rwa [g3] at this
        have HN : Hid (N = B.length) := hN
        rw [← hN] at hB1 hB4
        have t1 : ((13 : UInt8).toNat : Int) = 13 := rfl
        have t2 : ((10 : UInt8).toNat : Int) = 10 := rfl
        rw [t1] at x1
        rw [t2] at x2
        have s1 : ((N + 2 : Nat) : Int) - 2 = (N : Int) := by omega
        have s2 : ((N + 2 : Nat) : Int) - 1 = ((N + 1 : Nat) : Int) := by omega
        have h3 : ¬ ((N + 2 : Nat) : Int) < 3 := by omega
        clear hcell hBy hM hN hNl hb2 C hc1 hc2 t1 t2 hbel
        go_wp2_with fail
        clear x1 x2 s1 s2 h3
        go_loopw [5] (fun i wi => ∃ j : Nat, j ≤ N ∧ i = .int .i64 (j : Int) ∧ wi = w2) (fun i _ => N - (intOf i).toNat)
        case atStart => exact ⟨0, Nat.zero_le _, rfl, rfl⟩
        case round =>
          obtain ⟨j, hj, rfl, rfl⟩ := hrel
          by_cases hjl : j < N
          · have x1 := hxs.out j hjl
            have hx := HBn.out (B.getD j 0) (by simp [List.getD, show j < B.length by have := HN.out; omega])
            have h13 : (((B.getD j 0).toNat : Int) == 13) = false := by
              rw [beq_eq_false_iff_ne]; intro e; exact hx.1 (u8_eq (n := 13) e (by decide))
            have h10 : (((B.getD j 0).toNat : Int) == 10) = false := by
              rw [beq_eq_false_iff_ne]; intro e; exact hx.2 (u8_eq (n := 10) e (by decide))
            clear hx
            generalize (B.getD j 0).toNat = x at *
            go_wp2
            go_roundw
            case rel => exact ⟨j + 1, by omega, by go_num, trivial⟩
            case measure => simp [intOf]; omega
          · obtain rfl : j = N := by omega
            go_wp2
            go_roundw
            case rel => exact ⟨k + 1, by omega, by omega, by go_num, hd1, hd2, hlt2, hbel2⟩
            case measure => simp [intOf]; omega
      · obtain rfl : k = 4 := by omega
        go_wp2
        go_ret
        exact ⟨rfl, hbel⟩
end Go.Proofs.YtkhfplpplmnjiaaDoor
