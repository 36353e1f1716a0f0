/-
  DiskTurns: a crash that turns bits is taken back by turning them once more; and it turns as many bits as the number has. For every input.
-/
import Derived.Test.YtcopjgincdbliaaDpa
import Derived.Test.YtcopjgincdbliaaDct
namespace Go.Proofs.Ytcopjgincdbliaa
open Go.RowKit

theorem own_bytes {w : World} {base : Nat} {v : Value} {l : List UInt8} (h : w.ownsRow base 5 1 v l.length (bs l)) : ∃ ao cap, v = .slice ao l.length cap ∧ Bytes w ao l.length cap l ∧ cap ≤ maxLen := by
  rcases h.2 with ⟨rfl, h0⟩ | ⟨g', cap, cur, rfl, hb, hg, hnc, hcm, hcs, htake⟩
  · have h1 : l = [] := List.eq_nil_of_length_eq_zero h0
    subst h1
    exact ⟨none, 0, rfl, Bytes.nil w, Nat.zero_le _⟩
  · exact ⟨some ⟨g', 0, none⟩, cap, rfl, Bytes.own h, hcm⟩
theorem own_step {w w' : World} {base g n : Nat} {v vy vy' : Value} {xs : List Value} (h : w.ownsRow base 5 1 v n xs) (hs : Step g vy vy' w w') (h1 : ∀ k, v.ownBlock = some k → k ≠ g ∧ vy.ownBlock ≠ some k) : w'.ownsRow base 5 1 v n xs := by
  refine ⟨h.1, ?_⟩
  rcases h.2 with hn | ⟨g', cap, cur, rfl, hb', hgg, rest⟩
  · exact .inl hn
  · refine .inr ⟨g', cap, cur, rfl, hb', ?_, rest⟩
    rw [hs.block g' (Array.getElem?_eq_some_iff.1 hgg).1 (h1 g' rfl).1 (h1 g' rfl).2]
    exact hgg
theorem byte_get (b : ByteArray) (i : Nat) (h : i < b.size) : b[i] = b.data.toList.getD i 0 := by
  have := tx_get b.data.toList i (by rw [tx_size, size_list]; exact h)
  rw [← this]
  simp only [tx_data]

set_option maxHeartbeats 1000000 in
theorem turns_out (b : ByteArray) (at0 t : Int) (hb : b.size ≤ maxLen) (h : b.size < 2 ∨ 1000 < b.size) (w : World) :
    Calls Try.prog 5 #[.string b, .int .i64 at0, .int .i64 t] w fun e w' => e = .returned (.bool true) ∧ Below w.heap.size w w' := by
  unfold maxLen at hb
  by_cases h1 : b.size < 2
  · have h1' : (b.size : Int) < 2 := by omega
    go_enter Try.func5, Try.ntmps5
    go_wp2_with fail
    refine (awake_any _).mono ?_
    rintro e w1 ⟨rfl, b1⟩
    go_wp2_with fail
    refine (awake_any _).mono ?_
    rintro e w2 ⟨rfl, b2⟩
    go_wp2
    go_ret
    exact ⟨rfl, b1.trans (b2.mono b1.size)⟩
  · have h1' : ¬ (b.size : Int) < 2 := by omega
    have h2' : (1000 : Int) < (b.size : Int) := by omega
    go_enter Try.func5, Try.ntmps5
    go_wp2_with fail
    refine (awake_any _).mono ?_
    rintro e w1 ⟨rfl, b1⟩
    go_wp2_with fail
    refine (awake_any _).mono ?_
    rintro e w2 ⟨rfl, b2⟩
    go_wp2
    go_ret
    exact ⟨rfl, b1.trans (b2.mono b1.size)⟩

set_option maxHeartbeats 4000000 in
theorem turns_in (b : ByteArray) (at0 t : Int) (h2 : 2 ≤ b.size) (h3 : b.size ≤ 1000) (w : World) :
    Calls Try.prog 5 #[.string b, .int .i64 at0, .int .i64 t] w fun e w' => e = .returned (.bool true) ∧ Below w.heap.size w w' := by
  have h2' : ¬ (b.size : Int) < 2 := by omega
  have h3' : ¬ (1000 : Int) < (b.size : Int) := by omega
  have hbl := size_list b
  obtain ⟨k, T, hk, hT, hcr⟩ := Dk.crash_whole b.data.toList at0 t (by omega)
  rw [hbl] at hk hcr
  go_enter Try.func5, Try.ntmps5
  go_wp2_with fail
  refine (awake_any _).mono ?_
  rintro e w1 ⟨rfl, b1⟩
  have s1 := b1.size
  go_wp2_with fail
  refine (new_ok 65536 w.heap.size _ s1).mono ?_
  rintro e w2 ⟨rfl, hX, b2, z2⟩
  have B2 := b1.trans (b2.mono s1)
  have s2 := B2.size
  go_wp2_with fail
  refine (new_ok 65536 w.heap.size _ s2).mono ?_
  rintro e w3 ⟨rfl, hY, b3, z3⟩
  have B3 := B2.trans (b3.mono s2)
  have s3 := B3.size
  have hX3 := hX.below b3 (Nat.le_refl _)
  have hap : Apart w1.heap.size (.slice none 0 0) w2.heap.size (.slice none 0 0) := ⟨by omega, (fun e => by cases e), (fun e => by cases e), (fun k e => by cases e)⟩
  rw [show held 65536 = 65536 by decide] at hX3 hY
  clear b1 b2 b3 hX B2 z2 z3 s1 s2
  generalize w1.heap.size = gx at *
  generalize w2.heap.size = gy at *
  obtain ⟨c1, w4, hcv1, hB4, hc1, b4, -⟩ := conv_bytes b w3 (by unfold maxLen; omega)
  have hX4 := hX3.below b4 (Nat.le_refl _)
  have hY4 := hY.below b4 (Nat.le_refl _)
  have B4 := B3.trans (b4.mono s3)
  have s4 := B4.size
  clear b4 B3 hX3 hY
  go_wp2_with fail
  refine (append_ok _ _ _ _ _ _ _ _ _ _ _ _ _ (orz_some _ _) hX4 hB4 (by rw [List.length_nil]; omega) s4).mono ?_
  rintro e w5 ⟨rfl, vx, hX5, sX⟩
  have B5 := B4.trans (hX4.stepBelow sX s4)
  have s5 := B5.size
  have hY5 := hY4.apart hap sX
  have hap5 := hap.step sX hY4
  rw [List.nil_append] at hX5
  clear hB4 hX4 hY4 hap sX B4 hcv1 hc1 s4 s3
  go_wp2_with fail
  refine (crash_any _ (b.size : Int) at0 t _ _ _ _ _ _ _ _ (orz_some _ _) hX5 (by omega)).mono ?_
  rintro e w6 ⟨rfl, vx2, hX6, sX⟩
  rw [hcr _ hbl] at hX6
  have B6 := B5.trans (hX5.stepBelow sX s5)
  have s6 := B6.size
  have hY6 := hY5.apart hap5 sX
  have htl : (Dk.turn b.data.toList k T 16).length = b.size := by rw [Dk.turn_length, hbl]
  have htw := Dk.turn_twice b.data.toList k T (by omega)
  have hct := Dk.differ_turn b.data.toList k T (by omega)
  have hcr2 := hcr _ htl
  rw [htw] at hcr2
  rw [hbl] at hct
  clear hX5 hY5 hap5 sX B5 s5 hcr htw hk
  generalize Dk.turn b.data.toList k T 16 = tl at *
  go_wp2_with fail
  refine (bytes_any _ _ _ _ _ _ _ _ _ (orz_some _ _) hX6).mono ?_
  rintro e w7 ⟨v7, rfl, h7, b7⟩
  have hY7 := hY6.below b7 (Nat.le_refl _)
  have B7 := B6.trans (b7.mono s6)
  have s7 := B7.size
  have hgy : gy < w6.heap.size := hY6.lt
  have hl7 := h7.lt
  obtain ⟨ao, c7, rfl, hB7, hc7⟩ := own_bytes h7
  rw [htl] at h7 hB7 hl7
  rw [htl]
  clear hX6 hY6 b7 B6
  go_wp2_with fail
  refine (append_ok _ _ _ _ _ _ _ _ _ _ _ _ _ (orz_some _ _) hY7 hB7 (by rw [List.length_nil]; omega) s7).mono ?_
  rintro e w8 ⟨rfl, vy, hY8, sY⟩
  have h8 := own_step h7 sY (fun j hj => ⟨by have := hl7 j hj; omega, (fun e => by cases e)⟩)
  have hvy : ∀ j, vy.ownBlock = some j → w7.heap.size ≤ j := fun j hj => by
    rcases sY.own j hj with h | h
    · cases h
    · exact h
  have B8 := B7.trans (hY7.stepBelow sY s7)
  have s8 := B8.size
  rw [List.nil_append] at hY8
  clear h7 hB7 hY7 sY B7 s7
  go_wp2_with fail
  refine (crash_any _ (b.size : Int) at0 t _ _ _ _ _ _ _ _ (orz_some _ _) hY8 (by omega)).mono ?_
  rintro e w9 ⟨rfl, vy2, hY9, sY⟩
  rw [hcr2] at hY9
  have h9 := own_step h8 sY (fun j hj => ⟨by have := hl7 j hj; omega, (fun e => by have := hvy _ e; have := hl7 j hj; omega)⟩)
  have B9 := B8.trans (hY8.stepBelow sY s8)
  clear h8 hY8 sY B8 s8 hcr2 hvy
  go_wp2_with fail
  refine (bytes_any _ _ _ _ _ _ _ _ _ (orz_some _ _) hY9).mono ?_
  rintro e w10 ⟨v10, rfl, h10, b10⟩
  have hcv := own_text h10
  obtain ⟨a10, c10, rfl⟩ := own_slice h10
  rw [tx_data, hbl] at hcv
  rw [hbl]
  have B10 := B9.trans (b10.mono B9.size)
  have h10' := own_below h9 b10
  clear h9 hY9 B9 h10 b10
  rcases h10'.2 with ⟨-, h0⟩ | ⟨G, cap, cur, hv, -, -, hnc, hcm, -⟩
  · omega
  simp only [Value.slice.injEq, true_and] at hv
  obtain ⟨rfl, rfl⟩ := hv
  have hcv3 : IntKind.u16.wrap t = (T : Int) := by rw [IntKind.wrap_u16, hT]
  have hT2 : T < 65536 := by have := Int.emod_lt_of_pos t (show (0 : Int) < 65536 by omega); omega
  have hcl := fun m => Dk.cnt_le (Dk.differ tl b.data.toList) m
  have hdb := Dk.differ_byte tl b.data.toList
  unfold maxLen at hc7
  clear hl7 hgy hcm
  go_wp2_with fail
  go_loopw [10, 71] (fun u i wr => ∃ j : Nat, j ≤ b.size ∧ u = .int .i64 (Dk.cnt (Dk.differ tl b.data.toList) (8 * j) : Int) ∧ i = .int .i64 (j : Int) ∧ Below w10.heap.size w10 wr) (fun _ i _ => b.size - (intOf i).toNat)
  case atStart => exact ⟨0, by omega, rfl, rfl, Below.refl _ _⟩
  case round =>
    obtain ⟨j, hj, rfl, rfl, hbw⟩ := hrel
    by_cases hlt : j < b.size
    · have hcell := row_cell (own_below h10' hbw) j hlt
      have hbj : (b[j]'hlt).toNat = (b.data.toList.getD j 0).toNat := by rw [byte_get b j hlt]
      have hx := u8_xor_nat (tl.getD j 0).toNat (b.data.toList.getD j 0).toNat (tl.getD j 0).toNat_lt (b.data.toList.getD j 0).toNat_lt
      have hst := hdb j
      have hb1 := hcl (8 * j)
      have hb2 := hcl (8 * (j + 1))
      have hc : (tl.getD j 0).toNat ^^^ (b.data.toList.getD j 0).toNat < 256 := Nat.xor_lt_two_pow (n := 8) (tl.getD j 0).toNat_lt (b.data.toList.getD j 0).toNat_lt
      have Hst : Hid _ := hst
      clear h10' hcv hst hcl hdb
      generalize (tl.getD j 0).toNat = x at *
      generalize (b.data.toList.getD j 0).toNat = y at *
      generalize x ^^^ y = c at *
      generalize hC1 : Dk.cnt (Dk.differ tl b.data.toList) (8 * j) = C1 at *
      go_wp2_with fail
      go_quiet (fail)
      have hbw2 : Below w10.heap.size w10 (wr.drewN nq) := hbw.trans ((drawn wr nq).mono hbw.size)
      clear hcell hbj hx
      go_wp2_with fail
      go_loop [10, 13] (fun u q => ∃ uu kk : Nat, u = .int .i64 (uu : Int) ∧ q = .int .u8 (kk : Int) ∧ kk < 256 ∧ uu + Dk.pop 8 kk = C1 + Dk.pop 8 c) (fun _ q => (intOf q).toNat)
      case atStart => exact ⟨C1, c, rfl, rfl, hc, rfl⟩
      case round =>
        obtain ⟨uu, kk, rfl, rfl, hkk, hsum⟩ := hrel
        have hps := Dk.pop_step 8 kk hkk
        have hz := Hst.out
        by_cases hpos : 0 < kk
        · have hm : (kk : Int).tmod 2 = ((kk % 2 : Nat) : Int) := by rw [Int.tmod_eq_emod_of_nonneg (by omega)]; omega
          have hd : (kk : Int).tdiv 2 = ((kk / 2 : Nat) : Int) := by rw [Int.tdiv_eq_ediv_of_nonneg (by omega)]; omega
          have hle : uu + kk % 2 ≤ 8 * (j + 1) := by omega
          go_wp2
          go_round
          case rel => exact ⟨uu + kk % 2, kk / 2, by go_num, by go_num, by omega, by omega⟩
          case measure => simp [intOf]; omega
        · obtain rfl : kk = 0 := by omega
          rw [Dk.pop_zero, Nat.add_zero] at hsum
          go_wp2
          go_roundw
          case rel => exact ⟨j + 1, by omega, by rw [hz, hsum], by go_num, hbw2⟩
          case measure => simp [intOf]; omega
    · obtain rfl : j = b.size := by omega
      rw [hct]
      have hp16 : Dk.pop 16 T ≤ 16 := by rw [Dk.pop_cnt]; exact Dk.cnt_le _ 16
      have Bf := B10.trans (hbw.mono B10.size)
      clear hcl hdb h10' hcv hct
      generalize hP : Dk.pop 16 T = PT at *
      go_wp2_with fail
      go_loop [11, 14] (fun u q => ∃ uu kk : Nat, u = .int .i64 (uu : Int) ∧ q = .int .u16 (kk : Int) ∧ kk < 65536 ∧ uu + Dk.pop 16 kk = PT) (fun _ q => (intOf q).toNat)
      case atStart => exact ⟨0, T, rfl, by rw [hT], hT2, by rw [hP, Nat.zero_add]⟩
      case round =>
        obtain ⟨uu, kk, rfl, rfl, hkk, hsum⟩ := hrel
        have hps := Dk.pop_step 16 kk hkk
        by_cases hpos : 0 < kk
        · have hm : (kk : Int).tmod 2 = ((kk % 2 : Nat) : Int) := by rw [Int.tmod_eq_emod_of_nonneg (by omega)]; omega
          have hd : (kk : Int).tdiv 2 = ((kk / 2 : Nat) : Int) := by rw [Int.tdiv_eq_ediv_of_nonneg (by omega)]; omega
          have hle : uu + kk % 2 ≤ 16 := by omega
          go_wp2
          go_round
          case rel => exact ⟨uu + kk % 2, kk / 2, by go_num, by go_num, by omega, by omega⟩
          case measure => simp [intOf]; omega
        · obtain rfl : kk = 0 := by omega
          rw [Dk.pop_zero, Nat.add_zero] at hsum
          subst hsum
          go_wp2
          go_ret
          exact ⟨rfl, Bf⟩

theorem turns_walk (b : ByteArray) (at0 t : Int) (hb : b.size ≤ maxLen) (w : World) :
    Calls Try.prog 5 #[.string b, .int .i64 at0, .int .i64 t] w fun e w' => e = .returned (.bool true) ∧ Below w.heap.size w w' := by
  by_cases h : b.size < 2 ∨ 1000 < b.size
  · exact turns_out b at0 t hb h w
  · exact turns_in b at0 t (by omega) (by omega) w
end Go.Proofs.Ytcopjgincdbliaa
