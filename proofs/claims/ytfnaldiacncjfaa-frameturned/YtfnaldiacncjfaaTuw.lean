/-
  FrameTurned: of frames in which bits within 16 side by side are turned those ahead of these are scanned, and no others. For every input.
-/
import Derived.Test.YtfnaldiacncjfaaKew
import Derived.Test.YtfnaldiacncjfaaFrt
namespace Go.Proofs.Ytfnaldiacncjfaa
open Go.RowKit

theorem flip_bs (l : List UInt8) (p : Nat) : bs (Fr.flip l p) = (bs l).set (p / 8) (.int .u8 (bits .xor .u8 ((l.getD (p / 8) 0).toNat : Int) (128 / 2 ^ (p % 8)))) := by
  have h1 : 128 / 2 ^ (p % 8) < 256 := Nat.lt_of_le_of_lt (Nat.div_le_self _ _) (by omega)
  have h2 := u8_xor_nat (l.getD (p / 8) 0).toNat (128 / 2 ^ (p % 8)) (l.getD (p / 8) 0).toNat_lt h1
  have h3 : (((128 / 2 ^ (p % 8) : Nat)) : Int) = 128 / 2 ^ (p % 8) := by simp
  rw [h3] at h2
  rw [h2, Fr.flip, bs, List.map_set, UInt8.toNat_xor, toNat_ofNat_lt _ h1]
  rfl
theorem bit_and (t i c : Nat) (ht : t < 65536) (h : t / 2 ^ (15 - i) % 2 = c) : bits .and .u16 ((t : Int) / 2 ^ (15 - i)) 1 = (c : Int) := by
  have h1 : ((t : Int) / 2 ^ (15 - i)) = ((t / 2 ^ (15 - i) : Nat) : Int) := by simp
  have h2 := u16_and_nat (t / 2 ^ (15 - i)) 1 (Nat.lt_of_le_of_lt (Nat.div_le_self _ _) ht) (by omega)
  rw [Nat.and_one_is_mod, h] at h2
  rw [h1]
  exact h2

/-- The byte of the first bit that is turned; -1: none yet. -/
def Fr.frst (k t : Nat) : Nat → Int
  | 0 => -1
  | i + 1 => if t / 2 ^ (15 - i) % 2 = 1 ∧ Fr.frst k t i < 0 then (((k + i) / 8 : Nat) : Int) else Fr.frst k t i
theorem Fr.frst_none (k t : Nat) : ∀ i, (∀ j, j < i → ¬ t / 2 ^ (15 - j) % 2 = 1) → Fr.frst k t i = -1
  | 0, _ => rfl
  | i + 1, h => by rw [Fr.frst, Fr.frst_none k t i (fun j hj => h j (by omega)), if_neg (fun e => h i (by omega) e.1)]
theorem Fr.frst_some (k t i0 : Nat) (h0 : t / 2 ^ (15 - i0) % 2 = 1) (h : ∀ j, j < i0 → ¬ t / 2 ^ (15 - j) % 2 = 1) : ∀ i, i0 < i → Fr.frst k t i = (((k + i0) / 8 : Nat) : Int)
  | 0, hi => by omega
  | i + 1, hi => by
    by_cases e : i = i0
    · subst e
      rw [Fr.frst, Fr.frst_none k t i h, if_pos ⟨h0, by omega⟩]
    · rw [Fr.frst, Fr.frst_some k t i0 h0 h i (by omega), if_neg (by omega)]
theorem Fr.first_bit (t : Nat) : ∀ n, n ≤ 16 → (∀ j, j < n → ¬ t / 2 ^ (15 - j) % 2 = 1) ∨ ∃ i0, i0 < n ∧ t / 2 ^ (15 - i0) % 2 = 1 ∧ ∀ j, j < i0 → ¬ t / 2 ^ (15 - j) % 2 = 1
  | 0, _ => .inl fun _ h => by omega
  | n + 1, hn => by
    rcases Fr.first_bit t n (by omega) with h | ⟨i0, h1, h2, h3⟩
    · by_cases hb : t / 2 ^ (15 - n) % 2 = 1
      · exact .inr ⟨n, by omega, hb, h⟩
      · refine .inl fun j hj => ?_
        by_cases e : j = n
        · rw [e]; exact hb
        · exact h j (by omega)
    · exact .inr ⟨i0, by omega, h2, h3⟩
theorem Fr.high_zero (t : Nat) (ht : t < 65536) : ∀ n, n ≤ 16 → (∀ j, j < n → ¬ t / 2 ^ (15 - j) % 2 = 1) → t < 2 ^ (16 - n)
  | 0, _, _ => by simpa using ht
  | n + 1, hn, h => by
    have h1 := Fr.high_zero t ht n (by omega) (fun j hj => h j (by omega))
    have h2 := h n (by omega)
    have e : 2 ^ (16 - n) = 2 ^ (15 - n) * 2 := by rw [show 16 - n = (15 - n) + 1 by omega, Nat.pow_succ]
    rw [e] at h1
    have h3 : t / 2 ^ (15 - n) < 2 := Nat.div_lt_of_lt_mul h1
    have h4 : t / 2 ^ (15 - n) = 0 := by
      generalize t / 2 ^ (15 - n) = x at *
      omega
    rw [show 16 - (n + 1) = 15 - n by omega]
    exact (Nat.div_eq_zero_iff_lt (Nat.two_pow_pos _)).1 h4
theorem Fr.bit_of (t : Nat) (ht : t < 65536) (h0 : t ≠ 0) : ∃ i0, i0 < 16 ∧ t / 2 ^ (15 - i0) % 2 = 1 ∧ ∀ j, j < i0 → ¬ t / 2 ^ (15 - j) % 2 = 1 := by
  rcases Fr.first_bit t 16 (by omega) with h | h
  · have := Fr.high_zero t ht 16 (by omega) h
    simp only [Nat.sub_self, Nat.pow_zero] at this
    omega
  · exact h

/-- The frame in which a byte lies. -/
theorem Fr.lies (S : List ByteArray) (P : Nat) : ∀ m, m ≤ S.length → P < (Fr.frames (dl (S.take m))).length → ∃ j, j < m ∧ (Fr.frames (dl (S.take j))).length ≤ P ∧ P < (Fr.frames (dl (S.take j))).length + ((S.getD j ByteArray.empty).size + 6)
  | 0, _, h => by simp [dl, Fr.frames] at h
  | m + 1, hm, h => by
    by_cases h1 : P < (Fr.frames (dl (S.take m))).length
    · obtain ⟨j, h2, h3⟩ := Fr.lies S P m (by omega) h1
      exact ⟨j, by omega, h3⟩
    · have h8 : (S.getD m ByteArray.empty).data.toList.length = (S.getD m ByteArray.empty).size := by rw [Array.length_toList]; rfl
      rw [Fr.frames_snoc S m (by omega), List.length_append, Fr.frame_length, h8] at h
      exact ⟨m, by omega, by omega, by omega⟩
theorem Fr.frames_mono (S : List ByteArray) (i : Nat) : ∀ j, i ≤ j → j ≤ S.length → (Fr.frames (dl (S.take i))).length ≤ (Fr.frames (dl (S.take j))).length
  | 0, h, _ => by
    obtain rfl : i = 0 := by omega
    exact Nat.le_refl _
  | j + 1, h, hj => by
    by_cases e : i = j + 1
    · rw [e]; exact Nat.le_refl _
    · have := Fr.frames_mono S i j (by omega) (by omega)
      rw [Fr.frames_snoc S j (by omega), List.length_append]
      omega
theorem dl_split (S : List ByteArray) (j : Nat) (hj : j < S.length) : dl S = dl (S.take j) ++ (S.getD j ByteArray.empty).data.toList :: dl (S.drop (j + 1)) := by
  have e2 : S.getD j ByteArray.empty = S[j] := by simp [List.getD, hj]
  conv => lhs; rw [← List.take_append_drop j S, List.drop_eq_getElem_cons hj]
  rw [e2, dl, dl, dl, List.map_append, List.map_cons]
/-- What is to be known of the scan of turned frames. -/
theorem turned_facts (S : List ByteArray) (hS : ∀ s ∈ S, s.size ≤ 1000) (k t : Nat) (ht : t < 65536) (h0 : t ≠ 0) (hk : k + 16 ≤ 8 * (Fr.frames (dl S)).length) :
    ∃ j P : Nat, j < S.length ∧ Fr.frst k t 16 = (P : Int) ∧ (Fr.frames (dl (S.take j))).length ≤ P ∧ P < (Fr.frames (dl (S.take j))).length + ((S.getD j ByteArray.empty).size + 6) ∧
      (Fr.scan (Fr.turn (Fr.frames (dl S)) k t 16)).1 = dl (S.take j) ∧ (Fr.scan (Fr.turn (Fr.frames (dl S)) k t 16)).2 = (Fr.turn (Fr.frames (dl S)) k t 16).drop (Fr.frames (dl (S.take j))).length ∧
      (Fr.frames (dl (S.take j))).length < (Fr.frames (dl S)).length := by
  obtain ⟨i0, h1, h2, h3⟩ := Fr.bit_of t ht h0
  have hP : (k + i0) / 8 < (Fr.frames (dl (S.take S.length))).length := by rw [List.take_length]; omega
  obtain ⟨j, hj, hl, hu⟩ := Fr.lies S ((k + i0) / 8) S.length (Nat.le_refl _) hP
  have h8 : (S.getD j ByteArray.empty).data.toList.length = (S.getD j ByteArray.empty).size := by rw [Array.length_toList]; rfl
  have hsm := dl_small S hS
  have hsp := dl_split S j hj
  have hst := Fr.scan_turned (dl (S.take j)) (dl (S.drop (j + 1))) (S.getD j ByteArray.empty).data.toList k t i0 (fun x hx => hsm x (by rw [hsp]; exact List.mem_append_left _ hx)) (hsm _ (by rw [hsp]; simp)) h1 h2 h3 hl (by rw [h8]; exact hu)
  rw [← hsp] at hst
  refine ⟨j, (k + i0) / 8, hj, Fr.frst_some k t i0 h2 h3 16 h1, hl, hu, by rw [hst.1], by rw [hst.1], by rw [List.take_length] at hP; omega⟩

set_option maxHeartbeats 8000000 in
set_option maxRecDepth 100000 in
theorem turned_walk (ao : Option Addr) (m c : Nat) (S : List ByteArray) (at' t : Nat) (hat : at' < 18446744073709551616) (ht : t < 65536) (w : World) (hT : Txts w ao m c S) (hm : c ≤ maxLen) :
    Calls Try.prog 7 #[.slice ao m c, .int .u64 (at' : Int), .int .u16 (t : Int)] w fun e w' => e = .returned (.bool true) ∧ Below w.heap.size w w' := by
  have hroom := hT.room
  have hlen := hT.len
  by_cases hf : fits S
  · go_enter Try.func7, Try.ntmps7
    go_wp2_with fail
    refine (awake_any _).mono ?_
    rintro e w1 ⟨rfl, hb1⟩
    have hT1 := hT.below hb1 (Nat.le_refl _)
    go_wp2_with fail
    refine (laid_ok _ _ _ _ _ hT1 hf).mono ?_
    rintro e w2 ⟨v, rfl, hM, hb2⟩
    have s2 := hb1.trans (hb2.mono hb1.size)
    have hMlt : ∀ k, v.ownBlock = some k → w1.heap.size ≤ k ∧ k < w2.heap.size := fun k hk => World.ownsRow.lt hM k hk
    have hFl := Fr.frames_le S hf.2
    have hS1 := hf.1
    have t1 := hb1.size
    by_cases hsmall : (Fr.frames (dl S)).length < 2
    · obtain ⟨a2, cap, rfl, hB, hcap⟩ := hM.bytes
      generalize (Fr.frames (dl S)).length = n at *
      go_wp2
      go_ret
      exact ⟨rfl, s2⟩
    by_cases ht0 : t = 0
    · subst ht0
      obtain ⟨a2, cap, rfl, hB, hcap⟩ := hM.bytes
      generalize (Fr.frames (dl S)).length = n at *
      go_wp2
      go_ret
      exact ⟨rfl, s2⟩
    have hmod : (at' : Int) % (8 * ((Fr.frames (dl S)).length : Int) - 15) = ((at' % (8 * (Fr.frames (dl S)).length - 15) : Nat) : Int) := by
      rw [Int.natCast_emod]; congr 1; omega
    have hk : at' % (8 * (Fr.frames (dl S)).length - 15) < 8 * (Fr.frames (dl S)).length - 15 := Nat.mod_lt _ (by omega)
    generalize at' % (8 * (Fr.frames (dl S)).length - 15) = k at *
    obtain ⟨j, P, hj, hP, q1, q2, q3, q4, q5⟩ := turned_facts S hf.2 k t ht ht0 (by omega)
    have htl := Fr.turn_length (Fr.frames (dl S)) k t
    rcases hM.2 with ⟨h, h0⟩ | ⟨g, cap, cur, rfl, hbg, hgg, hnc, hcm, -⟩
    · omega
    clear hgg
    have hgb := hMlt g rfl
    have hgB : w.heap.size ≤ g := by omega
    have Hq3 : Hid _ := q3
    have Hq4 : Hid _ := q4
    have HP : Hid _ := hP
    have Htl : Hid _ := htl
    have hte : ((t : Int) == 0) = false := by rw [beq_eq_false_iff_ne]; omega
    clear q3 q4 hP htl hMlt hb1 hb2 hT1
    rw [Made] at hM
    generalize Fr.frames (dl S) = F at *
    generalize hn : F.length = n at *
    have hnm : n ≤ 100600 := by omega
    have hcm' := hcm
    unfold maxLen at hcm
    go_wp2_with fail
    go_loopw [10, 11] (fun fv iv wr => ∃ i : Nat, i ≤ 16 ∧ fv = .int .i64 (Fr.frst k t i) ∧ iv = .int .i64 (i : Int) ∧ wr.ownsRow w1.heap.size 5 1 (.slice (some ⟨g, 0, none⟩) n cap) n (bs (Fr.turn F k t i)) ∧ Below w.heap.size w wr) (fun _ iv _ => 16 - (intOf iv).toNat)
    case atStart => exact ⟨0, by omega, rfl, rfl, hM, s2⟩
    case round =>
      obtain ⟨i, hi, rfl, rfl, hown, hbel⟩ := hrel
      clear hM s2
      by_cases hlt : i < 16
      · have hq : (k + i) / 8 < n := by omega
        by_cases hbit : t / 2 ^ (15 - i) % 2 = 1
        · have hand := bit_and t i 1 ht hbit
          have hc := row_cell hown ((k + i) / 8) hq
          have hfz := hown.frozenAt ((k + i) / 8)
          have HT : Hid (Fr.turn F k t (i + 1) = Fr.flip (Fr.turn F k t i) (k + i)) := by rw [Hid, Fr.turn, if_pos hbit]
          have Hst : Hid ((wr.setCell ⟨g, (k + i) / 8, none⟩ (.int .u8 (bits .xor .u8 (((Fr.turn F k t i).getD ((k + i) / 8) 0).toNat : Int) (128 / 2 ^ ((k + i) % 8))))).ownsRow w1.heap.size 5 1 (.slice (some ⟨g, 0, none⟩) n cap) n (bs (Fr.turn F k t (i + 1)))) := by
            show World.ownsRow _ _ _ _ _ _ _
            rw [HT.out, flip_bs]
            exact (hown.stored _ _).1
          have hFn : Hid (Fr.frst k t (i + 1) = if Fr.frst k t i < 0 then (((k + i) / 8 : Nat) : Int) else Fr.frst k t i) := by
            rw [Hid, Fr.frst]
            by_cases h : Fr.frst k t i < 0
            · rw [if_pos ⟨hbit, h⟩, if_pos h]
            · rw [if_neg (fun e => h e.2), if_neg h]
          clear hown hbit HT
          generalize ((Fr.turn F k t i).getD ((k + i) / 8) 0).toNat = x at *
          generalize Fr.frst k t i = f0 at *
          have hqc : (k + i) / 8 < cap := by omega
          by_cases hneg : f0 < 0
          · go_wp2
            go_roundw
            case rel => exact ⟨i + 1, by omega, by rw [hFn.out, if_pos hneg]; go_num, by go_num, Hst.out, hbel.setCell hgB _⟩
            case measure => simp [intOf]; omega
          · go_wp2
            go_roundw
            case rel => exact ⟨i + 1, by omega, by rw [hFn.out, if_neg hneg], by go_num, Hst.out, hbel.setCell hgB _⟩
            case measure => simp [intOf]; omega
        · have hbit0 : t / 2 ^ (15 - i) % 2 = 0 := by omega
          have hand := bit_and t i 0 ht hbit0
          have HT : Hid (Fr.turn F k t (i + 1) = Fr.turn F k t i) := by rw [Hid, Fr.turn, if_neg hbit]
          have hFn : Hid (Fr.frst k t (i + 1) = Fr.frst k t i) := by rw [Hid, Fr.frst, if_neg (fun e => hbit e.1)]
          clear hbit hbit0
          generalize Fr.frst k t i = f0 at *
          go_wp2
          go_roundw
          case rel => exact ⟨i + 1, by omega, by rw [hFn.out], by go_num, by rw [HT.out]; exact hown, hbel⟩
          case measure => simp [intOf]; omega
      · obtain rfl : i = 16 := by omega
        rw [HP.out]
        have hTl := Htl.out 16
        have hBy := Bytes.own hown
        generalize Fr.turn F k t 16 = Tn at *
        go_wp2_with fail
        refine (scan_any _ _ _ _ _ hBy hcm' (by omega)).mono ?_
        rintro e w3 ⟨v3, A, rfl, hA1, hA2, hB3, hb3⟩
        rw [Hq3.out] at hB3
        have hA : A = (Fr.frames (dl (S.take j))).length := Fr.drop_inj (by omega) (by omega) (hA2.symm.trans Hq4.out)
        have s3 := hbel.trans (hb3.mono hbel.size)
        obtain ⟨aV, cV, rfl⟩ := hB3.val
        rw [dl_length, List.length_take, Nat.min_eq_left (by omega)] at hB3 ⊢
        have hdA : decide (A = n) = false := by rw [decide_eq_false_iff_not]; omega
        rw [hdA]
        have hT3 := hT.below s3 (Nat.le_refl _)
        have HA : Hid _ := hA
        clear hA hA2 hown hbel hb3 hBy Hq3 Hq4 hdA
        go_wp2_with fail
        go_loop [15, 16] (fun z i => ∃ x : Nat, x ≤ j ∧ z = .int .i64 (((Fr.frames (dl (S.take x))).length : Nat) : Int) ∧ i = .int .i64 (x : Int)) (fun _ i => j - (intOf i).toNat)
        case atStart => exact ⟨0, Nat.zero_le _, by simp [dl, Fr.frames], rfl⟩
        case round =>
          obtain ⟨x, hx, rfl, rfl⟩ := hrel
          rcases hT3.norm with ⟨h0, _⟩ | ⟨b', off', rfl, -, hcell⟩
          · omega
          have hc2 := hcell x (by omega)
          have hz1 : (S.getD x ByteArray.empty).size ≤ 1000 := hf.2 _ (by simp [List.getD, show x < S.length by omega])
          have hz2 := Fr.frames_le (S.take x) (fun s hs => hf.2 s (List.mem_of_mem_take hs))
          rw [List.length_take] at hz2
          have hz3 : (Fr.frames (dl (S.take x))).length ≤ 100600 := by omega
          have hxm : x < m := by omega
          by_cases hxj : x < j
          · have h8 : (S.getD x ByteArray.empty).data.toList.length = (S.getD x ByteArray.empty).size := by rw [Array.length_toList]; rfl
            have Hs : Hid ((Fr.frames (dl (S.take (x + 1)))).length = (Fr.frames (dl (S.take x))).length + (S.getD x ByteArray.empty).size + 6) := by
              rw [Hid, Fr.frames_snoc S x (by omega), List.length_append, Fr.frame_length, h8]
              omega
            have hmono := Fr.frames_mono S (x + 1) j (by omega) (by omega)
            rw [Hs.out] at hmono
            have hle : ((Fr.frames (dl (S.take x))).length : Int) + ((S.getD x ByteArray.empty).size : Int) + 6 ≤ (P : Int) := by omega
            clear hcell hz2 hmono h8
            generalize S.getD x ByteArray.empty = y at *
            generalize (Fr.frames (dl (S.take x))).length = z at *
            go_wp2
            go_round
            case rel => exact ⟨x + 1, by omega, by rw [Hs.out]; go_num, by go_num⟩
            case measure => simp [intOf]; omega
          · obtain rfl : x = j := by omega
            have hgt : ¬ ((Fr.frames (dl (S.take x))).length : Int) + ((S.getD x ByteArray.empty).size : Int) + 6 ≤ (P : Int) := by omega
            have hTq := hT3.take x (by omega)
            clear hcell hz2
            generalize S.getD x ByteArray.empty = y at *
            rw [← HA.out] at *
            go_wp2_with fail
            refine (texts_same _ _ _ _ _ _ _ hB3 hTq (by unfold maxLen; omega)).mono ?_
            rintro e w4 ⟨rfl, hb4⟩
            have s4 := s3.trans (hb4.mono s3.size)
            go_wp2
            go_ret
            exact ⟨rfl, s4⟩
  · go_enter Try.func7, Try.ntmps7
    go_wp2_with fail
    refine (awake_any _).mono ?_
    rintro e w1 ⟨rfl, hb1⟩
    have hT1 := hT.below hb1 (Nat.le_refl _)
    go_wp2_with fail
    refine (laid_no _ _ _ _ _ hT1 (by omega) hf).mono ?_
    rintro e w2 ⟨rfl, hb2⟩
    go_wp2
    go_ret
    exact ⟨rfl, hb1.trans (hb2.mono hb1.size)⟩

/-- The walk, over the arguments as they come. -/
theorem turned_run (ao : Option Addr) (m c : Nat) (S : List ByteArray) (u t : Int) (hu : (Lit.int .u64 u).wf = true) (ht : (Lit.int .u16 t).wf = true) (w : World) (hT : Txts w ao m c S) (hm : c ≤ maxLen) :
    Calls Try.prog 7 #[.slice ao m c, .int .u64 u, .int .u16 t] w fun e w' => e = .returned (.bool true) ∧ Below w.heap.size w w' := by
  have b1 := bounds_u64 hu
  have b2 := bounds_u16 ht
  obtain ⟨n, rfl⟩ := Int.eq_ofNat_of_zero_le b1.1
  obtain ⟨k, rfl⟩ := Int.eq_ofNat_of_zero_le b2.1
  exact turned_walk ao m c S n k (by omega) (by omega) w hT hm
end Go.Proofs.Ytfnaldiacncjfaa
