/-
  FrameCuts: frames of which the last ones are cut off at any byte are scanned to just those that are whole. For every input.
-/
import Derived.Test.YtfnaldiacncjfaaAwf
import Derived.Test.YtfnaldiacncjfaaTex
import Derived.Test.YtfnaldiacncjfaaFrc
import Derived.OpenShut
namespace Go.Proofs.Ytfnaldiacncjfaa
open Go.RowKit

theorem Made.bytes {w : World} {base : Nat} {v : Value} {l : List UInt8} (h : Made w base v l) : ∃ ao cap, v = .slice ao l.length cap ∧ Bytes w ao l.length cap l ∧ cap ≤ maxLen := by
  rcases h.2 with ⟨rfl, h0⟩ | ⟨g, cap, cur, rfl, hb, hg, hnc, hcm, hcs, htake⟩
  · have h1 : l = [] := List.eq_nil_of_length_eq_zero h0
    subst h1
    exact ⟨none, 0, rfl, Bytes.nil w, Nat.zero_le _⟩
  · exact ⟨some ⟨g, 0, none⟩, cap, rfl, Bytes.own h, hcm⟩

theorem Bodies.val {w : World} {base : Nat} {v : Value} {L : List (List UInt8)} (h : Bodies w base v L) : ∃ ao cap, v = .slice ao L.length cap := by
  obtain ⟨xs, h1, -⟩ := h
  rcases h1.2 with ⟨rfl, h0⟩ | ⟨g, cap, cur, rfl, _⟩
  · exact ⟨none, 0, by rw [h0]⟩
  · exact ⟨_, _, rfl⟩
theorem Fr.drop_inj {l : List UInt8} {a b : Nat} (ha : a ≤ l.length) (hb : b ≤ l.length) (h : l.drop a = l.drop b) : a = b := by
  have := congrArg List.length h
  rw [List.length_drop, List.length_drop] at this
  omega

theorem dl_take (S : List ByteArray) (k : Nat) : dl (S.take k) = (dl S).take k := by rw [dl, dl, List.map_take]

/-- What is to be known of the scan of cut frames. -/
theorem cut_facts (S : List ByteArray) (k : Nat) (hS : ∀ s ∈ S, s.size ≤ 1000) (hk : k ≤ (Fr.frames (dl S)).length) :
    ∃ q, q ≤ S.length ∧ (Fr.scan ((Fr.frames (dl S)).take k)).1 = dl (S.take q) ∧ (Fr.scan ((Fr.frames (dl S)).take k)).2 = ((Fr.frames (dl S)).take k).drop (Fr.frames (dl (S.take q))).length ∧
      (Fr.frames (dl (S.take q))).length ≤ k ∧ (q = S.length ∨ (q < S.length ∧ k < (Fr.frames (dl (S.take q))).length + ((S.getD q ByteArray.empty).size + 6))) := by
  have hb : ∀ b ∈ dl S, b.length ≤ 65529 := by
    intro b hb
    obtain ⟨s, hs, rfl⟩ := List.mem_map.1 hb
    have := hS s hs
    rw [Array.length_toList]
    have : s.data.size = s.size := rfl
    omega
  obtain ⟨L1, L2, h1, h2, h3, h4⟩ := Fr.scan_cut (dl S) k hb hk
  have hl : L1.length + L2.length = S.length := by rw [← dl_length S, h1, List.length_append]
  have e1 : dl (S.take L1.length) = L1 := by rw [dl_take, h1, List.take_left]
  refine ⟨L1.length, by omega, by rw [e1, h2], by rw [e1, h2], by rw [e1]; exact h3, ?_⟩
  rcases h4 with rfl | ⟨b, L3, rfl, h5⟩
  · left
    simpa using hl
  · right
    have hlt : L1.length < S.length := by rw [← hl]; simp
    refine ⟨hlt, ?_⟩
    rw [e1]
    have h6 := dl_get S L1.length hlt
    rw [h1, List.getElem?_append_right (Nat.le_refl _), Nat.sub_self] at h6
    have h7 := Option.some.inj h6
    have h8 : (S.getD L1.length ByteArray.empty).data.toList.length = (S.getD L1.length ByteArray.empty).size := by rw [Array.length_toList]; rfl
    rw [← h8, ← h7]
    exact h5

set_option maxHeartbeats 4000000 in
theorem cuts_walk (ao : Option Addr) (m c : Nat) (S : List ByteArray) (u : Nat) (hu : u < 18446744073709551616) (w : World) (hT : Txts w ao m c S) (hm : c ≤ maxLen) :
    Calls Try.prog 6 #[.slice ao m c, .int .u64 (u : Int)] w fun e w' => e = .returned (.bool true) ∧ Below w.heap.size w w' := by
  have hroom := hT.room
  have hlen := hT.len
  by_cases hf : fits S
  · go_enter Try.func6, Try.ntmps6
    go_wp2_with fail
    refine (awake_any _).mono ?_
    rintro e w1 ⟨rfl, hb1⟩
    have hT1 := hT.below hb1 (Nat.le_refl _)
    go_wp2_with fail
    refine (laid_ok _ _ _ _ _ hT1 hf).mono ?_
    rintro e w2 ⟨v, rfl, hM, hb2⟩
    have hT2 := hT1.below hb2 (Nat.le_refl _)
    have s2 := hb1.trans (hb2.mono hb1.size)
    obtain ⟨a2, cap, rfl, hB, hcap⟩ := hM.bytes
    have hFl := Fr.frames_le S hf.2
    have hS1 := hf.1
    obtain ⟨k, hk⟩ : ∃ k, k = u % ((Fr.frames (dl S)).length + 1) := ⟨_, rfl⟩
    have hkl : k ≤ (Fr.frames (dl S)).length := by rw [hk]; exact Nat.le_of_lt_succ (Nat.mod_lt _ (Nat.succ_pos _))
    have hki : (u : Int) % (((Fr.frames (dl S)).length : Int) + 1) = (k : Int) := by rw [hk, Int.natCast_emod, Int.natCast_add]; rfl
    clear hk
    obtain ⟨q, q1, q2, q3, q4, q5⟩ := cut_facts S k hf.2 hkl
    have hBk := hB.take k hkl
    have hkc := hBk.room
    have hcm := hm
    have hcapm := hcap
    unfold maxLen at hm hcap
    clear hb1 hb2 hT hT1 hM hB
    generalize hF : (Fr.frames (dl S)).length = n at *
    generalize (Fr.frames (dl S)) = F at *
    have hnm : n ≤ 100600 := by omega
    go_wp2_with fail
    refine (scan_any _ _ _ _ _ hBk hcapm (by omega)).mono ?_
    rintro e w3 ⟨v3, A, rfl, hA1, hA2, hB3, hb3⟩
    rw [q2] at hB3
    have hA : A = (Fr.frames (dl (S.take q))).length := Fr.drop_inj (by rw [List.length_take]; omega) (by rw [List.length_take]; omega) (hA2.symm.trans q3)
    have hT3 := hT2.below hb3 (Nat.le_refl _)
    have s3 := s2.trans (hb3.mono s2.size)
    rw [← hA] at q4 q5
    obtain ⟨aV, cV, rfl⟩ := hB3.val
    rw [dl_length, List.length_take, Nat.min_eq_left q1] at hB3 ⊢
    have hTq := hT3.take q (by omega)
    have HA : Hid _ := hA
    have Hq5 : Hid _ := q5
    have hdk : ((A : Int) == (k : Int)) = decide (A = k) := by rw [Bool.eq_iff_iff, beq_iff_eq, decide_eq_true_eq]; omega
    have hmq : ¬ m < q := by omega
    clear hA2 q2 q3 hBk hT2 hA q5 hF hki
    go_wp2_with fail
    refine (texts_same _ _ _ _ _ _ _ hB3 hTq (by unfold maxLen; omega)).mono ?_
    rintro e w4 ⟨rfl, hb4⟩
    have hB4 := hB3.below hb4
    have hT4 := hT3.below hb4 (Nat.le_refl _)
    have s4 := s3.trans (hb4.mono s3.size)
    clear hB3 hT3 hTq hb4 s3 hb3 s2
    have hAk : ¬ k < A := by omega
    go_wp2_with fail
    go_loop [11, 65] (fun z i => ∃ j : Nat, j ≤ q ∧ z = .int .i64 (((Fr.frames (dl (S.take j))).length : Nat) : Int) ∧ i = .int .i64 (j : Int)) (fun _ i => q - (intOf i).toNat)
    case atStart => exact ⟨0, Nat.zero_le _, by simp [dl, Fr.frames], rfl⟩
    case round =>
      obtain ⟨j, hj, rfl, rfl⟩ := hrel
      by_cases hjq : j < q
      · have Hs : Hid ((Fr.frames (dl (S.take (j + 1)))).length = (Fr.frames (dl (S.take j))).length + (S.getD j ByteArray.empty).size + 6) := by
          have h8 : (S.getD j ByteArray.empty).data.toList.length = (S.getD j ByteArray.empty).size := by rw [Array.length_toList]; rfl
          rw [Hid, Fr.frames_snoc S j (by omega), List.length_append, Fr.frame_length, h8]
          omega
        have hz1 : (S.getD j ByteArray.empty).size ≤ 1000 := hf.2 _ (by simp [List.getD, show j < S.length by omega])
        have hz2 := Fr.frames_le (S.take j) (fun s hs => hf.2 s (List.mem_of_mem_take hs))
        rw [List.length_take] at hz2
        have hz3 : (Fr.frames (dl (S.take j))).length ≤ 100600 := by omega
        rcases hB4.at with ⟨h0, _⟩ | ⟨G, cap', hv, -, -, -, hat⟩
        · have := congrArg List.length h0
          rw [List.length_take, List.length_nil] at this
          omega
        simp only [Value.slice.injEq] at hv
        obtain ⟨rfl, -, rfl⟩ := hv
        obtain ⟨g, c', hc1, -⟩ := hat j (by rw [List.length_take]; omega)
        have e1 : (S.take q).getD j ByteArray.empty = S.getD j ByteArray.empty := by simp [List.getD, hjq]
        rw [e1] at hc1
        clear hat hz2 e1
        generalize (S.getD j ByteArray.empty).size = x at *
        generalize (Fr.frames (dl (S.take j))).length = y at *
        go_wp2
        go_round
        case rel => exact ⟨j + 1, by omega, by rw [Hs.out]; go_num, by go_num⟩
        case measure => simp [intOf]; omega
      · obtain rfl : j = q := by omega
        rw [← HA.out]
        by_cases hq : j = m
        · subst hq
          go_wp2
          go_ret
          exact ⟨rfl, s4⟩
        · rcases Hq5.out with h | ⟨h1, h2⟩
          · omega
          rcases hT4.norm with ⟨h0, _⟩ | ⟨b', off', rfl, -, hcell⟩
          · omega
          have hc2 := hcell j (by omega)
          have hz1 : (S.getD j ByteArray.empty).size ≤ 1000 := hf.2 _ (by simp [List.getD, show j < S.length by omega])
          generalize S.getD j ByteArray.empty = x at *
          have h3 : (k : Int) < (A : Int) + (x.size : Int) + 6 := by omega
          have hjm : ¬ (j : Int) = (m : Int) := by omega
          have hjm2 : j < m := by omega
          clear hcell Hq5 h2
          go_wp2
          go_ret
          exact ⟨rfl, s4⟩
  · go_enter Try.func6, Try.ntmps6
    go_wp2_with fail
    refine (awake_any _).mono ?_
    rintro e w1 ⟨rfl, hb1⟩
    have hT1 := hT.below hb1 (Nat.le_refl _)
    go_wp2_with fail
    refine (laid_no _ _ _ _ _ hT1 (by omega) hf).mono ?_
    rintro e w2 ⟨rfl, hb2⟩
    go_wp2
    go_ret
    exact ⟨rfl, hb1.trans (hb2.mono hb1.size)⟩

/-- The walk, over the arguments as they come. -/
theorem cuts_run (ao : Option Addr) (m c : Nat) (S : List ByteArray) (u : Int) (hu : (Lit.int .u64 u).wf = true) (w : World) (hT : Txts w ao m c S) (hm : c ≤ maxLen) :
    Calls Try.prog 6 #[.slice ao m c, .int .u64 u] w fun e w' => e = .returned (.bool true) ∧ Below w.heap.size w w' := by
  have b1 := bounds_u64 hu
  obtain ⟨n, rfl⟩ := Int.eq_ofNat_of_zero_le b1.1
  exact cuts_walk ao m c S n (by omega) w hT hm
end Go.Proofs.Ytfnaldiacncjfaa
