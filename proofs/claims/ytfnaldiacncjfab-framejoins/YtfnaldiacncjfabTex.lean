/-
  Lists of texts in memory; what the statements' texts comes to where the two lists hold the same.
-/
import Derived.Test.YtfnaldiacncjfabFsc
import Derived.Test.YtfnaldiacncjfabFpu
namespace Go.Proofs.Ytfnaldiacncjfab
open Go.RowKit

/-- A list of texts as a call may be handed it. -/
structure Txts (w : World) (ao : Option Addr) (m c : Nat) (S : List ByteArray) : Prop where
  len : S.length = m
  room : m ≤ c
  none : ao = none → m = 0 ∧ c = 0
  cells : ∀ ad, ao = some ad → ∀ j s, S[j]? = some s → w.cell? (ad.add j) = some (.string s)
  small : ∀ s ∈ S, s.size ≤ maxLen

theorem Txts.below {w w' : World} {ao : Option Addr} {m c : Nat} {S : List ByteArray} {B : Nat} (h : Txts w ao m c S) (hb : Below B w w') (hB : w.heap.size ≤ B) : Txts w' ao m c S :=
  ⟨h.len, h.room, h.none, fun ad had j u hu => by
    have hc := h.cells ad had j u hu
    have hlt := World.block_lt_of_cell? w _ hc
    rw [hb.cell (Nat.lt_of_lt_of_le hlt hB)]
    exact hc, h.small⟩
theorem Txts.norm {w : World} {ao : Option Addr} {m c : Nat} {S : List ByteArray} (h : Txts w ao m c S) :
    (m = 0 ∧ S = []) ∨ ∃ b off, ao = some ⟨b, off, .none⟩ ∧ 0 < m ∧ ∀ j, j < m → w.cell? ⟨b, off + j, .none⟩ = some (.string (S.getD j ByteArray.empty)) := by
  by_cases h0 : m = 0
  · exact .inl ⟨h0, List.eq_nil_of_length_eq_zero (h.len.trans h0)⟩
  · right
    cases ao with
    | none => exact absurd (h.none rfl).1 h0
    | some ad =>
      obtain ⟨b, off, spot⟩ := ad
      have hg : ∀ j, j < m → w.cell? ((⟨b, off, spot⟩ : Addr).add j) = some (.string (S.getD j ByteArray.empty)) := by
        intro j hj
        refine h.cells _ rfl j _ ?_
        have hj' : j < S.length := by rw [h.len]; exact hj
        simp [List.getD, hj']
      have hspot : spot = .none := by simpa [Addr.add] using World.cell?_spot (hg 0 (by omega))
      subst hspot
      exact ⟨b, off, rfl, by omega, fun j hj => by have := hg j hj; rwa [Addr.add_lit] at this⟩
theorem Txts.take {w : World} {ao : Option Addr} {m c : Nat} {S : List ByteArray} (h : Txts w ao m c S) (k : Nat) (hk : k ≤ m) : Txts w ao k c (S.take k) :=
  ⟨by rw [List.length_take, h.len]; omega, by have := h.room; omega, (fun hn => by have := h.none hn; omega),
   (fun ad had j u hu => by
    refine h.cells ad had j u ?_
    rw [List.getElem?_take] at hu
    split at hu
    · exact hu
    · cases hu), fun s hs => h.small s (List.mem_of_mem_take hs)⟩

/-- Texts' bytes. -/
def dl (S : List ByteArray) : List (List UInt8) := S.map fun s => s.data.toList
theorem dl_length (S : List ByteArray) : (dl S).length = S.length := by simp [dl]
theorem dl_get (S : List ByteArray) (i : Nat) (h : i < S.length) : (dl S)[i]? = some (S.getD i ByteArray.empty).data.toList := by
  simp [dl, List.getD, h]
theorem toArray_data (s : ByteArray) : (⟨s.data.toList.toArray⟩ : ByteArray) = s := by cases s; simp

/-- The list's cell, and the text that it holds. -/
theorem Bodies.at {w : World} {base : Nat} {v : Value} {S : List ByteArray} (h : Bodies w base v (dl S)) :
    (S = [] ∧ ((v = .slice none 0 0) ∨ ∃ g cap, v = .slice (some ⟨g, 0, none⟩) 0 cap)) ∨ ∃ G cap, v = .slice (some ⟨G, 0, none⟩) S.length cap ∧ S.length ≤ cap ∧ cap ≤ maxLen ∧ 0 < S.length ∧ ∀ k, k < S.length → ∃ g c, w.cell? ⟨G, k, none⟩ = some (.slice (some ⟨g, 0, none⟩) (S.getD k ByteArray.empty).size c) ∧
      (convert 24 9 (.slice (some ⟨g, 0, none⟩) (S.getD k ByteArray.empty).size c)).run Try.prog w = .ok (.string (S.getD k ByteArray.empty)) w := by
  obtain ⟨xs, h1, h2⟩ := h
  rw [dl_length] at h1
  by_cases h0 : S.length = 0
  · left
    refine ⟨List.eq_nil_of_length_eq_zero h0, ?_⟩
    rcases h1.2 with ⟨rfl, _⟩ | ⟨g, cap, cur, rfl, _⟩
    · exact .inl rfl
    · rw [h0]; exact .inr ⟨g, cap, rfl⟩
  · right
    rcases h1.2 with ⟨rfl, h⟩ | ⟨G, cap, cur, rfl, hb, hg, hnc, hcm, hcs, htake⟩
    · exact absurd h h0
    refine ⟨G, cap, rfl, hnc, hcm, by omega, fun k hk => ?_⟩
    obtain ⟨g, c, h3, h4⟩ := h2 k _ (dl_get S k hk)
    have hl : (S.getD k ByteArray.empty).data.toList.length = (S.getD k ByteArray.empty).size := by rw [Array.length_toList]; rfl
    rw [hl] at h3 h4
    have hc := h1.cells rfl k _ h3
    rw [Addr.add_lit, Nat.zero_add] at hc
    refine ⟨g, c, hc, ?_⟩
    have := conv_own h4
    rwa [toArray_data] at this
theorem Bodies.drawn {w : World} {base : Nat} {v : Value} {L : List (List UInt8)} (h : Bodies w base v L) (n : Nat) : Bodies (w.drewN n) base v L := h.below (Go.Proofs.Ytfnaldiacncjfab.drawn w n)

set_option maxHeartbeats 2000000 in
theorem texts_same (v : Value) (base : Nat) (ao : Option Addr) (m c : Nat) (S : List ByteArray) (w : World) (hB : Bodies w base v (dl S)) (hT : Txts w ao m c S) (hm : m ≤ maxLen) :
    Calls Try.prog 7 #[v, .slice ao m c] w fun e w' => e = .returned (.bool true) ∧ Below w.heap.size w w' := by
  have hmm := hm
  unfold maxLen at hm
  have hlen := hT.len
  rcases hB.at with ⟨rfl, hv⟩ | ⟨G, cap, rfl, hcap, hcapm, hpos, -⟩
  · obtain rfl : m = 0 := by simpa using hlen.symm
    rcases hv with rfl | ⟨g, cap, rfl⟩
    · go_enter Try.func7, Try.ntmps7
      go_wp2
      refine wp_loop_rounds 1 ?_
      rw [rounds_succ]
      go_wp2
      go_ret
      exact ⟨rfl, Below.refl _ _⟩
    · go_enter Try.func7, Try.ntmps7
      go_wp2
      refine wp_loop_rounds 1 ?_
      rw [rounds_succ]
      go_wp2
      go_ret
      exact ⟨rfl, Below.refl _ _⟩
  · rw [hlen] at hcap hpos hB ⊢
    unfold maxLen at hcapm
    rcases hT.norm with ⟨rfl, rfl⟩ | ⟨b, off, rfl, -, -⟩
    · omega
    go_enter Try.func7, Try.ntmps7
    go_wp2_with fail
    go_loopw [13] (fun i wr => ∃ k : Nat, k ≤ m ∧ i = .int .i64 (k : Int) ∧ Below w.heap.size w wr) (fun i _ => m - (intOf i).toNat)
    case atStart => exact ⟨0, Nat.zero_le _, rfl, Below.refl _ _⟩
    case round =>
      obtain ⟨k, hk, rfl, hbel⟩ := hrel
      by_cases hlt : k < m
      · have hBr := hB.below hbel
        have hTr := hT.below hbel (Nat.le_refl _)
        rcases hBr.at with ⟨rfl, _⟩ | ⟨G', cap', hv, -, -, -, hat⟩
        · simp at hlen; omega
        simp only [Value.slice.injEq, Option.some.injEq, Addr.mk.injEq, and_true] at hv
        obtain ⟨rfl, -, rfl⟩ := hv
        rcases hTr.norm with ⟨rfl, rfl⟩ | ⟨b', off', hao, -, hcell⟩
        · omega
        simp only [Option.some.injEq, Addr.mk.injEq, and_true] at hao
        obtain ⟨rfl, rfl⟩ := hao
        have hc2 := hcell k hlt
        obtain ⟨g, c', hc1, -⟩ := hat k (by omega)
        have hcv : ∀ nq, (convert 24 9 (.slice (some ⟨g, 0, none⟩) (S.getD k ByteArray.empty).size c')).run Try.prog (wr.drewN nq) = .ok (.string (S.getD k ByteArray.empty)) (wr.drewN nq) := by
          intro nq
          rcases (hBr.drawn nq).at with ⟨rfl, _⟩ | ⟨G', cap', hv, -, -, -, hat2⟩
          · simp at hlen; omega
          simp only [Value.slice.injEq, Option.some.injEq, Addr.mk.injEq, and_true] at hv
          obtain ⟨rfl, -, rfl⟩ := hv
          obtain ⟨g2, c2, h1, h2⟩ := hat2 k (by omega)
          have e : (wr.drewN nq).cell? ⟨G, k, none⟩ = wr.cell? ⟨G, k, none⟩ := rfl
          rw [e, hc1] at h1
          simp only [Option.some.injEq, Value.slice.injEq, Addr.mk.injEq, and_true, true_and] at h1
          obtain ⟨rfl, rfl⟩ := h1
          exact h2
        clear hat hcell hBr hTr
        generalize S.getD k ByteArray.empty = s at *
        go_wp2_with fail
        go_quiet (fail)
        go_wp2
        go_roundw
        case rel => exact ⟨k + 1, by omega, by go_num, hbel.trans ((drawn wr nq).mono hbel.size)⟩
        case measure => simp [intOf]; omega
      · clear hB hT
        go_wp2
        go_ret
        exact ⟨rfl, hbel⟩

/-- What the statements' laid takes. -/
def fits (S : List ByteArray) : Prop := S.length ≤ 100 ∧ ∀ s ∈ S, s.size ≤ 1000
theorem Fr.frames_le (S : List ByteArray) (h : ∀ s ∈ S, s.size ≤ 1000) : (Fr.frames (dl S)).length ≤ 1006 * S.length := by
  induction S with
  | nil => simp [dl, Fr.frames]
  | cons s S ih =>
    have e : Fr.frames (dl (s :: S)) = Fr.frame s.data.toList ++ Fr.frames (dl S) := by simp [dl, Fr.frames]
    have h1 := ih (fun x hx => h x (by simp [hx]))
    have h2 := h s (by simp)
    have h3 : s.data.toList.length = s.size := by rw [Array.length_toList]; rfl
    rw [e, List.length_append, Fr.frame_length, List.length_cons]
    omega
theorem Fr.frames_snoc (S : List ByteArray) (k : Nat) (hk : k < S.length) : Fr.frames (dl (S.take (k + 1))) = Fr.frames (dl (S.take k)) ++ Fr.frame (S.getD k ByteArray.empty).data.toList := by
  have e : dl (S.take k ++ [S[k]]) = dl (S.take k) ++ [S[k].data.toList] := by rw [dl, List.map_append]; rfl
  have e2 : S.getD k ByteArray.empty = S[k] := by simp [List.getD, hk]
  rw [List.take_succ_eq_append_getElem hk, e, Fr.frames_append, e2]
  simp [Fr.frames]

/-- Bytes that a call has made: nowhere, since there are none; or a row of its own. -/
def Made (w : World) (base : Nat) (v : Value) (l : List UInt8) : Prop := w.ownsRow base 5 1 v l.length (bs l)

set_option maxHeartbeats 2000000 in
theorem laid_ok (ao : Option Addr) (m c : Nat) (S : List ByteArray) (w : World) (hT : Txts w ao m c S) (hf : fits S) :
    Calls Try.prog 5 #[.slice ao m c] w fun e w' => ∃ v, e = .returned (.tuple #[v, .bool true]) ∧ Made w' w.heap.size v (Fr.frames (dl S)) ∧ Below w.heap.size w w' := by
  obtain ⟨i0, hi, hz0, hz1, hz2⟩ := info_parts info5
  have hlen := hT.len
  have hS1 := hf.1
  rcases hT.norm with ⟨rfl, rfl⟩ | ⟨b, off, rfl, hpos, -⟩
  · go_enter Try.func5, Try.ntmps5
    go_wp2
    refine wp_loop_rounds 1 ?_
    rw [rounds_succ]
    go_wp2
    go_ret2
    exact ⟨_, rfl, World.ownsRow_nil w _ _ _, Below.refl _ _⟩
  · have h100 : ¬ (100 : Int) < (m : Int) := by omega
    go_enter Try.func5, Try.ntmps5
    go_wp2_with fail
    go_loopw [4, 13] (fun v i wr => ∃ k : Nat, k ≤ m ∧ i = .int .i64 (k : Int) ∧ Made wr w.heap.size v (Fr.frames (dl (S.take k))) ∧ Below w.heap.size w wr) (fun _ i _ => m - (intOf i).toNat)
    case atStart => exact ⟨0, Nat.zero_le _, rfl, World.ownsRow_nil w _ _ _, Below.refl _ _⟩
    case round =>
      obtain ⟨k, hk, rfl, hM, hbel⟩ := hrel
      by_cases hlt : k < m
      · have hTr := hT.below hbel (Nat.le_refl _)
        rcases hTr.norm with ⟨rfl, rfl⟩ | ⟨b', off', hao, -, hcell⟩
        · omega
        simp only [Option.some.injEq, Addr.mk.injEq, and_true] at hao
        obtain ⟨rfl, rfl⟩ := hao
        have hc2 := hcell k hlt
        have HF : Hid _ := Fr.frames_snoc S k (by omega)
        have hFl := Fr.frames_le (S.take k) (fun s hs => hf.2 s (List.mem_of_mem_take hs))
        rw [List.length_take] at hFl
        have hsz : (S.getD k ByteArray.empty).size ≤ 1000 := hf.2 _ (by simp [List.getD, show k < S.length by omega])
        generalize S.getD k ByteArray.empty = s at *
        have hsz' : ¬ (1000 : Int) < (s.size : Int) := by omega
        have hl : s.data.toList.length = s.size := by rw [Array.length_toList]; rfl
        clear hcell hTr
        obtain ⟨cap, w2, hcv, hB2, hcap, hb2, -⟩ := conv_bytes s wr (by unfold maxLen; omega)
        go_wp2_with fail
        refine (put_ok _ _ _ _ _ hB2 (by omega)).mono ?_
        rintro e w3 ⟨g3, rfl, hown3, hb3⟩
        have hbel2 := hbel.trans (hb2.mono hbel.size)
        have hbel3 := hbel2.trans (hb3.mono hbel2.size)
        have hM3 := own_below (own_below hM hb2) hb3
        have B3 := Bytes.own hown3
        have HL : Hid ((bs (Fr.frame s.data.toList)).length = s.size + 6) := by rw [Hid, bs_length, Fr.frame_length, hl]
        clear hcv hB2 hb2 hb3 hbel hbel2 hM hcap
        generalize Fr.frames (dl (S.take k)) = F at *
        go_wp2_with (first
          | (at_builtin; refine wpList_append_own _ rfl (.tmp 33) (.tmp 34) 24 rfl w.heap.size 5 i0 (.int .u8 0) 1 1 Try.underlying24 hi hz0 hz1 hz2 rfl (by omega) _ F.length _ rfl hM3 ⟨g3, 0, none⟩ (s.size + 6) (s.size + 6) (bs (Fr.frame s.data.toList)) rfl (by rw [HL.out, Nat.mul_one]) (B3.cells _ rfl) (bs_oneCell _) (by unfold maxLen; omega) (by omega) hbel3.size ?_))
        rintro v' w4 hown4 hgrow4 -
        have hbel4 := hbel3.grown hgrow4 hbel3.size (fun k hk => (hM3.lt k hk).1)
        go_wp2
        go_roundw
        case rel =>
          refine ⟨k + 1, by omega, by go_num, ?_, hbel4⟩
          rw [HF.out, Made, List.length_append, Fr.frame_length, hl, bs_append]
          exact hown4
        case measure => simp [intOf]; omega
      · obtain rfl : k = m := by omega
        clear hT
        go_wp2
        go_ret2
        rw [List.take_of_length_le (by omega)] at hM
        exact ⟨_, rfl, hM, hbel⟩

set_option maxHeartbeats 2000000 in
theorem laid_no (ao : Option Addr) (m c : Nat) (S : List ByteArray) (w : World) (hT : Txts w ao m c S) (hm : m ≤ maxLen) (hf : ¬ fits S) :
    Calls Try.prog 5 #[.slice ao m c] w fun e w' => e = .returned (.tuple #[.slice none 0 0, .bool false]) ∧ Below w.heap.size w w' := by
  obtain ⟨i0, hi, hz0, hz1, hz2⟩ := info_parts info5
  have hlen := hT.len
  unfold maxLen at hm
  by_cases h100 : (100 : Int) < (m : Int)
  · go_enter Try.func5, Try.ntmps5
    go_wp2
    go_ret2
    exact ⟨rfl, Below.refl _ _⟩
  rcases hT.norm with ⟨rfl, rfl⟩ | ⟨b, off, rfl, hpos, -⟩
  · exact absurd ⟨by simp, by simp⟩ hf
  · go_enter Try.func5, Try.ntmps5
    go_wp2_with fail
    go_loopw [4, 13] (fun v i wr => ∃ k : Nat, k ≤ m ∧ i = .int .i64 (k : Int) ∧ (∀ j, j < k → (S.getD j ByteArray.empty).size ≤ 1000) ∧ Made wr w.heap.size v (Fr.frames (dl (S.take k))) ∧ Below w.heap.size w wr) (fun _ i _ => m - (intOf i).toNat)
    case atStart => exact ⟨0, Nat.zero_le _, rfl, fun j hj => by omega, World.ownsRow_nil w _ _ _, Below.refl _ _⟩
    case round =>
      obtain ⟨k, hk, rfl, hfk, hM, hbel⟩ := hrel
      by_cases hlt : k < m
      · have hTr := hT.below hbel (Nat.le_refl _)
        rcases hTr.norm with ⟨rfl, rfl⟩ | ⟨b', off', hao, -, hcell⟩
        · omega
        simp only [Option.some.injEq, Addr.mk.injEq, and_true] at hao
        obtain ⟨rfl, rfl⟩ := hao
        have hc2 := hcell k hlt
        have HF : Hid _ := Fr.frames_snoc S k (by omega)
        have hFl := Fr.frames_le (S.take k) (fun s hs => by
          obtain ⟨j, hj⟩ := List.getElem?_of_mem hs
          rw [List.getElem?_take] at hj
          split at hj
          · have := hfk j (by omega)
            rw [List.getD, hj, Option.getD_some] at this
            exact this
          · cases hj)
        rw [List.length_take] at hFl
        have hsm := hT.small (S.getD k ByteArray.empty) (by simp [List.getD, show k < S.length by omega])
        have Hk : Hid (∀ j, j < k → (S.getD j ByteArray.empty).size ≤ 1000) := hfk
        have Hk1 : Hid ((S.getD k ByteArray.empty).size ≤ 1000 → ∀ j, j < k + 1 → (S.getD j ByteArray.empty).size ≤ 1000) := fun h j hj => by
          by_cases e : j = k
          · rw [e]; exact h
          · exact hfk j (by omega)
        clear hfk hf
        generalize S.getD k ByteArray.empty = s at *
        unfold maxLen at hsm
        have hl : s.data.toList.length = s.size := by rw [Array.length_toList]; rfl
        by_cases hsz' : (1000 : Int) < (s.size : Int)
        · clear hcell hTr hT Hk Hk1
          go_wp2
          go_ret2
          exact ⟨rfl, hbel⟩
        · clear hcell hTr Hk
          obtain ⟨cap, w2, hcv, hB2, hcap, hb2, -⟩ := conv_bytes s wr (by unfold maxLen; omega)
          go_wp2_with fail
          refine (put_ok _ _ _ _ _ hB2 (by omega)).mono ?_
          rintro e w3 ⟨g3, rfl, hown3, hb3⟩
          have hbel2 := hbel.trans (hb2.mono hbel.size)
          have hbel3 := hbel2.trans (hb3.mono hbel2.size)
          have hM3 := own_below (own_below hM hb2) hb3
          have B3 := Bytes.own hown3
          have HL : Hid ((bs (Fr.frame s.data.toList)).length = s.size + 6) := by rw [Hid, bs_length, Fr.frame_length, hl]
          clear hcv hB2 hb2 hb3 hbel hbel2 hM hcap
          generalize Fr.frames (dl (S.take k)) = F at *
          go_wp2_with (first
            | (at_builtin; refine wpList_append_own _ rfl (.tmp 33) (.tmp 34) 24 rfl w.heap.size 5 i0 (.int .u8 0) 1 1 Try.underlying24 hi hz0 hz1 hz2 rfl (by omega) _ F.length _ rfl hM3 ⟨g3, 0, none⟩ (s.size + 6) (s.size + 6) (bs (Fr.frame s.data.toList)) rfl (by rw [HL.out, Nat.mul_one]) (B3.cells _ rfl) (bs_oneCell _) (by unfold maxLen; omega) (by omega) hbel3.size ?_))
          rintro v' w4 hown4 hgrow4 -
          have hbel4 := hbel3.grown hgrow4 hbel3.size (fun k hk => (hM3.lt k hk).1)
          go_wp2
          go_roundw
          case rel =>
            refine ⟨k + 1, by omega, by go_num, Hk1.out (by omega), ?_, hbel4⟩
            rw [HF.out, Made, List.length_append, Fr.frame_length, hl, bs_append]
            exact hown4
          case measure => simp [intOf]; omega
      · obtain rfl : k = m := by omega
        exfalso
        refine hf ⟨by omega, fun s hs => ?_⟩
        obtain ⟨j, hj⟩ := List.getElem?_of_mem hs
        have hj2 := (List.getElem?_eq_some_iff.1 hj).1
        have := hfk j (by omega)
        rw [List.getD, hj, Option.getD_some] at this
        exact this
end Go.Proofs.Ytfnaldiacncjfab
