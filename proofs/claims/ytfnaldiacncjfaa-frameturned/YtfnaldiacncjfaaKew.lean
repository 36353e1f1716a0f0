/-
  FrameKeeps: what comes out is memory of its own. For every input.
-/
import Derived.Test.YtfnaldiacncjfaaCuw
import Derived.Test.YtfnaldiacncjfaaLgw
namespace Go.Proofs.Ytfnaldiacncjfaa
open Go.RowKit

/-- A list of lists of bytes, whatever they hold: the list's own cells are told. -/
def Rowed (w : World) (base top : Nat) (G n cap : Nat) (xs : List Value) : Prop :=
  w.ownsRow base 23 1 (.slice (some ⟨G, 0, none⟩) n cap) n xs ∧ ∀ i, i < n → ∃ g m c l, xs[i]? = some (Value.slice (some ⟨g, 0, none⟩) m c) ∧ g < top ∧ w.ownsRow base 5 1 (.slice (some ⟨g, 0, none⟩) m c) m (bs l)

theorem Bodies.rowed {w : World} {base : Nat} {v : Value} {L : List (List UInt8)} (h : Bodies w base v L) : L = [] ∨ ∃ G cap xs, v = .slice (some ⟨G, 0, none⟩) L.length cap ∧ Rowed w base w.heap.size G L.length cap xs := by
  obtain ⟨xs, h1, h2⟩ := h
  by_cases h0 : L.length = 0
  · exact .inl (List.eq_nil_of_length_eq_zero h0)
  · right
    have h1' := h1
    rcases h1.2 with ⟨rfl, h⟩ | ⟨G, cap, cur, rfl, hb, hg, _⟩
    · exact absurd h h0
    · refine ⟨G, cap, xs, rfl, h1', fun i hi => ?_⟩
      obtain ⟨g, c, h3, h4⟩ := h2 i L[i] (List.getElem?_eq_getElem hi)
      exact ⟨g, _, c, _, h3, (h4.lt g rfl).2, h4⟩

theorem Rowed.cell {w : World} {base top G n cap i : Nat} {xs : List Value} {x : Value} (h : Rowed w base top G n cap xs) (hx : xs[i]? = some x) : w.cell? ⟨G, i, none⟩ = some x := by
  have := h.1.cells rfl i x hx
  rwa [Addr.add_lit, Nat.zero_add] at this

/-- A byte of one of its lists is turned. -/
theorem Rowed.turn {w : World} {base top G n cap g k : Nat} {xs : List Value} (h : Rowed w base top G n cap xs) (hg : ∃ m c l, w.ownsRow base 5 1 (.slice (some ⟨g, 0, none⟩) m c) m (bs l)) (y : UInt8) :
    Rowed (w.setCell ⟨g, k, none⟩ (.int .u8 (y.toNat : Int))) base top G n cap xs := by
  obtain ⟨m0, c0, l0, h0⟩ := hg
  have hgr := (row_turn h0 k y).2
  refine ⟨h.1.kept hgr ?_, fun i hi => ?_⟩
  · exact own_apart h.1 h0 (by decide)
  · obtain ⟨g', m, c, l, h1, h2, h3⟩ := h.2 i hi
    by_cases e : g' = g
    · subst e
      exact ⟨g', m, c, _, h1, h2, (row_turn h3 k y).1⟩
    · exact ⟨g', m, c, l, h1, h2, h3.kept hgr (.inr (by simp only [Value.ownBlock, ne_eq, Option.some.injEq]; exact e))⟩

theorem own_kept {w w' : World} {base : Nat} {t : TypeId} {v : Value} {n g : Nat} {xs : List Value} (h : w.ownsRow base t 1 v n xs) (hg : w.grownBy w' (some g)) (hb : g < base) : w'.ownsRow base t 1 v n xs := by
  refine h.kept hg ?_
  cases hv : v.ownBlock with
  | none => exact .inl rfl
  | some k =>
    right
    have := (h.lt k hv).1
    simp only [ne_eq, Option.some.injEq]
    omega
theorem Bodies.kept {w w' : World} {base g : Nat} {v : Value} {L : List (List UInt8)} (h : Bodies w base v L) (hg : w.grownBy w' (some g)) (hb : g < base) : Bodies w' base v L := by
  obtain ⟨xs, h1, h2⟩ := h
  refine ⟨xs, own_kept h1 hg hb, fun i l hi => ?_⟩
  obtain ⟨g', c, h3, h4⟩ := h2 i l hi
  exact ⟨g', c, h3, own_kept h4 hg hb⟩

theorem xor255 (x : Nat) (h : x < 256) : bits .xor .u8 (x : Int) 255 = (((UInt8.ofNat (255 - x)).toNat : Nat) : Int) := by
  rw [toNat_ofNat_lt _ (by omega)]
  exact (by decide +kernel : ∀ c : Fin 256, bits .xor .u8 (c.val : Int) 255 = ((255 - c.val : Nat) : Int)) ⟨x, h⟩

theorem dl_small (S : List ByteArray) (hS : ∀ s ∈ S, s.size ≤ 1000) : ∀ b ∈ dl S, b.length ≤ 65529 := by
  intro b hb
  obtain ⟨s, hs, rfl⟩ := List.mem_map.1 hb
  have := hS s hs
  rw [Array.length_toList]
  have : s.data.size = s.size := rfl
  omega

/-- A row that a call owns, kept where another block is written. -/
theorem Made.kept {w w' : World} {base g : Nat} {v : Value} {l : List UInt8} (h : Made w base v l) (hg : w.grownBy w' (some g)) (hb : ∀ k, v.ownBlock = some k → k < g) : Made w' base v l := by
  refine World.ownsRow.kept h hg ?_
  cases hv : v.ownBlock with
  | none => exact .inl rfl
  | some k =>
    right
    have := hb k hv
    simp only [ne_eq, Option.some.injEq]
    omega

set_option maxHeartbeats 4000000 in
theorem keeps_walk (ao : Option Addr) (m c : Nat) (S : List ByteArray) (w : World) (hT : Txts w ao m c S) (hm : c ≤ maxLen) :
    Calls Try.prog 8 #[.slice ao m c] w fun e w' => e = .returned (.bool true) ∧ Below w.heap.size w w' := by
  have hroom := hT.room
  have hlen := hT.len
  by_cases hf : fits S
  · go_enter Try.func8, Try.ntmps8
    go_wp2_with fail
    refine (awake_any _).mono ?_
    rintro e w1 ⟨rfl, hb1⟩
    have hT1 := hT.below hb1 (Nat.le_refl _)
    go_wp2_with fail
    refine (laid_ok _ _ _ _ _ hT1 hf).mono ?_
    rintro e w2 ⟨v, rfl, hM, hb2⟩
    have hT2 := hT1.below hb2 (Nat.le_refl _)
    have s2 := hb1.trans (hb2.mono hb1.size)
    have hMlt : ∀ k, v.ownBlock = some k → w1.heap.size ≤ k ∧ k < w2.heap.size := fun k hk => World.ownsRow.lt hM k hk
    have hM0 := hM
    obtain ⟨a2, cap, rfl, hB, hcap⟩ := hM.bytes
    have hFl := Fr.frames_le S hf.2
    have hS1 := hf.1
    have hscan := Fr.scan_all (dl S) (dl_small S hf.2)
    go_wp2_with fail
    refine (scan_any _ _ _ _ _ hB hcap (by omega)).mono ?_
    rintro e w3 ⟨v3, A, rfl, hA1, hA2, hB3, hb3⟩
    rw [hscan] at hA2 hB3
    have hA : A = (Fr.frames (dl S)).length := Fr.drop_inj hA1 (Nat.le_refl _) (hA2.symm.trans (by rw [List.drop_length]))
    have hT3 := hT2.below hb3 (Nat.le_refl _)
    have s3 := s2.trans (hb3.mono s2.size)
    go_wp2_with fail
    refine (scan_any _ _ _ _ _ (hB.below hb3 (Nat.le_refl _)) hcap (by omega)).mono ?_
    rintro e w4 ⟨v4, A', rfl, hA1', hA2', hB4, hb4⟩
    rw [hscan] at hA2' hB4
    have hA' : A' = (Fr.frames (dl S)).length := Fr.drop_inj hA1' (Nat.le_refl _) (hA2'.symm.trans (by rw [List.drop_length]))
    have hdA : decide (A' = (Fr.frames (dl S)).length) = true := by rw [decide_eq_true_eq]; exact hA'
    have hT4 := hT3.below hb4 (Nat.le_refl _)
    have s4 := s3.trans (hb4.mono s3.size)
    have hM4 : Made w4 w1.heap.size _ _ := own_below (own_below hM0 hb3) hb4
    rw [hdA]
    obtain ⟨a3, c3, rfl⟩ := hB3.val
    rw [dl_length, hlen] at hB3 ⊢
    obtain ⟨G, xs, hR⟩ : ∃ G xs, m = 0 ∨ (a3 = some ⟨G, 0, none⟩ ∧ Rowed w4 w2.heap.size w3.heap.size G m c3 xs) := by
      rcases hB3.rowed with h | ⟨G, cap', xs, h, hr⟩
      · exact ⟨0, [], .inl (by rw [← hlen, ← dl_length, h]; rfl)⟩
      · rw [dl_length, hlen] at h hr
        simp only [Value.slice.injEq, true_and] at h
        obtain ⟨rfl, rfl⟩ := h
        refine ⟨G, xs, .inr ⟨rfl, row_below hr.1 hb4, fun i hi => ?_⟩⟩
        obtain ⟨g, m', c', l, h1, h2, h3⟩ := hr.2 i hi
        exact ⟨g, m', c', l, h1, h2, row_below h3 hb4⟩
    have t1 := hb1.size
    have t2 := hb2.size
    have t3 := hb3.size
    clear hT1 hT2 hT3 hT4 hb1 hb2 hb3 hb4 s2 s3 hB hM hM0 hB3 hA2 hA2' hA1 hA1' hdA hA hA' hscan
    generalize hn : (Fr.frames (dl S)).length = n at *
    have hnm : n ≤ 100600 := by omega
    unfold maxLen at hm hcap
    go_wp2_with fail
    go_loopw [37] (fun ii wr => ∃ i : Nat, i ≤ m ∧ ii = .int .i64 (i : Int) ∧ (m = 0 ∨ (a3 = some ⟨G, 0, none⟩ ∧ Rowed wr w2.heap.size w3.heap.size G m c3 xs)) ∧ Bodies wr w3.heap.size v4 (dl S) ∧ Made wr w1.heap.size (.slice a2 n cap) (Fr.frames (dl S)) ∧ Below w.heap.size w wr) (fun ii _ => m - (intOf ii).toNat)
    case atStart => exact ⟨0, Nat.zero_le _, rfl, hR, hB4, hM4, s4⟩
    case round =>
      obtain ⟨i, hi, rfl, hRi, hBi, hMi, hbi⟩ := hrel
      clear hR hB4 hM4 s4
      by_cases him : i < m
      · rcases hRi with h | ⟨rfl, hRi⟩
        · omega
        obtain ⟨g, m', c', l', hx1, hx2, hx3⟩ := hRi.2 i him
        have hc0 := hRi.cell hx1
        have hm' : m' ≤ maxLen := by
          rcases hx3.2 with ⟨h, _⟩ | ⟨_, _, _, h, _, _, h4, h5, _⟩
          · cases h
          · omega
        unfold maxLen at hm'
        go_wp2_with fail
        go_loopw [45] (fun kk wr => ∃ k : Nat, k ≤ m' ∧ kk = .int .i64 (k : Int) ∧ Rowed wr w2.heap.size w3.heap.size G m c3 xs ∧ Bodies wr w3.heap.size v4 (dl S) ∧ Made wr w1.heap.size (.slice a2 n cap) (Fr.frames (dl S)) ∧ Below w.heap.size w wr) (fun kk _ => m' - (intOf kk).toNat)
        case atStart => exact ⟨0, Nat.zero_le _, rfl, hRi, hBi, hMi, hbi⟩
        case round =>
          obtain ⟨k, hk, rfl, hRk, hBk, hMk, hbk⟩ := hrel
          clear hRi hBi hMi hbi hc0 hx3
          by_cases hkm : k < m'
          · obtain ⟨g2, m2, c2, l2, hy1, hy2, hy3⟩ := hRk.2 i him
            rw [hx1] at hy1
            simp only [Option.some.injEq, Value.slice.injEq, Addr.mk.injEq, and_true] at hy1
            obtain ⟨rfl, rfl, rfl⟩ := hy1
            have hc1 := hRk.cell hx1
            have hc2 := row_cell hy3 k hkm
            have hfz := hy3.frozenAt k
            have hx := (l2.getD k 0).toNat_lt
            have hxr := xor255 _ hx
            have Ht : Hid _ := (row_turn hy3 k (UInt8.ofNat (255 - (l2.getD k 0).toNat))).2
            have HR : Hid _ := hRk.turn (k := k) ⟨_, _, _, hy3⟩ (UInt8.ofNat (255 - (l2.getD k 0).toNat))
            have hgb := (hy3.lt g rfl).1
            have hcm2 : k < c' := by
              rcases hy3.2 with ⟨h, _⟩ | ⟨_, _, _, h, _, _, h4, h5, _⟩
              · cases h
              · simp only [Value.slice.injEq] at h; omega
            generalize UInt8.ofNat (255 - (l2.getD k 0).toNat) = y at *
            generalize (l2.getD k 0).toNat = x at *
            go_wp2
            go_roundw
            case rel => exact ⟨k + 1, by omega, by go_num, HR.out, hBk.kept Ht.out hy2, hMk.kept Ht.out (fun q hq => by have := hMlt q hq; omega), hbk.grown Ht.out hbk.size (fun q hq => by cases hq; omega)⟩
            case measure => simp [intOf]; omega
          · obtain rfl : k = m' := by omega
            go_wp2
            go_roundw
            case rel => exact ⟨i + 1, by omega, by go_num, .inr ⟨trivial, hRk⟩, hBk, hMk, hbk⟩
            case measure => simp [intOf]; omega
      · obtain rfl : i = m := by omega
        clear hRi
        go_wp2_with fail
        go_loopw [61] (fun jj wr => ∃ (j : Nat) (l : List UInt8), j ≤ n ∧ jj = .int .i64 (j : Int) ∧ wr.ownsRow w1.heap.size 5 1 (.slice a2 n cap) n (bs l) ∧ Bodies wr w3.heap.size v4 (dl S) ∧ Below w.heap.size w wr) (fun jj _ => n - (intOf jj).toNat)
        case atStart =>
          refine ⟨0, Fr.frames (dl S), Nat.zero_le _, rfl, ?_, hBi, hbi⟩
          rw [Made, hn] at hMi
          exact hMi
        case round =>
          obtain ⟨j, l, hj, rfl, hMj, hBj, hbj⟩ := hrel
          clear hBi hMi hbi
          by_cases hjn : j < n
          · rcases hMj.2 with ⟨h, h0⟩ | ⟨gb, cap', cur, h, hbg, hgg, hnc, _⟩
            · omega
            simp only [Value.slice.injEq, true_and] at h
            obtain ⟨rfl, rfl⟩ := h
            have hc2 := row_cell hMj j hjn
            have hfz := hMj.frozenAt j
            have Ht : Hid _ := row_turn hMj j 0
            have hgb := hMlt gb rfl
            clear hgg
            generalize (l.getD j 0).toNat = x at *
            go_wp2
            go_roundw
            case rel => exact ⟨j + 1, _, by omega, by go_num, Ht.out.1, hBj.kept Ht.out.2 (by omega), hbj.grown Ht.out.2 hbj.size (fun q hq => by cases hq; omega)⟩
            case measure => simp [intOf]; omega
          · obtain rfl : j = n := by omega
            have hTj := hT.below hbj (Nat.le_refl _)
            go_wp2_with fail
            refine (texts_same _ _ _ _ _ _ _ hBj hTj (by unfold maxLen; omega)).mono ?_
            rintro e w5 ⟨rfl, hb5⟩
            have hb6 := hbj.trans (hb5.mono hbj.size)
            go_wp2
            go_ret
            exact ⟨rfl, hb6⟩
  · go_enter Try.func8, Try.ntmps8
    go_wp2_with fail
    refine (awake_any _).mono ?_
    rintro e w1 ⟨rfl, hb1⟩
    have hT1 := hT.below hb1 (Nat.le_refl _)
    go_wp2_with fail
    refine (laid_no _ _ _ _ _ hT1 (by omega) hf).mono ?_
    rintro e w2 ⟨rfl, hb2⟩
    go_wp2
    go_ret
    exact ⟨rfl, hb1.trans (hb2.mono hb1.size)⟩
end Go.Proofs.Ytfnaldiacncjfaa
