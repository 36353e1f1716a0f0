/-
  What the reference's Crash comes to.
-/
import Derived.Test.YtcopjgincdbliaaDre
namespace Go.Proofs.Ytcopjgincdbliaa
open Go.RowKit

/-- Bytes that were made of a text: what they hold. -/
def Tail (w : World) (g : Nat) (l : List UInt8) : Prop := ∃ cur : Array Value, w.heap[g]? = some (.cells cur 5 (cur.size, cur.size + 1)) ∧ l.length ≤ cur.size ∧ ∀ j, j < l.length → cur[j]? = some (.int .u8 ((l.getD j 0).toNat : Int))
theorem Tail.lt {w : World} {g : Nat} {l : List UInt8} (h : Tail w g l) : g < w.heap.size := by
  obtain ⟨cur, h1, -⟩ := h
  exact (Array.getElem?_eq_some_iff.1 h1).1
theorem Tail.cell {w : World} {g j : Nat} {l : List UInt8} (h : Tail w g l) (hj : j < l.length) : w.cell? ⟨g, j, none⟩ = some (.int .u8 ((l.getD j 0).toNat : Int)) := by
  obtain ⟨cur, h1, h2, h3⟩ := h
  rw [cell_of_row w g j cur _ _ h1]
  exact h3 j hj
theorem Tail.fz {w : World} {g j : Nat} {l : List UInt8} (h : Tail w g l) (hj : j < l.length) : w.frozen? ⟨g, j, none⟩ = false := by
  obtain ⟨cur, h1, h2, -⟩ := h
  unfold World.frozen?
  rw [h1]
  simp only [Bool.and_eq_false_iff, decide_eq_false_iff_not]
  left; omega
theorem Tail.set {w : World} {g j : Nat} {l : List UInt8} (h : Tail w g l) (c : UInt8) : Tail (w.setCell ⟨g, j, none⟩ (.int .u8 (c.toNat : Int))) g (l.set j c) := by
  obtain ⟨cur, h1, h2, h3⟩ := h
  refine ⟨cur.setIfInBounds j (.int .u8 (c.toNat : Int)), ?_, by rw [Array.size_setIfInBounds, List.length_set]; exact h2, fun i hi => ?_⟩
  · rw [setCell_eq_setRow w g j cur _ _ _ h1, Array.size_setIfInBounds]
    exact setRow_heap w g cur _ _ _ h1
  · rw [List.length_set] at hi
    rw [Array.getElem?_setIfInBounds, List.getD_eq_getElem?_getD, List.getElem?_set]
    by_cases e : j = i
    · subst e
      rw [if_pos rfl, if_pos (by omega), if_pos rfl, if_pos hi]
      rfl
    · rw [if_neg e, if_neg e, h3 i hi, List.getD_eq_getElem?_getD]
theorem Tail.take {w : World} {g : Nat} {l : List UInt8} (h : Tail w g l) (n : Nat) : Tail w g (l.take n) := by
  obtain ⟨cur, h1, h2, h3⟩ := h
  refine ⟨cur, h1, by rw [List.length_take]; omega, fun j hj => ?_⟩
  rw [List.length_take] at hj
  rw [h3 j (by omega), List.getD_eq_getElem?_getD, List.getD_eq_getElem?_getD, List.getElem?_take, if_pos (by omega)]
theorem Tail.bytes {w : World} {g c : Nat} {l : List UInt8} (h : Tail w g l) (hc : l.length ≤ c) : Bytes w (some ⟨g, 0, none⟩) l.length c l := by
  refine ⟨rfl, hc, (fun e => by cases e), fun ad had j u hu => ?_⟩
  obtain rfl := Option.some.inj had
  have hj : j < l.length := by
    have := (List.getElem?_eq_some_iff.1 hu).1
    rwa [bs_length] at this
  rw [Addr.add_lit, Nat.zero_add, h.cell hj, ← hu, bs, List.getElem?_map, List.getElem?_eq_getElem hj]
  simp [List.getD, hj]
theorem Tail.same {w w' : World} {g : Nat} {l : List UInt8} (h : Tail w g l) (hb : w'.heap[g]? = w.heap[g]?) : Tail w' g l := by
  obtain ⟨cur, h1, h2⟩ := h
  exact ⟨cur, by rw [hb]; exact h1, h2⟩
theorem tail_text {w : World} {g c : Nat} {l : List UInt8} (h : Tail w g l) (hc : l.length ≤ c) : (convert 38 9 (.slice (some ⟨g, 0, none⟩) l.length c)).run Try.prog w = .ok (.string (tx l)) w :=
  conv_any (t := tx l) (by rw [tx_list]; exact h.bytes hc)
theorem tail_bytes (l : List UInt8) (W : World) (hs : l.length ≤ 65536) : ∃ cap W', (convert 9 38 (.string (tx l))).run Try.prog W = .ok (.slice (some ⟨W.heap.size, 0, none⟩) l.length cap) W' ∧
    Tail W' W.heap.size l ∧ l.length ≤ cap ∧ cap ≤ maxLen ∧ Below W.heap.size W W' ∧ W'.heap.size = W.heap.size + 1 := by
  have hr := run_bytes_of_string (P := Try.prog) W 9 38 5 (tx l) Try.underlying9 Try.underlying38 Try.underlying5
  have hsz := tx_size l
  obtain ⟨cap, W', h1, h2, h3, h4, h5⟩ := conv_bytes (tx l) W (by rw [hsz]; unfold maxLen; omega)
  have hroom := h2.room
  rw [hsz] at h1 hroom
  refine ⟨cap, W', h1, ?_, hroom, h3, h4, h5⟩
  rw [hr] at h1
  simp only [Result.ok.injEq] at h1
  obtain ⟨-, rfl⟩ := h1
  refine ⟨_, heap_alloc_new W.drew _, ?_, fun j hj => ?_⟩
  · rw [bytesRow, Array.size_append, Array.size_map]
    have : (tx l).data.size = (tx l).size := rfl
    omega
  · have hj' : j < (tx l).data.size := by rw [show (tx l).data.size = (tx l).size from rfl, hsz]; exact hj
    rw [bytesRow_at (tx l) _ j hj']
    simp [tx, List.getD, hj]
theorem slice_tail (l : List UInt8) (k : Nat) (hk : k ≤ l.length) (W : World) :
    (Instr.slice 9 (.string (tx l)) (some (.int .i64 (k : Int))) none none).run Try.prog W = .ok (.string (tx (l.drop k))) W := by
  have hs := tx_size l
  rw [run_slice_string_l W 9 (tx l) Try.underlying9 .i64 (k : Int) (by omega) (by omega)]
  rw [Int.toNat_natCast, ext_tx, tx_list, hs, List.take_of_length_le (by rw [List.length_drop]; omega)]
theorem flip_set (l : List UInt8) (p c : Nat) (hc : c = 2 ^ (7 - p % 8)) : ∃ y : UInt8, Dk.flip l p = l.set (p / 8) y ∧ bits .xor .u8 ((l.getD (p / 8) 0).toNat : Int) (c : Int) = (y.toNat : Int) := by
  have hm := Dk.mask_is ⟨p % 8, by omega⟩
  simp only at hm
  refine ⟨_, rfl, ?_⟩
  have h1 : c < 256 := by
    have := (UInt8.ofNat (128 / 2 ^ (p % 8))).toNat_lt
    rw [hm, ← hc] at this
    exact this
  rw [u8_xor_nat _ _ (l.getD (p / 8) 0).toNat_lt h1, UInt8.toNat_xor, hm, hc]

set_option maxHeartbeats 4000000 in
theorem rcrash_any (g : Nat) (l : List UInt8) (f r : Nat) (x at0 t : Int) (w : World) (h : Rf w g l f r) (hf : f ≤ l.length) (hl : l.length ≤ 65536) :
    Calls Try.prog 18 #[.pointer (some ⟨g, 0, none⟩), .int .i64 x, .int .i64 at0, .int .i64 t] w fun e w' => e = .returned (.tuple #[]) ∧ Rf w' g (Dk.crash l f x at0 t) (Dk.crash l f x at0 t).length r ∧ w.grownBy w' (some g) := by
  have c0 := h.c0
  have c1 := h.c1
  have hsl := fun W => slice_tail l f hf W
  have hdl : (l.drop f).length = l.length - f := List.length_drop
  obtain ⟨cap, w1, hcv, hT1, hcap, hcm, b1, z1⟩ := tail_bytes (l.drop f) w.drew (by omega)
  go_enter Try.func18, Try.ntmps18
  go_wp2_with fail
  go_region
  have hR1 : Rf w1 g l f r := h.same (b1.block g h.lt)
  have g1 : w.grownBy w1 (some g) := ⟨b1.os, b1.tape, b1.output, b1.size, fun k hk _ => b1.block k hk⟩
  have hgG : g ≠ w.heap.size := Nat.ne_of_lt h.lt
  have hT2 : Tail w1 w.heap.size (l.drop f) := hT1
  have hkl := Dk.kept_le l f x
  have hmin : (if (0 : Int) < (if ((l.length - f : Nat) : Int) < x then ((l.length - f : Nat) : Int) else x) then (if ((l.length - f : Nat) : Int) < x then ((l.length - f : Nat) : Int) else x) else 0) = (Dk.kept l f x : Int) := by
    unfold Dk.kept
    (repeat' split) <;> omega
  have hcr : Hid (Dk.crash l f x at0 t = Dk.left l f (Dk.kept l f x) (at0 % (8 * (Dk.kept l f x : Int) - 15)).toNat (t % 65536).toNat) := rfl
  have hT3 := hT2.take (Dk.kept l f x)
  have hlk : ((l.drop f).take (Dk.kept l f x)).length = Dk.kept l f x := by rw [List.length_take]; omega
  rw [hdl] at hcap
  unfold maxLen at hcm
  clear hcv hT1 hT2 b1 z1 c0 c1 hsl h
  have hG : w.heap.size < w1.heap.size := hT3.lt
  generalize hGe : w.heap.size = G at *
  generalize Dk.kept l f x = k at *
  generalize hn0 : l.length - f = n0 at *
  have hk0 : (0 : Int) ≤ (k : Int) := by omega
  have hkc : (k : Int) ≤ (cap : Int) := by omega
  have hcc : ∀ Q : Prop, (2 ≤ k → Q) → (k < 2 → Q) → Q := fun Q h1 h2 => by
    by_cases h : 2 ≤ k
    · exact h1 h
    · exact h2 (by omega)
  go_wp2_with fail
  all_goals
    refine hcc _ (fun h2 => ?_) (fun h2 => ?_)
    all_goals (first | (exfalso; omega) | skip)
    clear hcc hmin
  · have h2' : (2 : Int) ≤ (k : Int) := by omega
    obtain ⟨A, hA⟩ : ∃ A : Nat, at0 % ((8 * k - 15 : Nat) : Int) = (A : Int) := ⟨_, (Int.toNat_of_nonneg (Int.emod_nonneg _ (by omega))).symm⟩
    obtain ⟨T, hT⟩ : ∃ T : Nat, t % ((65536 : Nat) : Int) = (T : Int) := ⟨_, (Int.toNat_of_nonneg (Int.emod_nonneg _ (by omega))).symm⟩
    have hA2 : A < 8 * k - 15 := by
      have := Int.emod_lt_of_pos at0 (show (0 : Int) < ((8 * k - 15 : Nat) : Int) by omega)
      omega
    have hT2 : T < 65536 := by
      have := Int.emod_lt_of_pos t (show (0 : Int) < ((65536 : Nat) : Int) by omega)
      omega
    have hcr2 : Hid (Dk.crash l f x at0 t = l.take f ++ Dk.back ((l.drop f).take k) A T 16) := by
      rw [Hid, hcr.out, Dk.left, if_pos h2, show (8 * (k : Int) - 15) = ((8 * k - 15 : Nat) : Int) by omega, hA, show (t % 65536).toNat = T by
        have : t % 65536 = (T : Int) := hT
        omega, Int.toNat_natCast, Dk.back_turn _ A T (by rw [hlk]; omega)]
    have HR1 : Hid (∀ W, Calls Try.prog 27 #[.int .i64 at0, .int .i64 (8 * (k : Int) - 15)] W fun e w' => e = .returned (.int .i64 (A : Int)) ∧ w' = W) := fun W => by
      have := rest_any at0 (8 * k - 15) (by omega) (by omega) W
      rw [hA] at this
      rwa [show 8 * (k : Int) - 15 = ((8 * k - 15 : Nat) : Int) by omega]
    have HR2 : Hid (∀ W, Calls Try.prog 27 #[.int .i64 t, .int .i64 65536] W fun e w' => e = .returned (.int .i64 (T : Int)) ∧ w' = W) := fun W => by
      have := rest_any t 65536 (by omega) (by omega) W
      rw [hT] at this
      exact this
    clear hA hT hcr
    refine Calls.mono (HR1.out _) ?_
    rintro e wx ⟨rfl, hw⟩
    obtain rfl := hw.symm
    go_wp2_with fail
    refine Calls.mono (HR2.out _) ?_
    rintro e wx ⟨rfl, hw⟩
    obtain rfl := hw.symm
    generalize hm : (l.drop f).take k = m at *
    go_wp2_with fail
    go_loopw [10, 11] (fun bv iv wr => ∃ j : Nat, j ≤ 16 ∧ bv = .int .i64 ((T / 2 ^ j : Nat) : Int) ∧ iv = .int .i64 (15 - (j : Int)) ∧ Tail wr G (Dk.back m A T j) ∧ w1.grownBy wr (some G)) (fun _ iv _ => (intOf iv + 1).toNat)
    case atStart => exact ⟨0, by omega, by simp, by simp, hT3, World.grownBy.refl _ _⟩
    case round =>
      obtain ⟨j, hj, rfl, rfl, hT4, g4⟩ := hrel
      clear HR1 HR2
      have hbl := Dk.back_length m A T j
      rw [hlk] at hbl
      by_cases hlt : j < 16
      · have hTj : T / 2 ^ j < 65536 := Nat.lt_of_le_of_lt (Nat.div_le_self _ _) hT2
        have hTn : Hid (T / 2 ^ (j + 1) = T / 2 ^ j / 2) := by rw [Hid, Nat.pow_succ, Nat.div_div_eq_div_mul]
        have hbk : Hid (Dk.back m A T (j + 1) = if T / 2 ^ j % 2 = 1 then Dk.flip (Dk.back m A T j) (A + (15 - j)) else Dk.back m A T j) := rfl
        obtain ⟨p, hp⟩ : ∃ p : Nat, A + (15 - j) = p := ⟨_, rfl⟩
        have hp2 : (A : Int) + (15 - (j : Int)) = (p : Int) := by omega
        rw [hp] at hbk
        generalize hc : T / 2 ^ j = c at *
        generalize hbb : Dk.back m A T j = bl at *
        have hd : (c : Int).tdiv 2 = ((c / 2 : Nat) : Int) := by rw [Int.tdiv_eq_ediv_of_nonneg (by omega)]; omega
        by_cases hbit : c % 2 = 1
        · have hbt : (c : Int).tmod 2 = 1 := by rw [Int.tmod_eq_emod_of_nonneg (by omega)]; omega
          have hp8 : p / 8 < k := by omega
          have hpb : p < 600000 := by omega
          have hj0 : (0 : Int) ≤ 15 - (j : Int) := by omega
          rw [if_pos hbit] at hbk
          go_wp2_with fail
          go_loop [13, 14] (fun bv vv => ∃ s : Nat, s ≤ 7 - p % 8 ∧ bv = .int .i64 ((7 - p % 8 - s : Nat) : Int) ∧ vv = .int .u8 ((2 ^ s : Nat) : Int)) (fun bv _ => (intOf bv).toNat)
          case atStart =>
            refine ⟨0, by omega, ?_, rfl⟩
            congr 1
            omega
          case round =>
            obtain ⟨s, hs, rfl, rfl⟩ := hrel
            by_cases hs2 : s < 7 - p % 8
            · have h6 : s ≤ 6 := by omega
              have hy : 2 ^ s ≤ 64 := Nat.le_trans (Nat.pow_le_pow_right (by omega) h6) (by decide)
              have hyn : Hid (2 ^ (s + 1) = 2 ^ s * 2) := by rw [Hid, Nat.pow_succ]
              generalize 2 ^ s = y at *
              have hpos : (0 : Int) < ((7 - p % 8 - s : Nat) : Int) := by omega
              go_wp2
              go_round
              case rel => exact ⟨s + 1, by omega, by congr 1; omega, by rw [hyn.out]; congr 1⟩
              case measure => simp [intOf]; omega
            · obtain rfl : s = 7 - p % 8 := by omega
              obtain ⟨z, hz1, hz2⟩ := flip_set bl p (2 ^ (7 - p % 8)) rfl
              have hcell := hT4.cell (j := p / 8) (by omega)
              have hfz := hT4.fz (j := p / 8) (by omega)
              have Hs : Hid (Tail (wr.setCell ⟨G, p / 8, none⟩ (.int .u8 (z.toNat : Int))) G (Dk.back m A T (j + 1))) := by
                rw [Hid, hbk.out, hz1]
                exact hT4.set z
              have hv : (2 ^ (7 - p % 8) : Nat) < 256 := Nat.lt_of_le_of_lt (Nat.pow_le_pow_right (by omega) (show 7 - p % 8 ≤ 7 by omega)) (by decide)
              generalize (2 ^ (7 - p % 8) : Nat) = v at *
              generalize (bl.getD (p / 8) 0).toNat = y at *
              clear hT4 hz1
              go_wp2
              go_roundw
              case rel => exact ⟨j + 1, by omega, by rw [hTn.out]; go_num, by go_num, Hs.out, grown_trans g4 (grown_set _ _ _ _)⟩
              case measure => simp [intOf]; omega
        · have hbt : ¬ (c : Int).tmod 2 = 1 := by rw [Int.tmod_eq_emod_of_nonneg (by omega)]; omega
          rw [if_neg hbit] at hbk
          have hj0 : (0 : Int) ≤ 15 - (j : Int) := by omega
          go_wp2
          go_roundw
          case rel => exact ⟨j + 1, by omega, by rw [hTn.out]; go_num, by go_num, by rw [hbk.out]; exact hT4, g4⟩
          case measure => simp [intOf]; omega
      · obtain rfl : j = 16 := by omega
        have hT5 := hT4
        have hlen5 := hbl
        have hR5 := hR1.same (g4.block g (by have := hR1.lt; omega) (fun e => hgG (Option.some.inj e)))
        have hcr5 := hcr2
        generalize hm5 : Dk.back m A T 16 = m5 at *
        have g5 : w.grownBy wr (some g) := ⟨g4.os.trans g1.os, g4.tape.trans g1.tape, g4.output.trans g1.output, Nat.le_trans g1.size g4.size, fun i hi hr => (g4.block i (Nat.lt_of_lt_of_le hi g1.size) (fun e => by have := Option.some.inj e; omega)).trans (g1.block i hi hr)⟩
        clear hT4 hbl hT3 g4 hR1 g1 hcr2 hT2
        have hTt := hT5.bytes (c := cap) (by omega)
        have hcvA := tail_text hT5 (c := cap) (by omega)
        have hcvB := tail_text (w := wr.drew) (hT5.same rfl) (c := cap) (by omega)
        rw [hlen5] at hcvA hcvB
        have c0 := hR5.c0
        have c1 := hR5.c1
        have f0 := hR5.fz 0
        have hsh := fun W => slice_head l f hf W
        have hadd : tx (l.take f) ++ tx m5 = tx (Dk.crash l f x at0 t) := by rw [tx_add, hcr5.out]
        have hz := tx_size (l.take f)
        have hz2 := tx_size m5
        have hz3 := tx_size (Dk.crash l f x at0 t)
        have hlcr : (Dk.crash l f x at0 t).length = f + k := by rw [hcr5.out, List.length_append, List.length_take, hlen5]; omega
        rw [List.length_take, Nat.min_eq_left hf] at hz
        rw [hlen5] at hz2
        have hR6 : Rf (wr.setCell ⟨g, 0, none⟩ (.string (tx (Dk.crash l f x at0 t)))).drew g (Dk.crash l f x at0 t) f r := hR5.set0.same rfl
        clear hTt hT5
        go_wp2_with fail
        go_region
        clear c0 c1 f0 hcvA hcvB hsh hadd
        have d0 := hR6.c0
        have d1 := hR6.c1
        have e1 := hR6.fz 1
        have H : Hid (∀ z : Int, z = ((Dk.crash l f x at0 t).length : Int) → Rf ((wr.setCell ⟨g, 0, none⟩ (.string (tx (Dk.crash l f x at0 t)))).drew.setCell ⟨g, 1, none⟩ (.int .i64 z)) g (Dk.crash l f x at0 t) (Dk.crash l f x at0 t).length r) := fun z hz => by rw [hz]; exact hR6.set1 _
        have g6 : Hid (∀ z, w.grownBy ((wr.setCell ⟨g, 0, none⟩ (.string (tx (Dk.crash l f x at0 t)))).drew.setCell ⟨g, 1, none⟩ z) (some g)) := fun z => grown_trans (grown_drew (grown_trans g5 (grown_set _ _ _ _))) (grown_set _ _ _ _)
        go_wp2
        go_end0
        exact ⟨rfl, H.out _ (by omega), g6.out _⟩
  · have h2' : (2 : Int) ≤ (k : Int) := by omega
    obtain ⟨A, hA⟩ : ∃ A : Nat, at0 % ((8 * k - 15 : Nat) : Int) = (A : Int) := ⟨_, (Int.toNat_of_nonneg (Int.emod_nonneg _ (by omega))).symm⟩
    obtain ⟨T, hT⟩ : ∃ T : Nat, t % ((65536 : Nat) : Int) = (T : Int) := ⟨_, (Int.toNat_of_nonneg (Int.emod_nonneg _ (by omega))).symm⟩
    have hA2 : A < 8 * k - 15 := by
      have := Int.emod_lt_of_pos at0 (show (0 : Int) < ((8 * k - 15 : Nat) : Int) by omega)
      omega
    have hT2 : T < 65536 := by
      have := Int.emod_lt_of_pos t (show (0 : Int) < ((65536 : Nat) : Int) by omega)
      omega
    have hcr2 : Hid (Dk.crash l f x at0 t = l.take f ++ Dk.back ((l.drop f).take k) A T 16) := by
      rw [Hid, hcr.out, Dk.left, if_pos h2, show (8 * (k : Int) - 15) = ((8 * k - 15 : Nat) : Int) by omega, hA, show (t % 65536).toNat = T by
        have : t % 65536 = (T : Int) := hT
        omega, Int.toNat_natCast, Dk.back_turn _ A T (by rw [hlk]; omega)]
    have HR1 : Hid (∀ W, Calls Try.prog 27 #[.int .i64 at0, .int .i64 (8 * (k : Int) - 15)] W fun e w' => e = .returned (.int .i64 (A : Int)) ∧ w' = W) := fun W => by
      have := rest_any at0 (8 * k - 15) (by omega) (by omega) W
      rw [hA] at this
      rwa [show 8 * (k : Int) - 15 = ((8 * k - 15 : Nat) : Int) by omega]
    have HR2 : Hid (∀ W, Calls Try.prog 27 #[.int .i64 t, .int .i64 65536] W fun e w' => e = .returned (.int .i64 (T : Int)) ∧ w' = W) := fun W => by
      have := rest_any t 65536 (by omega) (by omega) W
      rw [hT] at this
      exact this
    clear hA hT hcr
    refine Calls.mono (HR1.out _) ?_
    rintro e wx ⟨rfl, hw⟩
    obtain rfl := hw.symm
    go_wp2_with fail
    refine Calls.mono (HR2.out _) ?_
    rintro e wx ⟨rfl, hw⟩
    obtain rfl := hw.symm
    generalize hm : (l.drop f).take k = m at *
    go_wp2_with fail
    go_loopw [10, 11] (fun bv iv wr => ∃ j : Nat, j ≤ 16 ∧ bv = .int .i64 ((T / 2 ^ j : Nat) : Int) ∧ iv = .int .i64 (15 - (j : Int)) ∧ Tail wr G (Dk.back m A T j) ∧ w1.grownBy wr (some G)) (fun _ iv _ => (intOf iv + 1).toNat)
    case atStart => exact ⟨0, by omega, by simp, by simp, hT3, World.grownBy.refl _ _⟩
    case round =>
      obtain ⟨j, hj, rfl, rfl, hT4, g4⟩ := hrel
      clear HR1 HR2
      have hbl := Dk.back_length m A T j
      rw [hlk] at hbl
      by_cases hlt : j < 16
      · have hTj : T / 2 ^ j < 65536 := Nat.lt_of_le_of_lt (Nat.div_le_self _ _) hT2
        have hTn : Hid (T / 2 ^ (j + 1) = T / 2 ^ j / 2) := by rw [Hid, Nat.pow_succ, Nat.div_div_eq_div_mul]
        have hbk : Hid (Dk.back m A T (j + 1) = if T / 2 ^ j % 2 = 1 then Dk.flip (Dk.back m A T j) (A + (15 - j)) else Dk.back m A T j) := rfl
        obtain ⟨p, hp⟩ : ∃ p : Nat, A + (15 - j) = p := ⟨_, rfl⟩
        have hp2 : (A : Int) + (15 - (j : Int)) = (p : Int) := by omega
        rw [hp] at hbk
        generalize hc : T / 2 ^ j = c at *
        generalize hbb : Dk.back m A T j = bl at *
        have hd : (c : Int).tdiv 2 = ((c / 2 : Nat) : Int) := by rw [Int.tdiv_eq_ediv_of_nonneg (by omega)]; omega
        by_cases hbit : c % 2 = 1
        · have hbt : (c : Int).tmod 2 = 1 := by rw [Int.tmod_eq_emod_of_nonneg (by omega)]; omega
          have hp8 : p / 8 < k := by omega
          have hpb : p < 600000 := by omega
          have hj0 : (0 : Int) ≤ 15 - (j : Int) := by omega
          rw [if_pos hbit] at hbk
          go_wp2_with fail
          go_loop [13, 14] (fun bv vv => ∃ s : Nat, s ≤ 7 - p % 8 ∧ bv = .int .i64 ((7 - p % 8 - s : Nat) : Int) ∧ vv = .int .u8 ((2 ^ s : Nat) : Int)) (fun bv _ => (intOf bv).toNat)
          case atStart =>
            refine ⟨0, by omega, ?_, rfl⟩
            congr 1
            omega
          case round =>
            obtain ⟨s, hs, rfl, rfl⟩ := hrel
            by_cases hs2 : s < 7 - p % 8
            · have h6 : s ≤ 6 := by omega
              have hy : 2 ^ s ≤ 64 := Nat.le_trans (Nat.pow_le_pow_right (by omega) h6) (by decide)
              have hyn : Hid (2 ^ (s + 1) = 2 ^ s * 2) := by rw [Hid, Nat.pow_succ]
              generalize 2 ^ s = y at *
              have hpos : (0 : Int) < ((7 - p % 8 - s : Nat) : Int) := by omega
              go_wp2
              go_round
              case rel => exact ⟨s + 1, by omega, by congr 1; omega, by rw [hyn.out]; congr 1⟩
              case measure => simp [intOf]; omega
            · obtain rfl : s = 7 - p % 8 := by omega
              obtain ⟨z, hz1, hz2⟩ := flip_set bl p (2 ^ (7 - p % 8)) rfl
              have hcell := hT4.cell (j := p / 8) (by omega)
              have hfz := hT4.fz (j := p / 8) (by omega)
              have Hs : Hid (Tail (wr.setCell ⟨G, p / 8, none⟩ (.int .u8 (z.toNat : Int))) G (Dk.back m A T (j + 1))) := by
                rw [Hid, hbk.out, hz1]
                exact hT4.set z
              have hv : (2 ^ (7 - p % 8) : Nat) < 256 := Nat.lt_of_le_of_lt (Nat.pow_le_pow_right (by omega) (show 7 - p % 8 ≤ 7 by omega)) (by decide)
              generalize (2 ^ (7 - p % 8) : Nat) = v at *
              generalize (bl.getD (p / 8) 0).toNat = y at *
              clear hT4 hz1
              go_wp2
              go_roundw
              case rel => exact ⟨j + 1, by omega, by rw [hTn.out]; go_num, by go_num, Hs.out, grown_trans g4 (grown_set _ _ _ _)⟩
              case measure => simp [intOf]; omega
        · have hbt : ¬ (c : Int).tmod 2 = 1 := by rw [Int.tmod_eq_emod_of_nonneg (by omega)]; omega
          rw [if_neg hbit] at hbk
          have hj0 : (0 : Int) ≤ 15 - (j : Int) := by omega
          go_wp2
          go_roundw
          case rel => exact ⟨j + 1, by omega, by rw [hTn.out]; go_num, by go_num, by rw [hbk.out]; exact hT4, g4⟩
          case measure => simp [intOf]; omega
      · obtain rfl : j = 16 := by omega
        have hT5 := hT4
        have hlen5 := hbl
        have hR5 := hR1.same (g4.block g (by have := hR1.lt; omega) (fun e => hgG (Option.some.inj e)))
        have hcr5 := hcr2
        generalize hm5 : Dk.back m A T 16 = m5 at *
        have g5 : w.grownBy wr (some g) := ⟨g4.os.trans g1.os, g4.tape.trans g1.tape, g4.output.trans g1.output, Nat.le_trans g1.size g4.size, fun i hi hr => (g4.block i (Nat.lt_of_lt_of_le hi g1.size) (fun e => by have := Option.some.inj e; omega)).trans (g1.block i hi hr)⟩
        clear hT4 hbl hT3 g4 hR1 g1 hcr2 hT2
        have hTt := hT5.bytes (c := cap) (by omega)
        have hcvA := tail_text hT5 (c := cap) (by omega)
        have hcvB := tail_text (w := wr.drew) (hT5.same rfl) (c := cap) (by omega)
        rw [hlen5] at hcvA hcvB
        have c0 := hR5.c0
        have c1 := hR5.c1
        have f0 := hR5.fz 0
        have hsh := fun W => slice_head l f hf W
        have hadd : tx (l.take f) ++ tx m5 = tx (Dk.crash l f x at0 t) := by rw [tx_add, hcr5.out]
        have hz := tx_size (l.take f)
        have hz2 := tx_size m5
        have hz3 := tx_size (Dk.crash l f x at0 t)
        have hlcr : (Dk.crash l f x at0 t).length = f + k := by rw [hcr5.out, List.length_append, List.length_take, hlen5]; omega
        rw [List.length_take, Nat.min_eq_left hf] at hz
        rw [hlen5] at hz2
        have hR6 : Rf (wr.setCell ⟨g, 0, none⟩ (.string (tx (Dk.crash l f x at0 t)))).drew g (Dk.crash l f x at0 t) f r := hR5.set0.same rfl
        clear hTt hT5
        go_wp2_with fail
        go_region
        clear c0 c1 f0 hcvA hcvB hsh hadd
        have d0 := hR6.c0
        have d1 := hR6.c1
        have e1 := hR6.fz 1
        have H : Hid (∀ z : Int, z = ((Dk.crash l f x at0 t).length : Int) → Rf ((wr.setCell ⟨g, 0, none⟩ (.string (tx (Dk.crash l f x at0 t)))).drew.setCell ⟨g, 1, none⟩ (.int .i64 z)) g (Dk.crash l f x at0 t) (Dk.crash l f x at0 t).length r) := fun z hz => by rw [hz]; exact hR6.set1 _
        have g6 : Hid (∀ z, w.grownBy ((wr.setCell ⟨g, 0, none⟩ (.string (tx (Dk.crash l f x at0 t)))).drew.setCell ⟨g, 1, none⟩ z) (some g)) := fun z => grown_trans (grown_drew (grown_trans g5 (grown_set _ _ _ _))) (grown_set _ _ _ _)
        go_wp2
        go_end0
        exact ⟨rfl, H.out _ (by omega), g6.out _⟩
  · have hcr5 : Hid (Dk.crash l f x at0 t = l.take f ++ (l.drop f).take k) := by rw [Hid, hcr.out, Dk.left, if_neg (by omega)]
    have hT5 := hT3
    have hlen5 := hlk
    have hR5 := hR1
    have g5 := g1
    generalize hm5 : (l.drop f).take k = m5 at *
    clear hT3 hlk hR1 g1 hcr
    generalize w1 = wr at *
    have hTt := hT5.bytes (c := cap) (by omega)
    have hcvA := tail_text hT5 (c := cap) (by omega)
    have hcvB := tail_text (w := wr.drew) (hT5.same rfl) (c := cap) (by omega)
    rw [hlen5] at hcvA hcvB
    have c0 := hR5.c0
    have c1 := hR5.c1
    have f0 := hR5.fz 0
    have hsh := fun W => slice_head l f hf W
    have hadd : tx (l.take f) ++ tx m5 = tx (Dk.crash l f x at0 t) := by rw [tx_add, hcr5.out]
    have hz := tx_size (l.take f)
    have hz2 := tx_size m5
    have hz3 := tx_size (Dk.crash l f x at0 t)
    have hlcr : (Dk.crash l f x at0 t).length = f + k := by rw [hcr5.out, List.length_append, List.length_take, hlen5]; omega
    rw [List.length_take, Nat.min_eq_left hf] at hz
    rw [hlen5] at hz2
    have hR6 : Rf (wr.setCell ⟨g, 0, none⟩ (.string (tx (Dk.crash l f x at0 t)))).drew g (Dk.crash l f x at0 t) f r := hR5.set0.same rfl
    clear hTt hT5
    go_wp2_with fail
    go_region
    clear c0 c1 f0 hcvA hcvB hsh hadd
    have d0 := hR6.c0
    have d1 := hR6.c1
    have e1 := hR6.fz 1
    have H : Hid (∀ z : Int, z = ((Dk.crash l f x at0 t).length : Int) → Rf ((wr.setCell ⟨g, 0, none⟩ (.string (tx (Dk.crash l f x at0 t)))).drew.setCell ⟨g, 1, none⟩ (.int .i64 z)) g (Dk.crash l f x at0 t) (Dk.crash l f x at0 t).length r) := fun z hz => by rw [hz]; exact hR6.set1 _
    have g6 : Hid (∀ z, w.grownBy ((wr.setCell ⟨g, 0, none⟩ (.string (tx (Dk.crash l f x at0 t)))).drew.setCell ⟨g, 1, none⟩ z) (some g)) := fun z => grown_trans (grown_drew (grown_trans g5 (grown_set _ _ _ _))) (grown_set _ _ _ _)
    go_wp2
    go_end0
    exact ⟨rfl, H.out _ (by omega), g6.out _⟩
  · have hcr5 : Hid (Dk.crash l f x at0 t = l.take f ++ (l.drop f).take k) := by rw [Hid, hcr.out, Dk.left, if_neg (by omega)]
    have hT5 := hT3
    have hlen5 := hlk
    have hR5 := hR1
    have g5 := g1
    generalize hm5 : (l.drop f).take k = m5 at *
    clear hT3 hlk hR1 g1 hcr
    generalize w1 = wr at *
    have hTt := hT5.bytes (c := cap) (by omega)
    have hcvA := tail_text hT5 (c := cap) (by omega)
    have hcvB := tail_text (w := wr.drew) (hT5.same rfl) (c := cap) (by omega)
    rw [hlen5] at hcvA hcvB
    have c0 := hR5.c0
    have c1 := hR5.c1
    have f0 := hR5.fz 0
    have hsh := fun W => slice_head l f hf W
    have hadd : tx (l.take f) ++ tx m5 = tx (Dk.crash l f x at0 t) := by rw [tx_add, hcr5.out]
    have hz := tx_size (l.take f)
    have hz2 := tx_size m5
    have hz3 := tx_size (Dk.crash l f x at0 t)
    have hlcr : (Dk.crash l f x at0 t).length = f + k := by rw [hcr5.out, List.length_append, List.length_take, hlen5]; omega
    rw [List.length_take, Nat.min_eq_left hf] at hz
    rw [hlen5] at hz2
    have hR6 : Rf (wr.setCell ⟨g, 0, none⟩ (.string (tx (Dk.crash l f x at0 t)))).drew g (Dk.crash l f x at0 t) f r := hR5.set0.same rfl
    clear hTt hT5
    go_wp2_with fail
    go_region
    clear c0 c1 f0 hcvA hcvB hsh hadd
    have d0 := hR6.c0
    have d1 := hR6.c1
    have e1 := hR6.fz 1
    have H : Hid (∀ z : Int, z = ((Dk.crash l f x at0 t).length : Int) → Rf ((wr.setCell ⟨g, 0, none⟩ (.string (tx (Dk.crash l f x at0 t)))).drew.setCell ⟨g, 1, none⟩ (.int .i64 z)) g (Dk.crash l f x at0 t) (Dk.crash l f x at0 t).length r) := fun z hz => by rw [hz]; exact hR6.set1 _
    have g6 : Hid (∀ z, w.grownBy ((wr.setCell ⟨g, 0, none⟩ (.string (tx (Dk.crash l f x at0 t)))).drew.setCell ⟨g, 1, none⟩ z) (some g)) := fun z => grown_trans (grown_drew (grown_trans g5 (grown_set _ _ _ _))) (grown_set _ _ _ _)
    go_wp2
    go_end0
    exact ⟨rfl, H.out _ (by omega), g6.out _⟩
end Go.Proofs.Ytcopjgincdbliaa
