/-
  FrameLongest: of a body of any length about the greatest one the frame is as long as the document says, or there is none. For every input.
-/
import Derived.Test.YtfnaldiacncjfaaPuw
namespace Go.Proofs.Ytfnaldiacncjfaa
open Go.RowKit

theorem row_cell {w : World} {base g n cap : Nat} {l : List UInt8} (h : w.ownsRow base 5 1 (.slice (some ⟨g, 0, none⟩) n cap) n (bs l)) (k : Nat) (hk : k < n) : w.cell? ⟨g, k, none⟩ = some (.int .u8 ((l.getD k 0).toNat : Int)) := by
  have hl : l.length = n := by have := h.1; rw [bs_length] at this; omega
  rw [h.cellAt k (by omega), bs, List.getElem?_map, List.getElem?_eq_getElem (by omega)]
  simp [List.getD, show k < l.length by omega]
theorem row_turn {w : World} {base g n cap : Nat} {l : List UInt8} (h : w.ownsRow base 5 1 (.slice (some ⟨g, 0, none⟩) n cap) n (bs l)) (k : Nat) (c : UInt8) :
    (w.setCell ⟨g, k, none⟩ (.int .u8 (c.toNat : Int))).ownsRow base 5 1 (.slice (some ⟨g, 0, none⟩) n cap) n (bs (l.set k c)) ∧ w.grownBy (w.setCell ⟨g, k, none⟩ (.int .u8 (c.toNat : Int))) (some g) := by
  have := h.stored k (.int .u8 (c.toNat : Int))
  rw [bs, List.map_set]
  exact this
theorem grown_trans {a b c : World} {row : Option Nat} (h : a.grownBy b row) (k : b.grownBy c row) : a.grownBy c row :=
  ⟨k.os.trans h.os, k.tape.trans h.tape, k.output.trans h.output, Nat.le_trans h.size k.size, fun i hi hr => (k.block i (Nat.lt_of_lt_of_le hi h.size) hr).trans (h.block i hi hr)⟩
theorem made_zero (n : Nat) : (madeCells #[Value.int .u8 0] n).toList = bs (List.replicate n 0) := by
  rw [toList_madeCells_one, bs, List.map_replicate]
  rfl

set_option maxHeartbeats 2000000 in
theorem longest_walk (x c : Nat) (hx : x < 256) (hc : c < 256) (w : World) :
    Calls Try.prog 4 #[.int .u8 (x : Int), .int .u8 (c : Int)] w fun e w' => e = .returned (.bool true) ∧ Below w.heap.size w w' := by
  obtain ⟨i0, hi, hz0, hz1, hz2⟩ := info_parts info5
  obtain ⟨N, HN⟩ : ∃ N, Hid (N = 65520 + x % 20) := ⟨_, rfl⟩
  have hN1 : 65520 ≤ N ∧ N < 65540 := by have := HN.out; omega
  obtain ⟨y, hy⟩ : ∃ y : UInt8, y.toNat = c := ⟨UInt8.ofNat c, toNat_ofNat_lt _ hc⟩
  have hN2 : 65520 + (x : Int) % 20 = (N : Int) := by have := HN.out; omega
  go_enter Try.func4, Try.ntmps4
  go_wp2_with fail
  refine (awake_any _).mono ?_
  rintro e w1 ⟨rfl, hb1⟩
  go_wp2_with (first
    | (at_make; refine wpList_make_full _ rfl _ _ 23 rfl w.heap.size 5 i0 (.int .u8 0) 1 Try.underlying23 hi hz0 hz1 _ _ _ _ N rfl rfl rfl rfl ?b2 ?b3 hb1.size ?_))
  case b2 => rw [hz2]; omega
  case b3 => unfold maxLen; omega
  intro w2 hown2 hgrow2
  rw [made_zero] at hown2
  have hbel2 := hb1.grown hgrow2 hb1.size (fun k h => by cases h)
  clear hN2
  go_wp2_with fail
  go_loopw [21] (fun i wr => ∃ (k : Nat) (l : List UInt8), k ≤ N ∧ i = .int .i64 (k : Int) ∧ wr.ownsRow w.heap.size 5 1 (.slice (some ⟨w1.heap.size, 0, none⟩) N N) N (bs l) ∧ Below w.heap.size w wr) (fun i _ => N - (intOf i).toNat)
  case atStart => exact ⟨0, _, Nat.zero_le _, rfl, hown2, hbel2⟩
  case round =>
    obtain ⟨k, l, hk, rfl, hown, hbel⟩ := hrel
    clear hown2 hgrow2 hbel2
    by_cases hkn : k < N
    · have hf := hown.frozenAt k
      have hcl := row_cell hown k hkn
      have Ht : Hid _ := row_turn hown k y
      rw [hy] at Ht
      generalize (l.getD k 0).toNat = z at *
      go_wp2
      go_roundw
      case rel => exact ⟨k + 1, _, by omega, by go_num, Ht.out.1, hbel.grown Ht.out.2 hbel.size (fun j hj => by cases hj; exact hb1.size)⟩
      case measure => simp [intOf]; omega
    · obtain rfl : k = N := by omega
      have hl : l.length = k := by have := hown.1; rw [bs_length] at this; omega
      by_cases hbig : 65529 < k
      · have hbig' : (65529 : Int) < (k : Int) := by omega
        go_wp2_with fail
        refine (put_long _ _ _ _ hbig (by unfold maxLen; omega)).mono ?_
        rintro e w3 ⟨rfl, hw⟩
        obtain rfl := hw.symm
        go_wp2
        go_ret
        exact ⟨rfl, hbel⟩
      · have hbig' : ¬ (65529 : Int) < (k : Int) := by omega
        go_wp2_with fail
        refine (put_ok _ _ _ _ _ (Bytes.own hown) (by omega)).mono ?_
        rintro e w3 ⟨g3, rfl, hown3, hb3⟩
        have hfr := Fr.take_frame l [] (by omega)
        rw [List.append_nil] at hfr
        have Ht : Hid _ := take_ok _ (k + 6) (k + 6) (Fr.frame l) 0 w3 (Bytes.own hown3) (by unfold maxLen; omega) (by omega) hfr.1
        rw [List.drop_zero, hfr.2.1, hfr.2.2, Fr.frame_length, hl] at Ht
        clear hfr
        have hbel3 := hbel.trans (hb3.mono hbel.size)
        have hownB := own_below hown hb3
        go_wp2_with fail
        refine Calls.mono Ht.out ?_
        rintro e w4 ⟨g4, rfl, hown4, hb4⟩
        have hc := conv_own hown4
        have hc2 := conv_own (own_below hownB hb4)
        have hbel4 := hbel3.trans (hb4.mono hbel3.size)
        clear hown3 hb3 hb4 hown4 hownB hown hl Ht
        go_wp2
        go_ret
        exact ⟨rfl, hbel4⟩
end Go.Proofs.Ytfnaldiacncjfaa
