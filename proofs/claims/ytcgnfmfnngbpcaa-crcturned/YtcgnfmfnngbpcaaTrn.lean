/-
  CrcTurned: sealed bytes in which bits within 16 side by side are turned aren't opened. For every input.
-/
import Derived.Test.YtcgnfmfnngbpcaaBck
namespace Go.Proofs.Ytcgnfmfnngbpcaa
open Go.RowKit

theorem Ck.split_two (l : List UInt8) (m : Nat) (h : l.length = m + 2) : l = l.take m ++ [l.getD m 0, l.getD (m + 1) 0] := by
  have h1 : l.drop m = [l.getD m 0, l.getD (m + 1) 0] := by
    rw [List.drop_eq_getElem_cons (by omega), List.drop_eq_getElem_cons (by omega), List.drop_eq_nil_of_le (by omega)]
    simp [List.getD, show m < l.length by omega, show m + 1 < l.length by omega]
  rw [← h1, List.take_append_drop]
/-- Bytes are sealed just if they turn the check to 0. -/
theorem Ck.zero_iff (l : List UInt8) (m : Nat) (h : l.length = m + 2) : Ck.fold 65535#16 l = 0#16 ↔ Ck.crc (l.take m) = Ck.word (l.getD m 0) (l.getD (m + 1) 0) := by
  have e : Ck.fold 65535#16 l = Ck.fold (Ck.crc (l.take m)) [l.getD m 0, l.getD (m + 1) 0] := by
    conv => lhs; rw [Ck.split_two l m h]
    rw [Ck.fold_append]
    rfl
  rw [e, Ck.fold_two]
theorem Ck.sealed_zero (l : List UInt8) : Ck.fold 65535#16 (Ck.sealed l) = 0#16 :=
  (Ck.zero_iff _ l.length (Ck.sealed_length l)).2 (Ck.sealed_opens l)

/-- One bit turned, as the statement's loop does it. -/
def flip (l : List UInt8) (p : Nat) : List UInt8 := l.set (p / 8) (l.getD (p / 8) 0 ^^^ UInt8.ofNat (128 / 2 ^ (p % 8)))
theorem flip_length (l : List UInt8) (p : Nat) : (flip l p).length = l.length := by simp [flip]
theorem flip_fold (l : List UInt8) (k i : Nat) (hi : i < 16) (hk : k + 16 ≤ 8 * l.length) (x : BitVec 16) :
    Ck.fold x (flip l (k + i)) = Ck.fold x l ^^^ Ck.rep (8 * l.length - k) (BitVec.ofNat 16 (32768 / 2 ^ i)) := by
  have hq : (k + i) / 8 < l.length := by omega
  rw [← Ck.fold_turn x l k i hi hk hq, flip, List.getD_eq_getElem?_getD, List.getElem?_eq_getElem hq, Option.getD_some]
theorem flip_bs (l : List UInt8) (p : Nat) : bs (flip l p) = (bs l).set (p / 8) (.int .u8 (bits .xor .u8 ((l.getD (p / 8) 0).toNat : Int) (128 / 2 ^ (p % 8)))) := by
  have h1 : 128 / 2 ^ (p % 8) < 256 := Nat.lt_of_le_of_lt (Nat.div_le_self _ _) (by omega)
  have h2 := u8_xor_nat (l.getD (p / 8) 0).toNat (128 / 2 ^ (p % 8)) (l.getD (p / 8) 0).toNat_lt h1
  have h3 : (((128 / 2 ^ (p % 8) : Nat)) : Int) = 128 / 2 ^ (p % 8) := by simp
  rw [h3] at h2
  rw [h2, flip, bs, List.map_set, UInt8.toNat_xor, toNat_ofNat_lt _ h1]
  rfl

theorem bit_and (t i c : Nat) (ht : t < 65536) (h : t / 2 ^ (15 - i) % 2 = c) : bits .and .u16 ((t : Int) / 2 ^ (15 - i)) 1 = (c : Int) := by
  have h1 : ((t : Int) / 2 ^ (15 - i)) = ((t / 2 ^ (15 - i) : Nat) : Int) := by simp
  have h2 := u16_and_nat (t / 2 ^ (15 - i)) 1 (Nat.lt_of_le_of_lt (Nat.div_le_self _ _) ht) (by omega)
  rw [Nat.and_one_is_mod, h] at h2
  rw [h1]
  exact h2
theorem byte_cell {wr : World} {base g n q : Nat} {l : List UInt8} (h : wr.ownsRow base 5 1 (.slice (some ⟨g, 0, none⟩) n n) n (bs l)) (hl : l.length = n) (hq : q < n) : wr.cell? ⟨g, q, none⟩ = some (.int .u8 ((l.getD q 0).toNat : Int)) := by
  have := (Bytes.own h).cells _ rfl q (.int .u8 ((l.getD q 0).toNat : Int)) (by simp [bs, List.getD, show q < l.length by omega])
  rwa [Addr.add_lit, Nat.zero_add] at this

set_option maxHeartbeats 1000000 in
theorem turned_walk (b : ByteArray) (at' t : Nat) (hb : b.size ≤ maxLen) (hat : at' < 18446744073709551616) (ht : t < 65536) (w : World) :
    Calls Try.prog 5 #[.string b, .int .u64 (at' : Int), .int .u16 (t : Int)] w fun e w' => e = .returned (.bool true) ∧ Below w.heap.size w w' := by
  have hbm := hb
  unfold maxLen at hbm
  by_cases h : b.size ≤ 5000
  · go_enter Try.func5, Try.ntmps5
    go_wp2_with fail
    refine (awake_any _).mono ?_
    rintro e w1 ⟨rfl, hb1⟩
    have hs1 := hb1.size
    obtain ⟨cap, w2, hcv, hB2, hcap, hb2, hz2⟩ := conv_bytes b w1 hb
    have hs2 := hb2.size
    go_wp2_with fail
    refine (seal_any _ _ _ _ _ hB2 (by omega)).mono ?_
    rintro e w3 ⟨g, rfl, hown3, hb3⟩
    have hs3 := hb3.size
    have hl3 : (Ck.sealed b.data.toList).length = b.size + 2 := by rw [Ck.sealed_length, hB2.len]
    have hz3 := Ck.sealed_zero b.data.toList
    have hbel3 : Below w.heap.size w w3 := (hb1.trans (hb2.mono hs1)).trans (hb3.mono (by omega))
    have hgb : w.heap.size ≤ g := Nat.le_trans (by omega) (hown3.lt g rfl).1
    generalize Ck.sealed b.data.toList = l0 at *
    clear hcv hB2 hcap
    have hmod : (at' : Int) % (8 * ((b.size : Int) + 2) - 15) = ((at' % (8 * (b.size + 2) - 15) : Nat) : Int) := by
      rw [Int.natCast_emod]; congr 1; omega
    have hk : at' % (8 * (b.size + 2) - 15) < 8 * (b.size + 2) - 15 := Nat.mod_lt _ (by omega)
    generalize at' % (8 * (b.size + 2) - 15) = k at *
    obtain ⟨T, HT⟩ : ∃ T : BitVec 16, Hid (T.toNat = t) := ⟨BitVec.ofNat 16 t, by show _ = _; rw [BitVec.toNat_ofNat]; omega⟩
    go_wp2
    go_loopw [9] (fun iv wr => ∃ (i : Nat) (lst : List UInt8), i ≤ 16 ∧ iv = .int .i64 (i : Int) ∧ lst.length = b.size + 2 ∧ Hid (Ck.fold 65535#16 lst = Ck.rep (8 * (b.size + 2) - k) (Ck.tops T i)) ∧
      wr.ownsRow w2.heap.size 5 1 (.slice (some ⟨g, 0, none⟩) (b.size + 2) (b.size + 2)) (b.size + 2) (bs lst) ∧ Below w.heap.size w wr) (fun iv _ => 16 - (intOf iv).toNat)
    case atStart => exact ⟨0, l0, by omega, rfl, hl3, by show _ = _; rw [hz3, Ck.tops, Ck.rep_zero], hown3, hbel3⟩
    case round =>
      obtain ⟨i, lst, hi, rfl, hll, hfold, hown, hbel⟩ := hrel
      by_cases hlt : i < 16
      · have hq : (k + i) / 8 < b.size + 2 := by omega
        by_cases hbit : t / 2 ^ (15 - i) % 2 = 1
        · have hand := bit_and t i 1 ht hbit
          have hc := byte_cell hown hll hq
          have hf := hown.frozenAt ((k + i) / 8)
          have Hst : Hid ((wr.setCell ⟨g, (k + i) / 8, none⟩ (.int .u8 (bits .xor .u8 ((lst.getD ((k + i) / 8) 0).toNat : Int) (128 / 2 ^ ((k + i) % 8))))).ownsRow w2.heap.size 5 1 (.slice (some ⟨g, 0, none⟩) (b.size + 2) (b.size + 2)) (b.size + 2) (bs (flip lst (k + i)))) := by
            show World.ownsRow _ _ _ _ _ _ _
            rw [flip_bs]
            exact (hown.stored _ _).1
          generalize (lst.getD ((k + i) / 8) 0).toNat = x at hc Hst
          have Hbit : Hid (t / 2 ^ (15 - i) % 2 = 1) := hbit
          clear hbit
          go_wp2
          go_roundw
          case rel =>
            refine ⟨i + 1, flip lst (k + i), by omega, by go_num, by rw [flip_length, hll], ?_, Hst.out, hbel.setCell hgb _⟩
            show _ = _
            rw [flip_fold lst k i hlt (by omega), hfold.out, hll, ← Ck.rep_xor, Ck.tops, HT.out, if_pos Hbit.out]
          case measure => simp [intOf]; omega
        · have hbit0 : t / 2 ^ (15 - i) % 2 = 0 := by omega
          have hand := bit_and t i 0 ht hbit0
          have Hbit : Hid (¬ t / 2 ^ (15 - i) % 2 = 1) := hbit
          clear hbit hbit0
          go_wp2
          go_roundw
          case rel =>
            refine ⟨i + 1, lst, by omega, by go_num, hll, ?_, hown, hbel⟩
            show _ = _
            rw [hfold.out, Ck.tops, HT.out, if_neg Hbit.out, BitVec.xor_zero]
          case measure => simp [intOf]; omega
      · obtain rfl : i = 16 := by omega
        have hz := Ck.zero_iff lst b.size hll
        rw [hfold.out, Ck.tops_all] at hz
        by_cases ht0 : t = 0
        · have hT0 : T = 0#16 := BitVec.eq_of_toNat_eq (by rw [HT.out, ht0]; rfl)
          have hop := open_yes _ _ _ _ wr (Bytes.own hown) (by omega) (by omega) (by
            rw [show b.size + 2 - 2 = b.size by omega, show b.size + 2 - 1 = b.size + 1 by omega]; exact hz.1 (by rw [hT0, Ck.rep_zero]))
          have Hop : Hid _ := hop
          clear hop hz hT0
          subst ht0
          go_wp2_with fail
          refine Calls.mono Hop.out ?_
          rintro e w4 ⟨g4, rfl, hown4, hb4⟩
          go_wp2
          go_ret
          exact ⟨rfl, hbel.trans (hb4.mono hbel.size)⟩
        · have hT0 : T ≠ 0#16 := fun h => ht0 (by rw [← HT.out, h]; rfl)
          have hop := open_no _ _ _ _ wr (Bytes.own hown) (by unfold maxLen; omega) (by unfold maxLen; omega) (by omega) (by
            rw [show b.size + 2 - 2 = b.size by omega, show b.size + 2 - 1 = b.size + 1 by omega]
            exact fun h => hT0 (Ck.rep_eq_zero _ _ (hz.2 h)))
          have Hop : Hid _ := hop
          have hne : ((t : Int) == 0) = false := by rw [beq_eq_false_iff_ne]; omega
          clear hop hz hT0
          go_wp2_with fail
          refine Calls.mono Hop.out ?_
          rintro e w4 ⟨rfl, hb4⟩
          go_wp2
          go_ret
          exact ⟨rfl, hbel.trans (hb4.mono hbel.size)⟩
  · have hgt : (5000 : Int) < (b.size : Int) := by omega
    go_enter Try.func5, Try.ntmps5
    go_wp2_with fail
    refine (awake_any _).mono ?_
    rintro e w1 ⟨rfl, hb1⟩
    go_wp2_with fail
    refine (awake_any _).mono ?_
    rintro e w2 ⟨rfl, hb2⟩
    go_wp2
    go_ret
    exact ⟨rfl, hb1.trans (hb2.mono hb1.size)⟩
end Go.Proofs.Ytcgnfmfnngbpcaa
