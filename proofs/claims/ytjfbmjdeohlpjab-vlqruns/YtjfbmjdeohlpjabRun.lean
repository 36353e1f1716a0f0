/-
  VlqRuns: numbers that were put one behind the other are taken one behind the other, and nothing is left. For every input.
-/
import Derived.Test.YtjfbmjdeohlpjabMor
import Derived.Test.YtjfbmjdeohlpjabAwk
namespace Go.Proofs.Ytjfbmjdeohlpjab
open Go.RowKit

/-- The bytes of numbers, one behind the other. -/
def cat : List Nat → List UInt8
  | [] => []
  | n :: l => Vq.num n ++ cat l
theorem cat_append : ∀ a b : List Nat, cat (a ++ b) = cat a ++ cat b
  | [], b => rfl
  | n :: a, b => by rw [List.cons_append, cat, cat, cat_append a b, List.append_assoc]
theorem cat_len : ∀ a : List Nat, (cat a).length ≤ 10 * a.length
  | [] => by simp [cat]
  | n :: a => by
    have h1 := cat_len a
    have h2 := Vq.wd_le n
    rw [cat, List.length_append, Vq.num_length, List.length_cons]; omega
theorem cat_succ (Z : List Nat) (k : Nat) (h : k < Z.length) : cat (Z.take (k + 1)) = cat (Z.take k) ++ Vq.num (Z.getD k 0) := by
  rw [List.take_succ_eq_append_getElem h, cat_append, cat, cat, List.append_nil]
  simp [List.getD, h]
theorem cat_split (Z : List Nat) (k : Nat) (h : k < Z.length) : cat Z = cat (Z.take k) ++ Vq.num (Z.getD k 0) ++ cat (Z.drop (k + 1)) := by
  rw [← cat_succ Z k h, ← cat_append, List.take_append_drop]

set_option maxHeartbeats 1000000 in
/-- A list of numbers, none of them (nil or not). -/
theorem runs_none (ao : Option Addr) (c : Nat) (w : World) :
    Calls Try.prog 3 #[.slice ao 0 c] w fun e w' => e = .returned (.bool true) ∧ Below w.heap.size w w' := by
  go_enter Try.func3, Try.ntmps3
  go_wp2_with fail
  refine (awake_any _).mono ?_
  rintro e w1 ⟨rfl, hb1⟩
  go_wp2_with fail
  refine wp_loop_rounds 1 ?_
  rw [rounds_succ]
  go_wp2_with fail
  refine wp_loop_rounds 1 ?_
  rw [rounds_succ]
  go_wp2_with fail
  refine (take_short none 0 0 [] 0 _ (Bytes.nil _) (Nat.zero_le _) (Nat.le_refl _) (by simp)).mono ?_
  rintro e w2 ⟨rfl, hw⟩
  obtain rfl := hw.symm
  go_wp2
  go_ret
  exact ⟨rfl, hb1⟩

set_option maxHeartbeats 1000000 in
/-- Too many of them: nothing is asked. -/
theorem runs_many (ao : Option Addr) (m c : Nat) (hm : 1000 < m) (hm2 : m ≤ maxLen) (w : World) :
    Calls Try.prog 3 #[.slice ao m c] w fun e w' => e = .returned (.bool true) ∧ Below w.heap.size w w' := by
  unfold maxLen at hm2
  have hm' : (1000 : Int) < (m : Int) := by omega
  go_enter Try.func3, Try.ntmps3
  go_wp2_with fail
  refine (awake_any _).mono ?_
  rintro e w1 ⟨rfl, hb1⟩
  go_wp2_with fail
  refine (awake_any _).mono ?_
  rintro e w2 ⟨rfl, hb2⟩
  go_wp2
  go_ret
  exact ⟨rfl, hb1.trans (hb2.mono hb1.size)⟩

set_option maxHeartbeats 2000000 in
theorem runs_some (b off m c : Nat) (Z : List Nat) (w : World) (hm0 : 0 < m) (hm : m ≤ 1000) (hZ : Z.length = m) (hbb : b < w.heap.size) (hlt : ∀ j, Z.getD j 0 < 18446744073709551616)
    (hcell : ∀ j, j < m → w.cell? ⟨b, off + j, none⟩ = some (.int .u64 ((Z.getD j 0 : Nat) : Int))) :
    Calls Try.prog 3 #[.slice (some ⟨b, off, none⟩) m c] w fun e w' => e = .returned (.bool true) ∧ Below w.heap.size w w' := by
  have hm' : ¬ (1000 : Int) < (m : Int) := by omega
  go_enter Try.func3, Try.ntmps3
  go_wp2_with fail
  refine (awake_any _).mono ?_
  rintro e w1 ⟨rfl, hb1⟩
  go_wp2_with fail
  go_loopw [3, 23] (fun v i wr => ∃ (k : Nat) (ao : Option Addr) (n cp : Nat), k ≤ m ∧ i = .int .i64 (k : Int) ∧ v = .slice ao n cp ∧ Bytes wr ao n cp (cat (Z.take k)) ∧ cp ≤ maxLen ∧ Below w.heap.size w wr) (fun _ i _ => m - (intOf i).toNat)
  case atStart => exact ⟨0, none, 0, 0, Nat.zero_le _, rfl, rfl, Bytes.nil _, Nat.zero_le _, hb1⟩
  case round =>
    obtain ⟨k, ao, n, cp, hk, rfl, rfl, hby, hcp, hbel⟩ := hrel
    have hnn : n ≤ 10 * k := by
      have h1 := cat_len (Z.take k)
      rw [hby.len, List.length_take] at h1
      omega
    by_cases hkm : k < m
    · have hc : wr.cell? ⟨b, off + k, none⟩ = some (.int .u64 ((Z.getD k 0 : Nat) : Int)) := (hbel.cell (p := ⟨b, off + k, none⟩) hbb).trans (hcell k hkm)
      have hz := hlt k
      have HS : Hid (cat (Z.take (k + 1)) = cat (Z.take k) ++ Vq.num (Z.getD k 0)) := cat_succ Z k (by omega)
      generalize Z.getD k 0 = z at *
      generalize cat (Z.take k) = l at *
      clear hcell hlt
      go_wp2_with fail
      refine (put_any _ _ _ _ z _ hby (by omega) hz).mono ?_
      rintro e w2 ⟨g, rfl, hown, hb2⟩
      have hw := Vq.wd_le z
      go_wp2
      go_roundw
      case rel => exact ⟨k + 1, _, _, _, by omega, by go_num, rfl, by rw [HS.out]; exact Bytes.own hown, by unfold maxLen; omega, hbel.trans (hb2.mono hbel.size)⟩
      case measure => simp [intOf]; omega
    · obtain rfl : k = m := by omega
      rw [List.take_of_length_le (by omega)] at hby
      have hlen := hby.len
      go_wp2_with fail
      go_loop [5, 35] (fun a i => ∃ j : Nat, j ≤ k ∧ i = .int .i64 (j : Int) ∧ a = .int .i64 ((cat (Z.take j)).length : Int)) (fun _ i => k - (intOf i).toNat)
      case atStart => exact ⟨0, Nat.zero_le _, rfl, rfl⟩
      case round =>
        obtain ⟨j, hj, rfl, rfl⟩ := hrel
        by_cases hjk : j < k
        · have hc : wr.cell? ⟨b, off + j, none⟩ = some (.int .u64 ((Z.getD j 0 : Nat) : Int)) := (hbel.cell (p := ⟨b, off + j, none⟩) hbb).trans (hcell j hjk)
          have hz := hlt j
          have hw1 := Vq.wd_pos (Z.getD j 0)
          have hw2 := Vq.wd_le (Z.getD j 0)
          have hal : (cat (Z.take j)).length ≤ 10 * j := by
            have h1 := cat_len (Z.take j)
            rw [List.length_take] at h1
            omega
          have HS : Hid ((cat (Z.take (j + 1))).length = (cat (Z.take j)).length + Vq.wd (Z.getD j 0)) := by
            rw [cat_succ Z j (by omega), List.length_append, Vq.num_length]; exact rfl
          have hby2 := hby
          rw [cat_split Z j (by omega)] at hby2
          have htk := take_num _ _ _ _ _ _ wr hz hby2 hcp
          clear hby2 hby hlen hcell hlt
          generalize Z.getD j 0 = z at *
          generalize (cat (Z.take j)).length = a at *
          have Htk : Hid _ := htk
          clear htk
          have hne : ((z : Int) != (z : Int)) = false := by simp
          go_wp2_with fail
          refine Calls.mono Htk.out ?_
          rintro e w2 ⟨rfl, hw⟩
          obtain rfl := hw.symm
          clear Htk hw
          go_wp2
          go_round
          case rel => exact ⟨j + 1, by omega, by go_num, by rw [HS.out]; go_num⟩
          case measure => simp [intOf]; omega
        · obtain rfl : j = k := by omega
          rw [List.take_of_length_le (by omega), hlen]
          have htk := take_short _ _ _ _ n wr hby hcp (Nat.le_refl _) (by rw [List.drop_of_length_le (by omega)]; simp)
          clear hby hlen hcell hlt
          have Htk : Hid _ := htk
          clear htk
          go_wp2_with fail
          refine Calls.mono Htk.out ?_
          rintro e w2 ⟨rfl, hw⟩
          obtain rfl := hw.symm
          clear Htk hw
          go_wp2
          go_ret
          exact ⟨rfl, hbel⟩
end Go.Proofs.Ytjfbmjdeohlpjab
