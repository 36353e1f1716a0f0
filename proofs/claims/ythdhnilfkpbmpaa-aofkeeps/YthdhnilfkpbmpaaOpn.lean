/-
  What crc.Open comes to: of bytes whose check stands behind them the ones ahead, as a new list; of others none. Nothing that was there has turned.
-/
import Derived.Test.YthdhnilfkpbmpaaSel
import Derived.BigQuiet
import Derived.Laws.CopyRow
import Derived.Lib.SlBuf
namespace Go.Proofs.Ythdhnilfkpbmpaa
set_option maxRecDepth 100000

open Go.RowKit

set_option maxHeartbeats 400000 in
theorem open_few (ao : Option Addr) (m c : Nat) (w : World) (hm : m < 2) :
    Calls Try.prog 60 #[.slice ao m c] w fun e w' => e = .returned (.tuple #[.slice none 0 0, .bool false]) ∧ w' = w := by
  go_enter Try.func60, Try.ntmps60
  go_wp2
  go_ret2
  exact ⟨rfl, rfl⟩

theorem or_word (a b : Nat) (ha : a < 256) (hb : b < 256) : bits .or .u16 ((a : Int) * 256) (b : Int) = ((a * 256 + b : Nat) : Int) := by
  have h := u16_or_nat (a * 256) b (by omega) (by omega)
  rw [show ((a : Int) * 256) = ((a * 256 : Nat) : Int) by omega, h]
  congr 1
  rw [Nat.mul_comm a 256]
  exact (Nat.two_pow_add_eq_or_of_lt (i := 8) hb a).symm

theorem Bytes.part {w : World} {ao : Option Addr} {m c : Nat} {l : List UInt8} (h : Bytes w ao m c l) (k : Nat) (hk : k ≤ m) (hao : ao ≠ .none) : Bytes w ao k c (l.take k) :=
  ⟨by rw [List.length_take, h.len]; omega, by have := h.room; omega, fun h0 => absurd h0 hao, fun ad had j u hu => by
    refine h.cells ad had j u ?_
    rw [bs, List.map_take, List.getElem?_take] at hu
    split at hu
    · exact hu
    · cases hu⟩

theorem drawn (w : World) (n : Nat) : Below w.heap.size w (w.drewN n) := ⟨rfl, rfl, rfl, Nat.le_refl _, fun _ _ => rfl⟩

/-- A list copied whole into a new row of its length. -/
theorem copy_new {base g n c : Nat} {ao : Option Addr} {l : List UInt8} {xs : List Value} (w : World) (ty : TypeId) (hown : w.ownsRow base 5 1 (.slice (some ⟨g, 0, none⟩) n n) n xs) (hb : Bytes w ao n c l) :
    ∃ w', (Builtin.copy_ #[54, 54] ty #[.slice (some ⟨g, 0, none⟩) n n, .slice ao n c]).run Try.prog w = .ok (goInt n) w' ∧ w'.ownsRow base 5 1 (.slice (some ⟨g, 0, none⟩) n n) n (bs l) ∧ w.grownBy w' (some g) := by
  rcases hown.2 with ⟨h, _⟩ | ⟨g', cap', cur, h, hbg, hg, hnc, hcm, hcs, htake⟩
  · cases h
  simp only [Value.slice.injEq, Option.some.injEq, Addr.mk.injEq, and_true, true_and] at h
  obtain ⟨rfl, rfl⟩ := h
  have hll : (bs l).length = n := by rw [bs_length, hb.len]
  have hcur : cur.size = n := by simpa using hcs
  cases ao with
  | none =>
    obtain ⟨rfl, rfl⟩ := hb.none rfl
    refine ⟨w, run_copy_none w 54 54 ty 5 _ _ _ _ _ _ Try.underlying54 (by kernel_rfl) rfl, ?_, ⟨rfl, rfl, rfl, Nat.le_refl _, fun _ _ _ => rfl⟩⟩
    have h1 : bs l = [] := List.eq_nil_of_length_eq_zero hll
    have h2 : xs = [] := List.eq_nil_of_length_eq_zero (by simpa using hown.1)
    rw [h1, ← h2]
    exact hown
  | some ad =>
    have hr := run_copy_row (P := Try.prog) w 54 54 ty 5 g 0 n n ad n c cur 5 (bs l) Try.underlying54 (by kernel_rfl) hg (by rw [hll]; exact (Nat.min_self n).symm) (hb.cells ad rfl) (by omega) (bs_oneCell _)
    have hgg := setRow_heap w g cur (cur.toList.take 0 ++ bs l ++ cur.toList.drop (0 + (bs l).length)).toArray 5 (0, 0) hg
    rw [hll] at hr hgg
    have e : cur.toList.take 0 ++ bs l ++ cur.toList.drop (0 + n) = bs l := by
      rw [List.take_zero, List.nil_append, List.drop_eq_nil_of_le (by rw [Array.length_toList]; omega), List.append_nil]
    rw [e] at hr hgg
    refine ⟨_, hr, ⟨by rw [hll, Nat.mul_one], .inr ⟨g, n, _, rfl, hbg, hgg, Nat.le_refl _, hcm, by rw [List.size_toArray, hll, Nat.mul_one], ?_⟩⟩, ⟨rfl, rfl, rfl, by simp [World.setRow], fun k _ hk => ?_⟩⟩
    · rw [Nat.mul_one, List.take_of_length_le (by simp [hll])]
    · exact setRow_other w g k _ (fun h => hk (by rw [h]))

set_option maxHeartbeats 400000 in
theorem open_no (ao : Option Addr) (m c : Nat) (l : List UInt8) (w : World) (hb : Bytes w ao m c l) (hm : m ≤ maxLen) (hc : c ≤ maxLen) (h2 : 2 ≤ m) (hne : Ck.crc (l.take (m - 2)) ≠ Ck.word (l.getD (m - 2) 0) (l.getD (m - 1) 0)) :
    Calls Try.prog 60 #[.slice ao m c] w fun e w' => e = .returned (.tuple #[.slice none 0 0, .bool false]) ∧ Below w.heap.size w w' := by
  unfold maxLen at hc
  have hroom := hb.room
  rcases hb.norm with ⟨rfl, rfl⟩ | ⟨b, off, rfl, h0, hcell⟩
  · omega
  · have c1 := hcell (m - 2) (by omega)
    have c2 := hcell (m - 1) (by omega)
    have b1 := (l.getD (m - 2) 0).toNat_lt
    have b2 := (l.getD (m - 1) 0).toNat_lt
    have Hof : ∀ nq, Hid _ := fun nq => of_any (some ⟨b, off, .none⟩) (m - 2) c (l.take (m - 2)) (w.drewN nq) ((hb.part (m - 2) (by omega) (by simp)).below (drawn w nq) (Nat.le_refl _)) (by omega)
    have hn : ((Ck.crc (l.take (m - 2))).toNat : Int) ≠ (((l.getD (m - 2) 0).toNat * 256 + (l.getD (m - 1) 0).toNat : Nat) : Int) := by
      intro h
      apply hne
      apply BitVec.eq_of_toNat_eq
      rw [Ck.word, BitVec.toNat_ofNat, Nat.mod_eq_of_lt (by omega)]
      omega
    have hor := or_word _ _ b1 b2
    generalize (l.getD (m - 2) 0).toNat = x at *
    generalize (l.getD (m - 1) 0).toNat = y at *
    generalize ((Ck.crc (l.take (m - 2))).toNat : Int) = n at Hof hn
    generalize ((x * 256 + y : Nat) : Int) = z at hn hor
    obtain ⟨k, rfl⟩ : ∃ k, m = k + 2 := ⟨m - 2, by omega⟩
    rw [show k + 2 - 2 = k by omega] at *
    rw [show k + 2 - 1 = k + 1 by omega] at *
    have hnz : (n != z) = true := by rw [bne_iff_ne]; exact hn
    clear hcell hne hn
    go_enter Try.func60, Try.ntmps60
    go_wp2_with fail
    go_quiet (fail)
    go_wp2_with fail
    refine Calls.mono (Hof nq).out ?_
    rintro e w' ⟨rfl, hw⟩
    obtain rfl := hw.symm
    go_wp2
    go_ret2
    exact ⟨rfl, drawn w nq⟩
set_option maxHeartbeats 400000 in
theorem open_yes (ao : Option Addr) (m c : Nat) (l : List UInt8) (w : World) (hb : Bytes w ao m c l) (hm : m ≤ 70368744177664) (h2 : 2 ≤ m) (hne : Ck.crc (l.take (m - 2)) = Ck.word (l.getD (m - 2) 0) (l.getD (m - 1) 0)) :
    Calls Try.prog 60 #[.slice ao m c] w fun e w' => ∃ g, e = .returned (.tuple #[.slice (some ⟨g, 0, none⟩) (m - 2) (m - 2), .bool true]) ∧
      w'.ownsRow w.heap.size 5 1 (.slice (some ⟨g, 0, none⟩) (m - 2) (m - 2)) (m - 2) (bs (l.take (m - 2))) ∧ Below w.heap.size w w' := by
  obtain ⟨i0, hi, hz0, hz1, hz2⟩ := info_parts info5
  have hroom := hb.room
  rcases hb.norm with ⟨rfl, rfl⟩ | ⟨b, off, rfl, h0, hcell⟩
  · omega
  · have c1 := hcell (m - 2) (by omega)
    have c2 := hcell (m - 1) (by omega)
    have b1 := (l.getD (m - 2) 0).toNat_lt
    have b2 := (l.getD (m - 1) 0).toNat_lt
    have Hof : ∀ nq, Hid _ := fun nq => of_any (some ⟨b, off, .none⟩) (m - 2) c (l.take (m - 2)) (w.drewN nq) ((hb.part (m - 2) (by omega) (by simp)).below (drawn w nq) (Nat.le_refl _)) (by unfold maxLen; omega)
    have hn : ((Ck.crc (l.take (m - 2))).toNat : Int) = (((l.getD (m - 2) 0).toNat * 256 + (l.getD (m - 1) 0).toNat : Nat) : Int) := by
      rw [hne, Ck.word, BitVec.toNat_ofNat, Nat.mod_eq_of_lt (by omega)]
    have hpart : ∀ nq, Bytes (w.drewN nq) (some ⟨b, off, .none⟩) (m - 2) c (l.take (m - 2)) := fun nq => (hb.part (m - 2) (by omega) (by simp)).below (drawn w nq) (Nat.le_refl _)
    have hor := or_word _ _ b1 b2
    generalize (l.getD (m - 2) 0).toNat = x at *
    generalize (l.getD (m - 1) 0).toNat = y at *
    generalize ((Ck.crc (l.take (m - 2))).toNat : Int) = n at Hof hn
    generalize ((x * 256 + y : Nat) : Int) = z at hn hor
    obtain ⟨k, rfl⟩ : ∃ k, m = k + 2 := ⟨m - 2, by omega⟩
    rw [show k + 2 - 2 = k by omega] at *
    rw [show k + 2 - 1 = k + 1 by omega] at *
    have hnz : (n != z) = false := by rw [hn]; simp
    clear hcell hne hn
    go_enter Try.func60, Try.ntmps60
    go_wp2_with fail
    go_quiet (fail)
    go_wp2_with fail
    refine Calls.mono (Hof nq).out ?_
    rintro e w' ⟨rfl, hw⟩
    obtain rfl := hw.symm
    have hbq := drawn w nq
    have hpq := hpart nq
    clear hpart Hof
    generalize w.drewN nq = wq at *
    go_wp2_with (first
      | (at_make; refine wpList_make_full _ rfl _ _ 54 rfl w.heap.size 5 i0 (.int .u8 0) 1 Try.underlying54 hi hz0 hz1 _ _ _ _ k rfl rfl (by omega) (by omega) ?b2 ?b3 hbq.size ?_))
    case b2 => rw [hz2]; omega
    case b3 => unfold maxLen; omega
    intro w2 hown2 hgrow2
    have hbel2 : Below w.heap.size w w2 := hbq.grown hgrow2 hbq.size (fun k h => by cases h)
    obtain ⟨w3, hcopy, hown3, hgrow3⟩ := copy_new w2 3 hown2 (hpq.below ((Below.refl wq.heap.size wq).grown hgrow2 (Nat.le_refl _) (fun k h => by cases h)) (Nat.le_refl _))
    go_wp2_with (at_builtin; refine Lib.wpList_copy_run _ rfl _ _ 54 54 rfl _ _ rfl rfl hcopy ?_)
    go_wp2
    go_ret2
    exact ⟨_, rfl, hown3, hbel2.grown hgrow3 hbel2.size (fun k hk => by cases hk; exact hbq.size)⟩
end Go.Proofs.Ythdhnilfkpbmpaa
