/-
  What frame.Take comes to: the body at a place, as a new list, and the place behind it; or an error.
-/
import Derived.Test.YthdhnilfkpbmpaaFbs
namespace Go.Proofs.Ythdhnilfkpbmpaa
set_option maxRecDepth 100000

open Go.RowKit

set_option maxHeartbeats 400000 in
theorem ftake_arg (ao : Option Addr) (m c : Nat) (a : Int) (w : World) (hm : m ≤ maxLen) (ha : a < 0 ∨ (m : Int) < a) :
    Calls Try.prog 46 #[.slice ao m c, .int .i64 a] w fun e w' => e = .returned (.tuple #[.slice none 0 0, .int .i64 0, .int .i64 1]) ∧ w' = w := by
  unfold maxLen at hm
  rcases ha with ha | ha
  · go_enter Try.func46, Try.ntmps46
    go_wp2
    go_ret3
    exact ⟨rfl, rfl⟩
  · have ha' : ¬ a < 0 := by omega
    go_enter Try.func46, Try.ntmps46
    go_wp2
    go_ret3
    exact ⟨rfl, rfl⟩

theorem Fr.tkE_bz (d : List UInt8) : Fr.tkE d = if bzE d ≠ 0 then bzE d else if d.length < Fr.hd d + 6 then 2 else if Fr.isSealed ((d.drop 4).take (Fr.hd d + 2)) = false then 5 else 0 := by
  rw [Fr.tkE, bzE]
  repeat' split
  all_goals first | rfl | simp_all
theorem bzN_ok (d : List UInt8) (h : bzE d = 0) : bzN d = Fr.hd d ∧ Fr.hd d ≤ 65529 ∧ 4 ≤ d.length := by
  rw [bzE] at h
  rw [bzN]
  repeat' split at h
  all_goals first | (exfalso; omega) | skip
  rw [if_neg (by simp_all)]
  exact ⟨rfl, by omega, by omega⟩

set_option maxHeartbeats 1000000 in
theorem take_head (ao : Option Addr) (m c : Nat) (l : List UInt8) (a : Nat) (w : World) (hb : Bytes w ao m c l) (hc : c ≤ maxLen) (ha : a ≤ m) (h : bzE (l.drop a) ≠ 0) :
    Calls Try.prog 46 #[.slice ao m c, .int .i64 (a : Int)] w fun e w' => e = .returned (.tuple #[.slice none 0 0, .int .i64 0, .int .i64 (bzE (l.drop a))]) ∧ Below w.heap.size w w' := by
  have hc' := hc
  have hr := hb.room
  have hlen := hb.len
  unfold maxLen at hc
  have h0 : ¬ (a : Int) < 0 := by omega
  have h1 : ¬ (m : Int) < (a : Int) := by omega
  by_cases hca : c = a
  · subst hca
    obtain rfl : m = c := by omega
    have hd : Bytes w ao 0 0 [] := ⟨rfl, Nat.le_refl _, fun _ => ⟨rfl, rfl⟩, fun _ _ j u hu => by simp [bs] at hu⟩
    have e0 : l.drop m = [] := List.drop_eq_nil_of_le (by omega)
    rw [e0] at h ⊢
    have Hb : Hid _ := bodysize_any ao 0 0 [] w hd (Nat.zero_le _)
    generalize bzE [] = E at *
    generalize (bzN [] : Int) = N at *
    go_enter Try.func46, Try.ntmps46
    go_wp2_with fail
    refine Calls.mono Hb.out ?_
    rintro e w' ⟨rfl, hb1⟩
    go_wp2_with fail
    go_ret3
    exact ⟨rfl, hb1⟩
  · have hd := hb.drop a ha
    have Hb : Hid _ := bodysize_any _ _ _ _ w hd (by omega)
    generalize bzE (l.drop a) = E at *
    generalize (bzN (l.drop a) : Int) = N at *
    go_enter Try.func46, Try.ntmps46
    go_wp2_with fail
    refine Calls.mono Hb.out ?_
    rintro e w' ⟨rfl, hb1⟩
    go_wp2_with fail
    go_ret3
    exact ⟨rfl, hb1⟩

set_option maxHeartbeats 1000000 in
theorem ftake_short (ao : Option Addr) (m c : Nat) (l : List UInt8) (a : Nat) (w : World) (hb : Bytes w ao m c l) (hc : c ≤ maxLen) (ha : a ≤ m) (h : bzE (l.drop a) = 0) (hs : m - a < Fr.hd (l.drop a) + 6) :
    Calls Try.prog 46 #[.slice ao m c, .int .i64 (a : Int)] w fun e w' => e = .returned (.tuple #[.slice none 0 0, .int .i64 0, .int .i64 2]) ∧ Below w.heap.size w w' := by
  have hr := hb.room
  have hlen := hb.len
  obtain ⟨hN, hN2, h4⟩ := bzN_ok _ h
  rw [List.length_drop] at h4
  have h0 : ¬ (a : Int) < 0 := by omega
  have h1 : ¬ (m : Int) < (a : Int) := by omega
  have hca : ¬ c = a := by omega
  have hd := hb.drop a ha
  have Hb : Hid _ := bodysize_any _ _ _ _ w hd (by omega)
  rw [h, hN] at Hb
  clear hN h hb hd
  generalize Fr.hd (l.drop a) = N at *
  unfold maxLen at hc
  have hlt : (m : Int) - ((a : Int) + 4) < (N : Int) + 2 := by omega
  go_enter Try.func46, Try.ntmps46
  go_wp2_with fail
  refine Calls.mono Hb.out ?_
  rintro e w' ⟨rfl, hb1⟩
  go_wp2_with fail
  go_ret3
  exact ⟨rfl, hb1⟩

theorem Fr.part_len (l : List UInt8) (a N : Nat) (h : a + N + 6 ≤ l.length) : (((l.drop a).drop 4).take (N + 2)).length = N + 2 := by
  rw [List.length_take, List.length_drop, List.length_drop]; omega

theorem own_rebase {w : World} {base base' : Nat} {e : TypeId} {size : Nat} {v : Value} {n : Nat} {xs : List Value} (h : w.ownsRow base e size v n xs) (hb : base' ≤ base) : w.ownsRow base' e size v n xs := by
  refine ⟨h.1, ?_⟩
  rcases h.2 with h | ⟨g, cap, cur, h1, h2, h3⟩
  · exact .inl h
  · exact .inr ⟨g, cap, cur, h1, Nat.le_trans hb h2, h3⟩
theorem open_own (ao : Option Addr) (c : Nat) (l : List UInt8) (w : World) (hb : Bytes w ao l.length c l) (hm : l.length ≤ 1048576) (h : Fr.isSealed l = true) :
    Calls Try.prog 60 #[.slice ao l.length c] w fun e w' => ∃ g, e = .returned (.tuple #[.slice (some ⟨g, 0, none⟩) (l.length - 2) (l.length - 2), .bool true]) ∧
      w'.ownsRow w.heap.size 5 1 (.slice (some ⟨g, 0, none⟩) (l.length - 2) (l.length - 2)) (l.length - 2) (bs (l.take (l.length - 2))) ∧ Below w.heap.size w w' := by
  have h2 : 2 ≤ l.length := by
    rw [Fr.isSealed, Bool.and_eq_true, decide_eq_true_eq] at h
    exact h.1
  exact open_yes ao l.length c l w hb (by omega) h2 ((Fr.sealed_iff l h2).1 h)

/-- The body's part of a list of bytes, sealed. -/
theorem Bytes.body {w : World} {b off m c : Nat} {l : List UInt8} (h : Bytes w (some ⟨b, off, .none⟩) m c l) (a N : Nat) (ha : a + N + 6 ≤ m) :
    Bytes w (some ⟨b, off + (a + 4), .none⟩) (((l.drop a).drop 4).take (N + 2)).length (c - (a + 4)) (((l.drop a).drop 4).take (N + 2)) := by
  have h1 := (h.drop (a + 4) (by omega)).take (N + 2) (by omega)
  rw [Option.map_some, Addr.add_lit, ← List.drop_drop] at h1
  rw [Fr.part_len l a N (by rw [h.len]; omega)]
  exact h1

set_option maxHeartbeats 1000000 in
theorem take_sum (ao : Option Addr) (m c : Nat) (l : List UInt8) (a : Nat) (w : World) (hb : Bytes w ao m c l) (hc : c ≤ maxLen) (ha : a ≤ m) (h : bzE (l.drop a) = 0) (hs : Fr.hd (l.drop a) + 6 ≤ m - a)
    (hi : Fr.isSealed (((l.drop a).drop 4).take (Fr.hd (l.drop a) + 2)) = false) :
    Calls Try.prog 46 #[.slice ao m c, .int .i64 (a : Int)] w fun e w' => e = .returned (.tuple #[.slice none 0 0, .int .i64 0, .int .i64 5]) ∧ Below w.heap.size w w' := by
  have hr := hb.room
  have hlen := hb.len
  obtain ⟨hN, hN2, h4⟩ := bzN_ok _ h
  rw [List.length_drop] at h4
  have h0 : ¬ (a : Int) < 0 := by omega
  have h1 : ¬ (m : Int) < (a : Int) := by omega
  have hca : ¬ c = a := by omega
  have hd := hb.drop a ha
  have Hb : Hid _ := bodysize_any _ _ _ _ w hd (by omega)
  rw [h, hN] at Hb
  rcases hb.norm with ⟨rfl, rfl⟩ | ⟨b, off, rfl, hm0, -⟩
  · omega
  rw [Option.map_some, Addr.add_lit] at Hb
  have hbody := hb.body a (Fr.hd (l.drop a)) (by omega)
  have hpl := Fr.part_len l a (Fr.hd (l.drop a)) (by omega)
  clear hN h hb hd
  generalize ((l.drop a).drop 4).take (Fr.hd (l.drop a) + 2) = d at *
  generalize Fr.hd (l.drop a) = N at *
  have hcm := hc
  unfold maxLen at hc
  have hlt : ¬ (m : Int) - ((a : Int) + 4) < (N : Int) + 2 := by omega
  have hca4 : ¬ c = a + 4 := by omega
  go_enter Try.func46, Try.ntmps46
  go_wp2_with fail
  refine Calls.mono Hb.out ?_
  rintro e w1 ⟨rfl, hb1⟩
  have hbody1 := hbody.below hb1 (Nat.le_refl _)
  have Ho : Hid _ := open_not _ _ d w1 hbody1 (by omega) (by unfold maxLen; omega) hi
  rw [hpl] at Ho
  clear hbody hbody1 hpl
  go_wp2_with fail
  refine Calls.mono Ho.out ?_
  rintro e w2 ⟨rfl, hb2⟩
  go_wp2_with fail
  go_ret3
  exact ⟨rfl, hb1.trans (hb2.mono hb1.size)⟩

set_option maxHeartbeats 1000000 in
theorem take_body (ao : Option Addr) (m c : Nat) (l : List UInt8) (a : Nat) (w : World) (hb : Bytes w ao m c l) (hc : c ≤ maxLen) (ha : a ≤ m) (h : bzE (l.drop a) = 0) (hs : Fr.hd (l.drop a) + 6 ≤ m - a)
    (hi : Fr.isSealed (((l.drop a).drop 4).take (Fr.hd (l.drop a) + 2)) = true) :
    Calls Try.prog 46 #[.slice ao m c, .int .i64 (a : Int)] w fun e w' => ∃ g, e = .returned (.tuple #[.slice (some ⟨g, 0, none⟩) (Fr.hd (l.drop a)) (Fr.hd (l.drop a)), .int .i64 ((a + (Fr.hd (l.drop a) + 6) : Nat) : Int), .int .i64 0]) ∧
      w'.ownsRow w.heap.size 5 1 (.slice (some ⟨g, 0, none⟩) (Fr.hd (l.drop a)) (Fr.hd (l.drop a))) (Fr.hd (l.drop a)) (bs (Fr.tkB (l.drop a))) ∧ Below w.heap.size w w' := by
  have hr := hb.room
  have hlen := hb.len
  obtain ⟨hN, hN2, h4⟩ := bzN_ok _ h
  rw [List.length_drop] at h4
  have h0 : ¬ (a : Int) < 0 := by omega
  have h1 : ¬ (m : Int) < (a : Int) := by omega
  have hca : ¬ c = a := by omega
  have hd := hb.drop a ha
  have Hb : Hid _ := bodysize_any _ _ _ _ w hd (by omega)
  rw [h, hN] at Hb
  rcases hb.norm with ⟨rfl, rfl⟩ | ⟨b, off, rfl, hm0, -⟩
  · omega
  rw [Option.map_some, Addr.add_lit] at Hb
  have hbody := hb.body a (Fr.hd (l.drop a)) (by omega)
  have hpl := Fr.part_len l a (Fr.hd (l.drop a)) (by omega)
  have HT : Hid ((((l.drop a).drop 4).take (Fr.hd (l.drop a) + 2)).take (Fr.hd (l.drop a)) = Fr.tkB (l.drop a)) := by
    rw [Hid, Fr.tkB, List.take_take]; congr 1; omega
  clear hN h hb hd
  generalize Fr.tkB (l.drop a) = t at *
  generalize ((l.drop a).drop 4).take (Fr.hd (l.drop a) + 2) = d at *
  generalize Fr.hd (l.drop a) = N at *
  have hcm := hc
  unfold maxLen at hc
  have hlt : ¬ (m : Int) - ((a : Int) + 4) < (N : Int) + 2 := by omega
  have hca4 : ¬ c = a + 4 := by omega
  go_enter Try.func46, Try.ntmps46
  go_wp2_with fail
  refine Calls.mono Hb.out ?_
  rintro e w1 ⟨rfl, hb1⟩
  have hbody1 := hbody.below hb1 (Nat.le_refl _)
  have Ho : Hid _ := open_own _ _ d w1 hbody1 (by omega) hi
  rw [hpl] at Ho
  rw [show N + 2 - 2 = N by omega, HT.out] at Ho
  clear hbody hbody1 hpl
  go_wp2_with fail
  refine Calls.mono Ho.out ?_
  rintro e w2 ⟨g, rfl, hown, hb2⟩
  go_wp2_with fail
  go_ret3
  refine ⟨g, ?_, ?_, hb1.trans (hb2.mono hb1.size)⟩
  · have e1 : (a : Int) + 4 + ((N : Int) + 2) = ((a + (N + 6) : Nat) : Int) := by omega
    rw [e1]
    rfl
  · exact own_rebase hown hb1.size

/-- TAKE, where there is no frame: its error. -/
theorem ftake_err (ao : Option Addr) (m c : Nat) (l : List UInt8) (a : Nat) (w : World) (hb : Bytes w ao m c l) (hc : c ≤ maxLen) (ha : a ≤ m) (h : Fr.tkE (l.drop a) ≠ 0) :
    Calls Try.prog 46 #[.slice ao m c, .int .i64 (a : Int)] w fun e w' => e = .returned (.tuple #[.slice none 0 0, .int .i64 0, .int .i64 (Fr.tkE (l.drop a))]) ∧ Below w.heap.size w w' := by
  have hl : (l.drop a).length = m - a := by rw [List.length_drop, hb.len]
  rw [Fr.tkE_bz, hl] at h ⊢
  by_cases h1 : bzE (l.drop a) ≠ 0
  · rw [if_pos h1]
    exact take_head ao m c l a w hb hc ha h1
  · rw [if_neg h1] at h ⊢
    have h1' : bzE (l.drop a) = 0 := Decidable.not_not.1 h1
    by_cases h2 : m - a < Fr.hd (l.drop a) + 6
    · rw [if_pos h2]
      exact ftake_short ao m c l a w hb hc ha h1' h2
    · rw [if_neg h2] at h ⊢
      by_cases h3 : Fr.isSealed (((l.drop a).drop 4).take (Fr.hd (l.drop a) + 2)) = false
      · rw [if_pos h3]
        exact take_sum ao m c l a w hb hc ha h1' (by omega) h3
      · rw [if_neg h3] at h
        exact absurd rfl h
theorem Fr.tk_len (d : List UInt8) (h : Fr.tkE d = 0) : Fr.tkW d ≤ d.length ∧ (Fr.tkB d).length = Fr.hd d ∧ Fr.hd d ≤ 65529 := by
  rw [Fr.tkE] at h
  rw [Fr.tkW, Fr.tkB, List.length_take, List.length_drop]
  repeat' split at h
  all_goals first | (exfalso; omega) | skip
  omega
/-- TAKE, where there is a frame: its body, and the place behind it. -/
theorem ftake_ok (ao : Option Addr) (m c : Nat) (l : List UInt8) (a : Nat) (w : World) (hb : Bytes w ao m c l) (hc : c ≤ maxLen) (ha : a ≤ m) (h : Fr.tkE (l.drop a) = 0) :
    Calls Try.prog 46 #[.slice ao m c, .int .i64 (a : Int)] w fun e w' => ∃ g, e = .returned (.tuple #[.slice (some ⟨g, 0, none⟩) (Fr.tkB (l.drop a)).length (Fr.tkB (l.drop a)).length, .int .i64 ((a + Fr.tkW (l.drop a) : Nat) : Int), .int .i64 0]) ∧
      w'.ownsRow w.heap.size 5 1 (.slice (some ⟨g, 0, none⟩) (Fr.tkB (l.drop a)).length (Fr.tkB (l.drop a)).length) (Fr.tkB (l.drop a)).length (bs (Fr.tkB (l.drop a))) ∧ Below w.heap.size w w' := by
  have hl : (l.drop a).length = m - a := by rw [List.length_drop, hb.len]
  obtain ⟨k1, k2, k3⟩ := Fr.tk_len _ h
  rw [k2, Fr.tkW]
  rw [Fr.tkW] at k1
  have h' := h
  rw [Fr.tkE_bz] at h'
  by_cases h1 : bzE (l.drop a) ≠ 0
  · rw [if_pos h1] at h'
    exact absurd h' h1
  · rw [if_neg h1, if_neg (by omega)] at h'
    have h3 : Fr.isSealed (((l.drop a).drop 4).take (Fr.hd (l.drop a) + 2)) = true := by
      by_cases h3 : Fr.isSealed (((l.drop a).drop 4).take (Fr.hd (l.drop a) + 2)) = false
      · rw [if_pos h3] at h'
        exact absurd h' (by decide)
      · exact (Bool.not_eq_false _).mp h3
    exact take_body ao m c l a w hb hc ha (Decidable.not_not.1 h1) (by omega) h3
end Go.Proofs.Ythdhnilfkpbmpaa
