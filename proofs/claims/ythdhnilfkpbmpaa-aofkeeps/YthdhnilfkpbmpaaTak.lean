/-
  What vlq.Take comes to. It reads alone.
-/
import Derived.Test.YthdhnilfkpbmpaaSpn
namespace Go.Proofs.Ythdhnilfkpbmpaa
open Go.RowKit

set_option maxHeartbeats 400000 in
theorem take_arg (ao : Option Addr) (m c : Nat) (a : Int) (w : World) (hm : m ≤ maxLen) (ha : a < 0 ∨ (m : Int) < a) :
    Calls Try.prog 77 #[.slice ao m c, .int .i64 a] w fun e w' => e = .returned (.tuple #[.int .u64 0, .int .i64 0, .int .i64 1]) ∧ w' = w := by
  unfold maxLen at hm
  rcases ha with ha | ha
  · go_enter Try.func77, Try.ntmps77
    go_wp2
    go_ret3
    exact ⟨rfl, rfl⟩
  · have ha' : ¬ a < 0 := by omega
    go_enter Try.func77, Try.ntmps77
    go_wp2
    go_ret3
    exact ⟨rfl, rfl⟩

theorem Bytes.drop {w : World} {ao : Option Addr} {m c : Nat} {l : List UInt8} (h : Bytes w ao m c l) (a : Nat) (ha : a ≤ m) :
    Bytes w (Option.map (fun x => x.add a) ao) (m - a) (c - a) (l.drop a) :=
  ⟨by rw [List.length_drop, h.len], by have := h.room; omega,
   (fun hn => by
    cases ao with
    | none => have := h.none rfl; omega
    | some ad => cases hn),
   fun ad had j u hu => by
    cases ao with
    | none => cases had
    | some x =>
      obtain rfl := Option.some.inj had
      rw [bs, List.map_drop, List.getElem?_drop] at hu
      have := h.cells x rfl (a + j) u hu
      rwa [Addr.add_add]⟩

theorem Bytes.take {w : World} {ao : Option Addr} {m c : Nat} {l : List UInt8} (h : Bytes w ao m c l) (k : Nat) (hk : k ≤ m) : Bytes w ao k c (l.take k) :=
  ⟨by rw [List.length_take, h.len]; omega, by have := h.room; omega, (fun hn => by have := h.none hn; omega),
   fun ad had j u hu => by
    refine h.cells ad had j u ?_
    rw [bs, List.map_take, List.getElem?_take] at hu
    split at hu
    · exact hu
    · cases hu⟩

set_option maxHeartbeats 400000 in
theorem take_short (ao : Option Addr) (m c : Nat) (l : List UInt8) (a : Nat) (w : World) (hb : Bytes w ao m c l) (hc : c ≤ maxLen) (ha : a ≤ m) (hl : ∀ x ∈ l.drop a, 128 ≤ x.toNat) :
    Calls Try.prog 77 #[.slice ao m c, .int .i64 (a : Int)] w fun e w' => e = .returned (.tuple #[.int .u64 0, .int .i64 0, .int .i64 2]) ∧ w' = w := by
  have hc' := hc
  have hr := hb.room
  unfold maxLen at hc
  have h0 : ¬ (a : Int) < 0 := by omega
  have h1 : ¬ (m : Int) < (a : Int) := by omega
  by_cases hca : c = a
  · subst hca
    obtain rfl : m = c := by omega
    have hd : Bytes w ao 0 0 [] := ⟨rfl, Nat.le_refl _, fun _ => ⟨rfl, rfl⟩, fun _ _ j u hu => by simp [bs] at hu⟩
    go_enter Try.func77, Try.ntmps77
    go_wp2_with fail
    refine (span_no ao 0 0 [] _ hd (Nat.zero_le _) (by simp)).mono ?_
    rintro e w' ⟨rfl, rfl⟩
    go_wp2_with fail
    go_ret3
    exact ⟨rfl, rfl⟩
  · have hd := hb.drop a ha
    go_enter Try.func77, Try.ntmps77
    go_wp2_with fail
    refine (span_no _ _ _ _ _ hd (by omega) hl).mono ?_
    rintro e w' ⟨rfl, rfl⟩
    go_wp2_with fail
    go_ret3
    exact ⟨rfl, rfl⟩

/-- The bytes of the number at a place. -/
abbrev seg (l : List UInt8) (a p : Nat) : List UInt8 := (l.drop a).take (p + 1)

set_option maxHeartbeats 400000 in
theorem take_form (ao : Option Addr) (m c : Nat) (l : List UInt8) (a p : Nat) (w : World) (hb : Bytes w ao m c l) (hc : c ≤ maxLen) (ha : a + p < m) (hl : ∀ j, j < p → 128 ≤ ((l.drop a).getD j 0).toNat) (hx : ((l.drop a).getD p 0).toNat < 128)
    (hh : (seg l a p).head? = some 128) :
    Calls Try.prog 77 #[.slice ao m c, .int .i64 (a : Int)] w fun e w' => e = .returned (.tuple #[.int .u64 0, .int .i64 0, .int .i64 3]) ∧ w' = w := by
  have hr := hb.room
  have hd := hb.drop a (by omega)
  have ht := hd.take (p + 1) (by omega)
  have h0 : ¬ (a : Int) < 0 := by omega
  have h1 : ¬ (m : Int) < (a : Int) := by omega
  have hca : ¬ c = a := by omega
  have hcm := hc
  unfold maxLen at hc
  go_enter Try.func77, Try.ntmps77
  go_wp2_with fail
  refine (span_yes _ _ _ _ p _ hd (by omega) (by omega) hl hx).mono ?_
  rintro e w' ⟨rfl, rfl⟩
  go_wp2_with fail
  refine (join_form _ _ _ _ _ ht (by omega) hh).mono ?_
  rintro e w' ⟨rfl, rfl⟩
  go_wp2_with fail
  go_ret3
  exact ⟨rfl, rfl⟩
set_option maxHeartbeats 400000 in
theorem take_long (ao : Option Addr) (m c : Nat) (l : List UInt8) (a p : Nat) (w : World) (hb : Bytes w ao m c l) (hc : c ≤ maxLen) (ha : a + p < m) (hl : ∀ j, j < p → 128 ≤ ((l.drop a).getD j 0).toNat) (hx : ((l.drop a).getD p 0).toNat < 128)
    (hh : (seg l a p).head? ≠ some 128) (hv : 18446744073709551616 ≤ Vq.val (seg l a p)) :
    Calls Try.prog 77 #[.slice ao m c, .int .i64 (a : Int)] w fun e w' => e = .returned (.tuple #[.int .u64 0, .int .i64 0, .int .i64 4]) ∧ w' = w := by
  have hr := hb.room
  have hd := hb.drop a (by omega)
  have ht := hd.take (p + 1) (by omega)
  have h0 : ¬ (a : Int) < 0 := by omega
  have h1 : ¬ (m : Int) < (a : Int) := by omega
  have hca : ¬ c = a := by omega
  have hcm := hc
  unfold maxLen at hc
  go_enter Try.func77, Try.ntmps77
  go_wp2_with fail
  refine (span_yes _ _ _ _ p _ hd (by omega) (by omega) hl hx).mono ?_
  rintro e w' ⟨rfl, rfl⟩
  go_wp2_with fail
  refine (join_long _ _ _ _ _ ht (by omega) (by omega) hh hv).mono ?_
  rintro e w' ⟨rfl, rfl⟩
  go_wp2_with fail
  go_ret3
  exact ⟨rfl, rfl⟩
set_option maxHeartbeats 400000 in
theorem take_ok (ao : Option Addr) (m c : Nat) (l : List UInt8) (a p : Nat) (w : World) (hb : Bytes w ao m c l) (hc : c ≤ maxLen) (ha : a + p < m) (hl : ∀ j, j < p → 128 ≤ ((l.drop a).getD j 0).toNat) (hx : ((l.drop a).getD p 0).toNat < 128)
    (hh : (seg l a p).head? ≠ some 128) (hv : Vq.val (seg l a p) < 18446744073709551616) :
    Calls Try.prog 77 #[.slice ao m c, .int .i64 (a : Int)] w fun e w' => e = .returned (.tuple #[.int .u64 (Vq.val (seg l a p) : Nat), .int .i64 ((a + p + 1 : Nat) : Int), .int .i64 0]) ∧ w' = w := by
  have hr := hb.room
  have hd := hb.drop a (by omega)
  have ht := hd.take (p + 1) (by omega)
  have h0 : ¬ (a : Int) < 0 := by omega
  have h1 : ¬ (m : Int) < (a : Int) := by omega
  have hca : ¬ c = a := by omega
  have hcm := hc
  unfold maxLen at hc
  go_enter Try.func77, Try.ntmps77
  go_wp2_with fail
  refine (span_yes _ _ _ _ p _ hd (by omega) (by omega) hl hx).mono ?_
  rintro e w' ⟨rfl, rfl⟩
  go_wp2_with fail
  refine (join_ok _ _ _ _ _ ht (by omega) (by omega) hh hv).mono ?_
  rintro e w' ⟨rfl, rfl⟩
  go_wp2_with fail
  go_ret3
  exact ⟨rfl, rfl⟩
/-- WHAT TAKE COMES TO, whatever the bytes and the place: an error, or the number whose bytes stand there. -/
def Took (l : List UInt8) (a : Int) (e : Ending) : Prop :=
  (∃ k : Int, k ≠ 0 ∧ e = .returned (.tuple #[.int .u64 0, .int .i64 0, .int .i64 k])) ∨
  ∃ n p : Nat, a = (n : Int) ∧ n + p < l.length ∧ Vq.Whole (seg l n p) ∧ Vq.val (seg l n p) < 18446744073709551616 ∧ e = .returned (.tuple #[.int .u64 (Vq.val (seg l n p) : Nat), .int .i64 ((n + p + 1 : Nat) : Int), .int .i64 0])

theorem first_low (l : List UInt8) : (∀ x ∈ l, 128 ≤ x.toNat) ∨ ∃ p, p < l.length ∧ (∀ j, j < p → 128 ≤ (l.getD j 0).toNat) ∧ (l.getD p 0).toNat < 128 := by
  induction l with
  | nil => left; simp
  | cons c l ih =>
    by_cases hc : c.toNat < 128
    · right; exact ⟨0, by simp, fun j hj => by omega, by simpa using hc⟩
    · rcases ih with h | ⟨p, hp, h1, h2⟩
      · left
        intro x hx
        rcases List.mem_cons.1 hx with rfl | hx
        · omega
        · exact h x hx
      · right
        refine ⟨p + 1, by simp; omega, ?_, by simpa using h2⟩
        intro j hj
        cases j with
        | zero => simp; omega
        | succ j => simpa using h1 j (by omega)

theorem whole_seg {l : List UInt8} {a p : Nat} (hp : p < (l.drop a).length) (h1 : ∀ j, j < p → 128 ≤ ((l.drop a).getD j 0).toNat) (h2 : ((l.drop a).getD p 0).toNat < 128) (hh : (seg l a p).head? ≠ some 128) : Vq.Whole (seg l a p) := by
  refine ⟨(l.drop a).take p, (l.drop a).getD p 0, ?_, ?_, h2, hh⟩
  · rw [seg, List.take_succ_eq_append_getElem hp]
    simp only [List.getD, List.getElem?_eq_getElem hp, Option.getD_some]
  · intro x hx
    obtain ⟨j, hj, rfl⟩ := List.getElem_of_mem hx
    have hj' : j < p := by rw [List.length_take] at hj; omega
    have := h1 j hj'
    rw [List.getElem_take]
    simpa only [List.getD, List.getElem?_eq_getElem (show j < (l.drop a).length by omega), Option.getD_some] using this

theorem take_any (ao : Option Addr) (m c : Nat) (l : List UInt8) (a : Int) (w : World) (hb : Bytes w ao m c l) (hc : c ≤ maxLen) :
    Calls Try.prog 77 #[.slice ao m c, .int .i64 a] w fun e w' => Took l a e ∧ w' = w := by
  have hr := hb.room
  by_cases ha : a < 0 ∨ (m : Int) < a
  · refine (take_arg ao m c a w (by omega) ha).mono ?_
    rintro e w' ⟨rfl, rfl⟩
    exact ⟨.inl ⟨1, by omega, rfl⟩, rfl⟩
  · obtain ⟨n, rfl⟩ := Int.eq_ofNat_of_zero_le (show 0 ≤ a by omega)
    rcases first_low (l.drop n) with hn | ⟨p, hp, h1, h2⟩
    · refine (take_short ao m c l n w hb hc (by omega) hn).mono ?_
      rintro e w' ⟨rfl, rfl⟩
      exact ⟨.inl ⟨2, by omega, rfl⟩, rfl⟩
    · have hp' := hp
      rw [List.length_drop] at hp'
      have hl := hb.len
      by_cases hh : (seg l n p).head? = some 128
      · refine (take_form ao m c l n p w hb hc (by omega) h1 h2 hh).mono ?_
        rintro e w' ⟨rfl, rfl⟩
        exact ⟨.inl ⟨3, by omega, rfl⟩, rfl⟩
      · by_cases hv : Vq.val (seg l n p) < 18446744073709551616
        · refine (take_ok ao m c l n p w hb hc (by omega) h1 h2 hh hv).mono ?_
          rintro e w' ⟨rfl, rfl⟩
          exact ⟨.inr ⟨n, p, rfl, by omega, whole_seg hp h1 h2 hh, hv, rfl⟩, rfl⟩
        · refine (take_long ao m c l n p w hb hc (by omega) h1 h2 hh (by omega)).mono ?_
          rintro e w' ⟨rfl, rfl⟩
          exact ⟨.inl ⟨4, by omega, rfl⟩, rfl⟩
end Go.Proofs.Ythdhnilfkpbmpaa
