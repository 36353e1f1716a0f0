/-
  What Take, TakeInt and TakeText come to, as plain functions of the bytes that are left: the number or text, how many bytes it takes, the error's number (0: none). Bytes that are taken are just those of what is told.
-/
import Derived.Test.YthdhnilfkpbmpaaTki
namespace Go.Proofs.Ythdhnilfkpbmpaa
open Go.RowKit

/-- Where the first byte below 128 stands. -/
def fl : List UInt8 → Option Nat
  | [] => none
  | c :: l => if c.toNat < 128 then some 0 else (fl l).map (· + 1)
theorem fl_none : ∀ {l : List UInt8}, fl l = none → ∀ x ∈ l, 128 ≤ x.toNat
  | [], _, x, h => by cases h
  | c :: l, h, x, hx => by
    rw [fl] at h
    split at h
    · cases h
    · rename_i hc
      rcases List.mem_cons.1 hx with rfl | hx
      · omega
      · exact fl_none (Option.map_eq_none_iff.1 h) x hx
theorem fl_some : ∀ {l : List UInt8} {p : Nat}, fl l = some p → p < l.length ∧ (∀ j, j < p → 128 ≤ (l.getD j 0).toNat) ∧ (l.getD p 0).toNat < 128
  | [], p, h => by cases h
  | c :: l, p, h => by
    rw [fl] at h
    split at h
    · rename_i hc
      obtain rfl := Option.some.inj h
      exact ⟨by simp, fun j hj => by omega, by simpa using hc⟩
    · rename_i hc
      obtain ⟨q, hq, rfl⟩ := Option.map_eq_some_iff.1 h
      obtain ⟨h1, h2, h3⟩ := fl_some hq
      refine ⟨by simp; omega, fun j hj => ?_, by simpa using h3⟩
      cases j with
      | zero => simp; omega
      | succ j => simpa using h2 j (by omega)
theorem fl_eq : ∀ {l : List UInt8} {p : Nat}, p < l.length → (∀ j, j < p → 128 ≤ (l.getD j 0).toNat) → (l.getD p 0).toNat < 128 → fl l = some p
  | [], p, h, _, _ => by simp at h
  | c :: l, 0, _, _, h => by
    have hc : c.toNat < 128 := by simpa using h
    rw [fl, if_pos hc]
  | c :: l, p + 1, h0, h1, h2 => by
    have hc : ¬ c.toNat < 128 := by have := h1 0 (by omega); simp at this; omega
    rw [fl, if_neg hc, fl_eq (l := l) (p := p) (by simpa using h0) (fun j hj => by simpa using h1 (j + 1) (by omega)) (by simpa using h2)]
    rfl

/-- Take's error, its number, and how many bytes it takes. -/
def tkE (d : List UInt8) : Int :=
  match fl d with
  | none => 2
  | some p => if (d.take (p + 1)).head? = some 128 then 3 else if Vq.val (d.take (p + 1)) < 18446744073709551616 then 0 else 4
def tkV (d : List UInt8) : Nat := if tkE d = 0 then Vq.val (d.take ((fl d).getD 0 + 1)) else 0
def tkW (d : List UInt8) : Nat := if tkE d = 0 then (fl d).getD 0 + 1 else 0

theorem tkE_ok {d : List UInt8} (h : tkE d = 0) : ∃ p, fl d = some p ∧ (d.take (p + 1)).head? ≠ some 128 ∧ Vq.val (d.take (p + 1)) < 18446744073709551616 ∧ tkV d = Vq.val (d.take (p + 1)) ∧ tkW d = p + 1 := by
  cases hf : fl d with
  | none => rw [tkE, hf] at h; simp at h
  | some p =>
    have h' := h
    rw [tkE, hf] at h
    simp only at h
    by_cases h1 : (d.take (p + 1)).head? = some 128
    · rw [if_pos h1] at h; simp at h
    · by_cases h2 : Vq.val (d.take (p + 1)) < 18446744073709551616
      · refine ⟨p, rfl, h1, h2, ?_, ?_⟩
        · rw [tkV, if_pos h', hf]; rfl
        · rw [tkW, if_pos h', hf]; rfl
      · rw [if_neg h1, if_neg h2] at h; simp at h
theorem tk_not {d : List UInt8} (h : tkE d ≠ 0) : tkV d = 0 ∧ tkW d = 0 := by rw [tkV, tkW, if_neg h, if_neg h]; exact ⟨rfl, rfl⟩
theorem tkE_range (d : List UInt8) : 0 ≤ tkE d ∧ tkE d ≤ 4 := by
  unfold tkE
  split
  · omega
  · split
    · omega
    · split <;> omega
theorem tkV_lt (d : List UInt8) : tkV d < 18446744073709551616 := by
  by_cases h : tkE d = 0
  · obtain ⟨p, -, -, h2, h3, -⟩ := tkE_ok h
    rw [h3]; exact h2
  · rw [(tk_not h).1]; omega
theorem tkW_le (d : List UInt8) : tkW d ≤ d.length := by
  by_cases h : tkE d = 0
  · obtain ⟨p, h1, -, -, -, h4⟩ := tkE_ok h
    have := (fl_some h1).1
    omega
  · rw [(tk_not h).2]; omega

theorem whole_take {d : List UInt8} {p : Nat} (hf : fl d = some p) (hh : (d.take (p + 1)).head? ≠ some 128) : Vq.Whole (d.take (p + 1)) := by
  obtain ⟨h0, h1, h2⟩ := fl_some hf
  exact whole_seg (l := d) (a := 0) (p := p) (by simpa using h0) (by simpa using h1) (by simpa using h2) (by simpa [seg] using hh)

/-- WHAT IS TAKEN IS JUST THE NUMBER's BYTES. -/
theorem tk_bytes {d : List UInt8} (h : tkE d = 0) : d = Vq.num (tkV d) ++ d.drop (tkW d) := by
  obtain ⟨p, h1, h2, h3, h4, h5⟩ := tkE_ok h
  rw [h4, h5, Vq.num_val _ (whole_take h1 h2) h3, List.take_append_drop]
theorem tk_num (u : Nat) (B : List UInt8) (hu : u < 18446744073709551616) : tkE (Vq.num u ++ B) = 0 ∧ tkV (Vq.num u ++ B) = u ∧ (Vq.num u ++ B).drop (tkW (Vq.num u ++ B)) = B := by
  obtain ⟨h1, h2, h3, h4⟩ := num_there [] B u
  simp only [List.nil_append, List.length_nil, List.drop_zero, seg, Nat.zero_add] at h1 h2 h3 h4
  have hp := Vq.wd_pos u
  have hf : fl (Vq.num u ++ B) = some (Vq.wd u - 1) := fl_eq h4 h1 h2
  obtain ⟨_, _, _, _, _, hh⟩ := Vq.whole_num u hu
  have e : tkE (Vq.num u ++ B) = 0 := by
    rw [tkE, hf]
    simp only
    rw [h3, if_neg hh, Vq.val_num u hu, if_pos hu]
  refine ⟨e, ?_, ?_⟩
  · rw [tkV, if_pos e, hf]
    simp only [Option.getD_some]
    rw [h3, Vq.val_num u hu]
  · rw [tkW, if_pos e, hf]
    simp only [Option.getD_some]
    rw [show Vq.wd u - 1 + 1 = (Vq.num u).length by rw [Vq.num_length]; omega, List.drop_left]

/-- TAKE, whatever the bytes. -/
theorem take_mod (ao : Option Addr) (m c : Nat) (l : List UInt8) (a : Nat) (w : World) (hb : Bytes w ao m c l) (hc : c ≤ maxLen) (ha : a ≤ m) :
    Calls Try.prog 77 #[.slice ao m c, .int .i64 (a : Int)] w fun e w' => e = .returned (.tuple #[.int .u64 (tkV (l.drop a) : Nat), .int .i64 ((if tkE (l.drop a) = 0 then a + tkW (l.drop a) else 0 : Nat) : Int), .int .i64 (tkE (l.drop a))]) ∧ w' = w := by
  have hlen := hb.len
  cases hf : fl (l.drop a) with
  | none =>
    have e : tkE (l.drop a) = 2 := by rw [tkE, hf]
    rw [e, (tk_not (by rw [e]; decide)).1]
    exact take_short ao m c l a w hb hc ha (fl_none hf)
  | some p =>
    obtain ⟨h0, h1, h2⟩ := fl_some hf
    rw [List.length_drop] at h0
    by_cases hh : (seg l a p).head? = some 128
    · have e : tkE (l.drop a) = 3 := by rw [tkE, hf]; exact if_pos hh
      rw [e, (tk_not (by rw [e]; decide)).1]
      exact take_form ao m c l a p w hb hc (by omega) h1 h2 hh
    · by_cases hv : Vq.val (seg l a p) < 18446744073709551616
      · have e : tkE (l.drop a) = 0 := by rw [tkE, hf]; exact (if_neg hh).trans (if_pos hv)
        have e1 : tkV (l.drop a) = Vq.val (seg l a p) := by rw [tkV, if_pos e, hf]; rfl
        have e2 : tkW (l.drop a) = p + 1 := by rw [tkW, if_pos e, hf]; rfl
        rw [e1, e2, e]
        exact take_ok ao m c l a p w hb hc (by omega) h1 h2 hh hv
      · have e : tkE (l.drop a) = 4 := by rw [tkE, hf]; exact (if_neg hh).trans (if_neg hv)
        rw [e, (tk_not (by rw [e]; decide)).1]
        exact take_long ao m c l a p w hb hc (by omega) h1 h2 hh (by omega)

set_option maxHeartbeats 400000 in
/-- TAKEINT, whatever the bytes. -/
theorem takeint_mod (ao : Option Addr) (m c : Nat) (l : List UInt8) (a : Nat) (w : World) (hb : Bytes w ao m c l) (hc : c ≤ maxLen) (ha : a ≤ m) :
    Calls Try.prog 87 #[.slice ao m c, .int .i64 (a : Int)] w fun e w' => e = .returned (.tuple #[.int .i64 (zag (tkV (l.drop a))), .int .i64 ((if tkE (l.drop a) = 0 then a + tkW (l.drop a) else 0 : Nat) : Int), .int .i64 (tkE (l.drop a))]) ∧ w' = w := by
  have hlen := hb.len
  have ht : Hid _ := take_mod ao m c l a w hb hc ha
  by_cases h : tkE (l.drop a) = 0
  · obtain ⟨p, hf, h2, h3, h4, h5⟩ := tkE_ok h
    obtain ⟨g0, g1, g2⟩ := fl_some hf
    rw [List.length_drop] at g0
    have := takeint_ok ao m c l a p w hb hc (by omega) g1 g2 h2 h3
    rw [h, h4, h5]
    exact this
  · obtain ⟨e1, e2⟩ := tk_not h
    rw [if_neg h, e1] at ht
    rw [if_neg h, e1, show zag 0 = 0 by decide]
    obtain ⟨r0, r1⟩ := tkE_range (l.drop a)
    generalize tkE (l.drop a) = E at *
    clear e1 e2
    go_enter Try.func87, Try.ntmps87
    go_wp2_with fail
    refine Calls.mono ht.out ?_
    rintro e w1 ⟨rfl, hw⟩
    obtain rfl := hw.symm
    clear ht hw
    go_wp2
    go_ret3
    exact ⟨rfl, rfl⟩
end Go.Proofs.Ythdhnilfkpbmpaa
