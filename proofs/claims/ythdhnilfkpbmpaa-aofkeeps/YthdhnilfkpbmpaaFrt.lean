/-
  Frames in which bits within 16 side by side are turned: those ahead of these are scanned, and no others. No program is named here.
-/
import Derived.Test.YthdhnilfkpbmpaaFrm
namespace Go.Proofs.Ythdhnilfkpbmpaa.Fr

set_option maxRecDepth 100000

/-- One bit turned. -/
def flip (l : List UInt8) (p : Nat) : List UInt8 := l.set (p / 8) (l.getD (p / 8) 0 ^^^ UInt8.ofNat (128 / 2 ^ (p % 8)))
theorem flip_length (l : List UInt8) (p : Nat) : (flip l p).length = l.length := by simp [flip]
theorem flip_fold (x : BitVec 16) (l : List UInt8) (p : Nat) (hp : p < 8 * l.length) : Ck.fold x (flip l p) = Ck.fold x l ^^^ Ck.rep (8 * l.length - p) 32768#16 := by
  have hq : p / 8 < l.length := by omega
  have h1 := Ck.up_pow ⟨p % 8, by omega⟩
  have h2 := Ck.rep_pow ⟨p % 8, by omega⟩
  simp only at h1 h2
  rw [flip, List.getD_eq_getElem?_getD, List.getElem?_eq_getElem hq, Option.getD_some, Ck.fold_flip x l (p / 8) _ hq, h1]
  have e : 8 * (l.length - p / 8) = p % 8 + (8 * l.length - p) := by omega
  rw [e, Ck.rep_add, h2]

/-- A part of bytes. -/
def part (l : List UInt8) (a m : Nat) : List UInt8 := (l.drop a).take m
theorem part_flip (l : List UInt8) (a m p : Nat) : part (flip l p) a m = if 8 * a ≤ p ∧ p < 8 * (a + m) then flip (part l a m) (p - 8 * a) else part l a m := by
  rw [part, flip, List.drop_set]
  by_cases h1 : p / 8 < a
  · rw [if_pos h1, if_neg (by omega)]; rfl
  · rw [if_neg h1, List.take_set]
    by_cases h2 : p < 8 * (a + m)
    · rw [if_pos ⟨by omega, h2⟩, flip]
      have e1 : (p - 8 * a) / 8 = p / 8 - a := by omega
      have e2 : (p - 8 * a) % 8 = p % 8 := by omega
      have e3 : (part l a m).getD (p / 8 - a) 0 = l.getD (p / 8) 0 := by
        rw [part, List.getD_eq_getElem?_getD, List.getD_eq_getElem?_getD, List.getElem?_take, if_pos (by omega), List.getElem?_drop, show a + (p / 8 - a) = p / 8 by omega]
      rw [e1, e2, e3]; rfl
    · rw [if_neg (by omega), List.set_eq_of_length_le (by rw [List.length_take, List.length_drop]; omega)]; rfl

/-- Bits turned, one behind the other: the highest bit of t at place k. -/
def turn (l : List UInt8) (k t : Nat) : Nat → List UInt8
  | 0 => l
  | i + 1 => if t / 2 ^ (15 - i) % 2 = 1 then flip (turn l k t i) (k + i) else turn l k t i
theorem turn_length (l : List UInt8) (k t : Nat) : ∀ i, (turn l k t i).length = l.length
  | 0 => rfl
  | i + 1 => by
    rw [turn]
    split
    · rw [flip_length, turn_length l k t i]
    · exact turn_length l k t i
/-- What of t lies ahead of a part's end. -/
def msk (t s : Nat) : Nat → BitVec 16
  | 0 => 0#16
  | i + 1 => msk t s i ^^^ (if t / 2 ^ (15 - i) % 2 = 1 ∧ i + s < 16 then BitVec.ofNat 16 (32768 / 2 ^ (i + s)) else 0#16)
theorem msk_bit (t s i0 : Nat) (h0 : i0 + s < 16) (hb : t / 2 ^ (15 - i0) % 2 = 1) : ∀ n, n ≤ 16 → (msk t s n).getLsbD (15 - (i0 + s)) = decide (i0 < n)
  | 0, _ => by simp [msk]
  | n + 1, hn => by
    rw [msk, BitVec.getLsbD_xor, msk_bit t s i0 h0 hb n (by omega)]
    by_cases hc : t / 2 ^ (15 - n) % 2 = 1 ∧ n + s < 16
    · have hp := Ck.pow_bit ⟨n + s, hc.2⟩ ⟨15 - (i0 + s), by omega⟩
      simp only at hp
      rw [if_pos hc, hp]
      by_cases he : n = i0
      · subst he
        simp
      · rw [decide_eq_false (by omega : ¬ 15 - (i0 + s) = 15 - (n + s)), Bool.xor_false, decide_eq_decide]
        omega
    · rw [if_neg hc]
      have he : n ≠ i0 := fun e => hc (by rw [e]; exact ⟨hb, h0⟩)
      rw [BitVec.getLsbD_zero, Bool.xor_false, decide_eq_decide]
      omega
theorem msk_ne (t s i0 : Nat) (h0 : i0 + s < 16) (hb : t / 2 ^ (15 - i0) % 2 = 1) : msk t s 16 ≠ 0#16 := by
  intro h
  have := msk_bit t s i0 h0 hb 16 (by omega)
  rw [h, BitVec.getLsbD_zero, eq_comm, decide_eq_false_iff_not] at this
  omega
/-- What turned bits do to the check of a part, of which none ahead are turned. -/
theorem turn_fold (x : BitVec 16) (l : List UInt8) (k t a m : Nat) (hl : a + m ≤ l.length) (hpre : ∀ i, i < 16 → t / 2 ^ (15 - i) % 2 = 1 → 8 * a ≤ k + i) :
    ∀ i, i ≤ 16 → Ck.fold x (part (turn l k t i) a m) = Ck.fold x (part l a m) ^^^ Ck.rep (8 * (a + m) - (k + 16)) (Ck.rep 16 (msk t (k + 16 - 8 * (a + m)) i))
  | 0, _ => by rw [turn, msk, Ck.rep_zero, Ck.rep_zero, BitVec.xor_zero]
  | i + 1, hi => by
    have ih := turn_fold x l k t a m hl hpre i (by omega)
    have hlen := turn_length l k t i
    have hp : (part (turn l k t i) a m).length = m := by rw [part, List.length_take, List.length_drop]; omega
    by_cases hb : t / 2 ^ (15 - i) % 2 = 1
    · have h8 := hpre i (by omega) hb
      rw [turn, if_pos hb, part_flip, msk]
      by_cases hs : i + (k + 16 - 8 * (a + m)) < 16
      · have h3 := Ck.rep_pow ⟨i + (k + 16 - 8 * (a + m)), hs⟩
        simp only at h3
        have key : Ck.rep (8 * m - (k + i - 8 * a)) 32768#16 = Ck.rep (8 * (a + m) - (k + 16)) (Ck.rep 16 (BitVec.ofNat 16 (32768 / 2 ^ (i + (k + 16 - 8 * (a + m)))))) := by
          have e : 8 * m - (k + i - 8 * a) = (16 - (i + (k + 16 - 8 * (a + m)))) + (8 * (a + m) - (k + 16)) := by omega
          have e2 : (16 : Nat) = (i + (k + 16 - 8 * (a + m))) + (16 - (i + (k + 16 - 8 * (a + m)))) := by omega
          have e3 : Ck.rep 16 (BitVec.ofNat 16 (32768 / 2 ^ (i + (k + 16 - 8 * (a + m))))) = Ck.rep (16 - (i + (k + 16 - 8 * (a + m)))) 32768#16 := by
            rw [← h3, ← Ck.rep_add]
            congr 1
          rw [e, Ck.rep_add, e3]
        rw [if_pos ⟨h8, by omega⟩, if_pos ⟨hb, hs⟩, flip_fold x _ _ (by rw [hp]; omega), ih, hp, Ck.rep_xor, Ck.rep_xor, BitVec.xor_assoc, key]
      · rw [if_neg (by omega), if_neg (fun h => hs h.2), BitVec.xor_zero, ih]
    · rw [turn, if_neg hb, msk, if_neg (fun h => hb h.1), BitVec.xor_zero, ih]
/-- A SEALED PART, of which a bit is turned (and none ahead of it), ISN'T SEALED. -/
theorem turn_sealed (l : List UInt8) (k t a m i0 : Nat) (hl : a + m ≤ l.length) (hpre : ∀ i, i < 16 → t / 2 ^ (15 - i) % 2 = 1 → 8 * a ≤ k + i) (h0 : i0 < 16) (hb : t / 2 ^ (15 - i0) % 2 = 1) (hin : k + i0 < 8 * (a + m))
    (hs : isSealed (part l a m) = true) : isSealed (part (turn l k t 16) a m) = false := by
  rw [isSealed, Bool.and_eq_true, decide_eq_true_eq, decide_eq_true_eq] at hs
  rw [isSealed, Bool.and_eq_false_iff]
  right
  rw [decide_eq_false_iff_not, turn_fold _ l k t a m hl hpre 16 (by omega), hs.2, BitVec.zero_xor]
  intro h
  exact msk_ne t _ i0 (by omega) hb (Ck.rep_eq_zero _ _ (Ck.rep_eq_zero _ _ h))
/-- What lies wholly ahead stays. -/
theorem turn_take (l : List UInt8) (k t n : Nat) (hpre : ∀ i, i < 16 → t / 2 ^ (15 - i) % 2 = 1 → 8 * n ≤ k + i) : ∀ i, i ≤ 16 → (turn l k t i).take n = l.take n
  | 0, _ => rfl
  | i + 1, hi => by
    have ih := turn_take l k t n hpre i (by omega)
    rw [turn]
    split
    · rename_i hb
      have := hpre i (by omega) hb
      rw [flip, List.take_set, List.set_eq_of_length_le (by rw [List.length_take]; omega), ih]
    · exact ih

theorem hd_take (d : List UInt8) : hd (d.take 4) = hd d := by
  simp [hd, List.getD_eq_getElem?_getD]
/-- OF FRAMES in which bits are turned THOSE AHEAD ARE SCANNED, AND NO OTHERS. -/
theorem scan_turned (L1 L2 : List (List UInt8)) (b : List UInt8) (k t i0 : Nat) (h1 : ∀ x ∈ L1, x.length ≤ 65529) (hb : b.length ≤ 65529)
    (h0 : i0 < 16) (hbit : t / 2 ^ (15 - i0) % 2 = 1) (hfirst : ∀ i, i < i0 → t / 2 ^ (15 - i) % 2 ≠ 1)
    (hlo : (frames L1).length ≤ (k + i0) / 8) (hhi : (k + i0) / 8 < (frames L1).length + (b.length + 6)) :
    scan (turn (frames (L1 ++ b :: L2)) k t 16) = (L1, (turn (frames (L1 ++ b :: L2)) k t 16).drop (frames L1).length) ∧ (turn (frames (L1 ++ b :: L2)) k t 16).drop (frames L1).length ≠ [] := by
  have hpre : ∀ n, n ≤ (k + i0) / 8 → ∀ i, i < 16 → t / 2 ^ (15 - i) % 2 = 1 → 8 * n ≤ k + i := by
    intro n hn i hi hbi
    by_cases h : i < i0
    · exact absurd hbi (hfirst i h)
    · omega
  have eL : frames (L1 ++ b :: L2) = frames L1 ++ (frame b ++ frames L2) := by simp [frames]
  have hflen := frame_length b
  have hlen : (frames (L1 ++ b :: L2)).length = (frames L1).length + (b.length + 6) + (frames L2).length := by rw [eL, List.length_append, List.length_append, hflen]; omega
  obtain ⟨l, hl⟩ : ∃ l, frames (L1 ++ b :: L2) = l := ⟨_, rfl⟩
  obtain ⟨a, ha⟩ : ∃ a, (frames L1).length = a := ⟨_, rfl⟩
  rw [hl] at hlen eL ⊢
  rw [ha] at hlen hlo hhi ⊢
  have htl := turn_length l k t 16
  have hR : turn l k t 16 = frames L1 ++ (turn l k t 16).drop a := by
    have e := turn_take l k t a (hpre a hlo) 16 (by omega)
    have e2 : l.take a = frames L1 := by rw [eL, ← ha, List.take_left]
    conv => lhs; rw [← List.take_append_drop a (turn l k t 16), e, e2]
  have hld : l.drop a = frame b ++ frames L2 := by rw [eL, ← ha, List.drop_left]
  have hRl : ((turn l k t 16).drop a).length = b.length + 6 + (frames L2).length := by rw [List.length_drop, htl, hlen]; omega
  have hne : (turn l k t 16).drop a ≠ [] := by
    intro e
    have := congrArg List.length e
    rw [hRl, List.length_nil] at this
    omega
  have hE : tkE ((turn l k t 16).drop a) ≠ 0 := by
    by_cases h4 : (k + i0) / 8 < a + 4
    · have hs : isSealed (part l a 4) = true := by rw [part, hld, head_take, sealed_is]
      have hn := turn_sealed l k t a 4 i0 (by omega) (hpre a hlo) h0 hbit (by omega) hs
      rw [part] at hn
      rw [tkE, if_neg (by omega), if_pos hn]
      decide
    · have e4 : ((turn l k t 16).drop a).take 4 = (frame b ++ frames L2).take 4 := by
        have e := turn_take l k t (a + 4) (hpre (a + 4) (by omega)) 16 (by omega)
        rw [← hld, List.take_drop, List.take_drop, e]
      have eh : hd ((turn l k t 16).drop a) = b.length := by
        rw [← hd_take, e4, hd_take, head_hd b _ hb]
      have hs : isSealed (part l (a + 4) (b.length + 2)) = true := by
        rw [part, ← List.drop_drop, hld, head_drop, ← sealed_length b, List.take_left, sealed_is]
      have hn := turn_sealed l k t (a + 4) (b.length + 2) i0 (by omega) (hpre (a + 4) (by omega)) h0 hbit (by omega) hs
      rw [part, ← List.drop_drop] at hn
      rw [tkE, if_neg (by omega), e4, head_take, sealed_is, if_neg (by decide), eh, if_neg (by omega), if_neg (by omega), if_pos hn]
      decide
  refine ⟨?_, hne⟩
  conv => lhs; rw [hR]
  rw [scan_frames L1 _ h1, scan_end _ (.inr hE), List.append_nil]
end Go.Proofs.Ythdhnilfkpbmpaa.Fr
