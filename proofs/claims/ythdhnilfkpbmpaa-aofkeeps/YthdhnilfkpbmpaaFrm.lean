/-
  Frames as plain data: a body's frame; taking one off the beginning of bytes; scanning. No program is named here.
-/
import Derived.Test.YthdhnilfkpbmpaaChk
namespace Go.Proofs.Ythdhnilfkpbmpaa.Fr
set_option maxRecDepth 100000

open Go.Proofs.Ythdhnilfkpbmpaa (Ck.fold Ck.sealed)

/-- Are the bytes sealed ones? -/
def isSealed (d : List UInt8) : Bool := decide (2 ≤ d.length) && decide (Ck.fold 65535#16 d = 0#16)
theorem word_hi_lo (x : BitVec 16) : Ck.word (Ck.hi x) (Ck.lo x) = x := by
  apply BitVec.eq_of_toNat_eq
  have hx := x.isLt
  unfold Ck.word Ck.hi Ck.lo
  rw [BitVec.toNat_ofNat, UInt8.toNat_ofNat', UInt8.toNat_ofNat']
  omega
theorem sealed_length (l : List UInt8) : (Ck.sealed l).length = l.length + 2 := by simp [Ck.sealed]
theorem sealed_is (l : List UInt8) : isSealed (Ck.sealed l) = true := by
  rw [isSealed, sealed_length, Bool.and_eq_true, decide_eq_true_eq, decide_eq_true_eq]
  refine ⟨by omega, ?_⟩
  rw [Ck.sealed, Ck.fold_append, Ck.fold_two, word_hi_lo]
  rfl
theorem sealed_take (l : List UInt8) : (Ck.sealed l).take l.length = l := by simp [Ck.sealed]

/-- A length's two bytes. -/
def two (n : Nat) : List UInt8 := [UInt8.ofNat (n / 256), UInt8.ofNat (n % 256)]
def frame (b : List UInt8) : List UInt8 := Ck.sealed (two b.length) ++ Ck.sealed b
theorem frame_length (b : List UInt8) : (frame b).length = b.length + 6 := by
  rw [frame, List.length_append, sealed_length, sealed_length]; simp [two]; omega
def frames (l : List (List UInt8)) : List UInt8 := l.flatMap frame

/-- The length that a head tells. -/
def hd (d : List UInt8) : Nat := (d.getD 0 0).toNat * 256 + (d.getD 1 0).toNat
/-- Taking: the error; the body; how many bytes it takes. -/
def tkE (d : List UInt8) : Int :=
  if d.length < 4 then 2 else if isSealed (d.take 4) = false then 5 else if 65529 < hd d then 4 else if d.length < hd d + 6 then 2 else if isSealed ((d.drop 4).take (hd d + 2)) = false then 5 else 0
def tkB (d : List UInt8) : List UInt8 := (d.drop 4).take (hd d)
def tkW (d : List UInt8) : Nat := hd d + 6

theorem head_take (b B : List UInt8) : (frame b ++ B).take 4 = Ck.sealed (two b.length) := by
  have h : (Ck.sealed (two b.length)).length = 4 := by rw [sealed_length]; rfl
  rw [frame, List.append_assoc, List.take_append_of_le_length (by omega), List.take_of_length_le (by omega)]
theorem head_drop (b B : List UInt8) : (frame b ++ B).drop 4 = Ck.sealed b ++ B := by
  have h : (Ck.sealed (two b.length)).length = 4 := by rw [sealed_length]; rfl
  rw [frame, List.append_assoc, ← h, List.drop_left]
theorem head_hd (b B : List UInt8) (hb : b.length ≤ 65529) : hd (frame b ++ B) = b.length := by
  have e : frame b ++ B = UInt8.ofNat (b.length / 256) :: UInt8.ofNat (b.length % 256) :: ([Ck.hi (Ck.crc (two b.length)), Ck.lo (Ck.crc (two b.length))] ++ Ck.sealed b ++ B) := by
    simp [frame, Ck.sealed, two]
  rw [e, hd, List.getD_cons_zero, List.getD_cons_succ, List.getD_cons_zero, UInt8.toNat_ofNat', UInt8.toNat_ofNat']
  omega

/-- A FRAME IS TAKEN AS ITS BODY, whatever stands behind. -/
theorem take_frame (b B : List UInt8) (hb : b.length ≤ 65529) : tkE (frame b ++ B) = 0 ∧ tkB (frame b ++ B) = b ∧ tkW (frame b ++ B) = (frame b).length := by
  have h1 := head_hd b B hb
  have h2 : (frame b ++ B).length = b.length + 6 + B.length := by rw [List.length_append, frame_length]
  have h3 : (Ck.sealed b ++ B).take (b.length + 2) = Ck.sealed b := by
    rw [← sealed_length b, List.take_left]
  refine ⟨?_, ?_, ?_⟩
  · rw [tkE, if_neg (by omega), head_take, sealed_is, if_neg (by decide), h1, if_neg (by omega), if_neg (by omega), head_drop, h3, sealed_is, if_neg (by decide)]
  · rw [tkB, h1, head_drop, Ck.sealed, List.append_assoc, List.take_left]
  · rw [tkW, h1, frame_length]
/-- CUT OFF, no frame is taken. -/
theorem take_cut (b B : List UInt8) (hb : b.length ≤ 65529) (k : Nat) (hk : k < (frame b).length) : tkE ((frame b ++ B).take k) = 2 := by
  have hf := frame_length b
  have hl : ((frame b ++ B).take k).length = k := by rw [List.length_take, List.length_append]; omega
  by_cases h4 : k < 4
  · rw [tkE, if_pos (by omega)]
  · have e1 : ((frame b ++ B).take k).take 4 = Ck.sealed (two b.length) := by
      rw [List.take_take, Nat.min_eq_left (by omega), head_take]
    have e2 : hd ((frame b ++ B).take k) = b.length := by
      rw [← head_hd b B hb, hd, hd]
      simp only [List.getD_eq_getElem?_getD, List.getElem?_take, if_pos (by omega : 0 < k), if_pos (by omega : 1 < k)]
    rw [tkE, if_neg (by omega), e1, sealed_is, if_neg (by decide), e2, if_neg (by omega), if_pos (by omega)]

/-- Scanning: the bodies, and what is left. -/
def scanF : Nat → List UInt8 → List (List UInt8) × List UInt8
  | 0, d => ([], d)
  | f + 1, d => if d = [] ∨ tkE d ≠ 0 then ([], d) else ((tkB d) :: (scanF f (d.drop (tkW d))).1, (scanF f (d.drop (tkW d))).2)
def scan (d : List UInt8) : List (List UInt8) × List UInt8 := scanF (d.length + 1) d
theorem scanF_enough : ∀ (f g : Nat) (d : List UInt8), d.length < f → d.length < g → scanF f d = scanF g d
  | 0, _, _, h, _ => by omega
  | _, 0, _, _, h => by omega
  | f + 1, g + 1, d, hf, hg => by
    rw [scanF, scanF]
    by_cases h : d = [] ∨ tkE d ≠ 0
    · rw [if_pos h, if_pos h]
    · have hd : d ≠ [] := fun e => h (.inl e)
      have h0 : 0 < d.length := List.length_pos_iff.2 hd
      have hlt : (d.drop (tkW d)).length < d.length := by rw [List.length_drop, tkW]; omega
      rw [if_neg h, if_neg h, scanF_enough f g _ (by omega) (by omega)]
theorem scan_step (d : List UInt8) (h : ¬ (d = [] ∨ tkE d ≠ 0)) : scan d = ((tkB d) :: (scan (d.drop (tkW d))).1, (scan (d.drop (tkW d))).2) := by
  have hd : d ≠ [] := fun e => h (.inl e)
  have h0 : 0 < d.length := List.length_pos_iff.2 hd
  have hlt : (d.drop (tkW d)).length < d.length := by rw [List.length_drop, tkW]; omega
  rw [scan, scanF, if_neg h, scanF_enough d.length ((d.drop (tkW d)).length + 1) _ hlt (by omega)]
  rfl
theorem scan_end (d : List UInt8) (h : d = [] ∨ tkE d ≠ 0) : scan d = ([], d) := by rw [scan, scanF, if_pos h]
/-- FRAMES ARE SCANNED AS THEIR BODIES, and then what stands behind. -/
theorem scan_frames : ∀ (l : List (List UInt8)) (B : List UInt8), (∀ b ∈ l, b.length ≤ 65529) → scan (frames l ++ B) = (l ++ (scan B).1, (scan B).2)
  | [], B, _ => by simp [frames]
  | b :: l, B, h => by
    have e : frames (b :: l) ++ B = frame b ++ (frames l ++ B) := by simp [frames]
    obtain ⟨h1, h2, h3⟩ := take_frame b (frames l ++ B) (h b (by simp))
    have hne : frame b ++ (frames l ++ B) ≠ [] := by
      have := frame_length b
      intro e
      have := congrArg List.length e
      rw [List.length_append, List.length_nil] at this
      omega
    rw [e, scan_step _ (by rw [h1]; simpa using hne), h2, h3, List.drop_left, scan_frames l B (fun x hx => h x (by simp [hx]))]
    rfl
theorem frames_append (a b : List (List UInt8)) : frames (a ++ b) = frames a ++ frames b := by simp [frames]
end Go.Proofs.Ythdhnilfkpbmpaa.Fr
