/-
  Frames that are cut off: just those that are whole are scanned. No program is named here.
-/
import Derived.Test.YthdhnilfkpbmpaaFrm
namespace Go.Proofs.Ythdhnilfkpbmpaa.Fr

set_option maxRecDepth 100000

/-- FRAMES OF WHICH THE LAST ONES ARE CUT OFF ARE SCANNED TO JUST THOSE THAT ARE WHOLE. -/
theorem scan_cut : ∀ (l : List (List UInt8)) (k : Nat), (∀ b ∈ l, b.length ≤ 65529) → k ≤ (frames l).length →
    ∃ L1 L2, l = L1 ++ L2 ∧ scan ((frames l).take k) = (L1, ((frames l).take k).drop (frames L1).length) ∧ (frames L1).length ≤ k ∧ (L2 = [] ∨ ∃ b L3, L2 = b :: L3 ∧ k < (frames L1).length + (b.length + 6))
  | [], k, _, hk => by
    have h0 : k = 0 := by simpa [frames] using hk
    subst h0
    exact ⟨[], [], rfl, by rw [List.take_zero, scan_end _ (.inl rfl)]; rfl, by simp [frames], .inl rfl⟩
  | b :: l, k, h, hk => by
    have hb := h b (by simp)
    have e : frames (b :: l) = frame b ++ frames l := by simp [frames]
    have hf := frame_length b
    rw [e] at hk ⊢
    by_cases hlt : k < b.length + 6
    · refine ⟨[], b :: l, rfl, ?_, by simp [frames], .inr ⟨b, l, rfl, by simpa [frames] using hlt⟩⟩
      show scan ((frame b ++ frames l).take k) = ([], ((frame b ++ frames l).take k).drop 0)
      rw [List.drop_zero]
      refine scan_end _ (.inr ?_)
      rw [take_cut b _ hb k (by omega)]
      decide
    · have et : (frame b ++ frames l).take k = frame b ++ (frames l).take (k - (b.length + 6)) := by
        rw [List.take_append, List.take_of_length_le (by omega), hf]
      obtain ⟨L1, L2, h1, h2, h3, h4⟩ := scan_cut l (k - (b.length + 6)) (fun x hx => h x (by simp [hx])) (by rw [List.length_append] at hk; omega)
      obtain ⟨t1, t2, t3⟩ := take_frame b ((frames l).take (k - (b.length + 6))) hb
      have hne : ¬ (frame b ++ (frames l).take (k - (b.length + 6)) = [] ∨ tkE (frame b ++ (frames l).take (k - (b.length + 6))) ≠ 0) := by
        rintro (h | h)
        · have := congrArg List.length h
          rw [List.length_append, List.length_nil] at this
          omega
        · exact h t1
      have e1 : (frames (b :: L1)).length = (b.length + 6) + (frames L1).length := by
        have : frames (b :: L1) = frame b ++ frames L1 := by simp [frames]
        rw [this, List.length_append, hf]
      refine ⟨b :: L1, L2, by rw [h1]; rfl, ?_, by omega, ?_⟩
      · rw [et, scan_step _ hne, t2, t3, List.drop_left, h2, e1, ← hf, ← List.drop_drop, List.drop_left]
      · rcases h4 with h4 | ⟨c, L3, h4, h5⟩
        · exact .inl h4
        · exact .inr ⟨c, L3, h4, by omega⟩
/-- The bytes of frames are as many as their bodies', and six each. -/
theorem frames_length : ∀ l : List (List UInt8), (frames l).length = (l.map fun b => b.length + 6).sum
  | [] => rfl
  | b :: l => by
    have e : frames (b :: l) = frame b ++ frames l := by simp [frames]
    rw [e, List.length_append, frame_length, frames_length l]
    rfl
theorem scan_all (l : List (List UInt8)) (h : ∀ b ∈ l, b.length ≤ 65529) : scan (frames l) = (l, []) := by
  have := scan_frames l [] h
  rwa [List.append_nil, scan_end [] (.inl rfl), List.append_nil] at this
end Go.Proofs.Ythdhnilfkpbmpaa.Fr
