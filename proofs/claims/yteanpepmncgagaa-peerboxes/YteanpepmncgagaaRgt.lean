/-
  What vec.Right comes to: whether each number is from 0 to 1048576; and the reference's.
-/
import Derived.Test.YteanpepmncgagaaZer
import Derived.BigQuiet
namespace Go.Proofs.Yteanpepmncgagaa
set_option maxRecDepth 100000
open Go.RowKit

/-- Can a vector be? -/
def fine (v : List Int) : Bool := v.all fun x => decide (0 ≤ x ∧ x ≤ 1048576)
theorem fine_step (v : List Int) (k : Nat) (hv : v.length = 16) (hk : k < 16) (h : fine (v.take k) = true) (h0 : 0 ≤ v.getD k 0) (h1 : v.getD k 0 ≤ 1048576) : fine (v.take (k + 1)) = true := by
  have hkl : k < v.length := by omega
  have e : v.getD k 0 = v[k] := by simp [List.getD, hkl]
  rw [e] at h0 h1
  rw [fine, List.take_succ_eq_append_getElem hkl, List.all_append]
  rw [fine] at h
  rw [h, Bool.true_and, List.all_cons, List.all_nil, Bool.and_true]
  exact decide_eq_true ⟨h0, h1⟩
theorem fine_not (v : List Int) (k : Nat) (hv : v.length = 16) (hk : k < 16) (h : v.getD k 0 < 0 ∨ 1048576 < v.getD k 0) : fine v = false := by
  have hkl : k < v.length := by omega
  have e : v.getD k 0 = v[k] := by simp [List.getD, hkl]
  rw [e] at h
  rw [fine, List.all_eq_false]
  exact ⟨v[k], List.getElem_mem hkl, by simp; omega⟩
theorem fine_get (v : List Int) (k : Nat) (hv : v.length = 16) (hk : k < 16) (h : fine v = true) : 0 ≤ v.getD k 0 ∧ v.getD k 0 ≤ 1048576 := by
  have hkl : k < v.length := by omega
  have e : v.getD k 0 = v[k] := by simp [List.getD, hkl]
  rw [fine, List.all_eq_true] at h
  have := h v[k] (List.getElem_mem hkl)
  rw [e]
  simpa using this

set_option maxHeartbeats 400000 in
theorem rright_any (v : List Int) (hv : v.length = 16) (w : World) :
    Calls Try.prog 37 #[.agg (vals v)] w fun e w' => e = .returned (.bool (fine v)) ∧ Below w.heap.size w w' := by
  have hA := lies_new w v
  have hB : Hid (Below w.heap.size w (w.alloc (.cells (vals v) 35))) := (Below.refl _ _).alloc (Nat.le_refl _) _
  go_enter Try.func37, Try.ntmps37
  go_wp2_with fail
  go_loop [3] (fun i => ∃ k : Nat, k ≤ 16 ∧ i = .int .i64 (k : Int) ∧ fine (v.take k) = true) (fun i => 16 - (intOf i).toNat)
  case atStart => exact ⟨0, by omega, rfl, rfl⟩
  case round =>
    obtain ⟨k, hk, rfl, hf⟩ := hrel
    by_cases h : k < 16
    · have hc := hA.cell (k := k) (by omega)
      have hi := run_indexAt_vec (w.alloc (.cells (vals v) 35)) w.heap.size k h
      have Hs : Hid _ := fine_step v k hv h hf
      have Hn : Hid _ := fine_not v k hv h
      clear hf
      generalize v.getD k 0 = x at *
      by_cases h0 : x < 0
      · go_wp2
        go_ret
        rw [Hn.out (.inl h0)]
        exact ⟨rfl, hB.out⟩
      · by_cases h1 : 1048576 < x
        · go_wp2
          go_ret
          rw [Hn.out (.inr h1)]
          exact ⟨rfl, hB.out⟩
        · go_wp2
          go_round
          case rel => exact ⟨k + 1, by omega, by go_num, Hs.out (by omega) (by omega)⟩
          case measure => simp [intOf]; omega
    · obtain rfl : k = 16 := by omega
      rw [List.take_of_length_le (by omega)] at hf
      have Hf : Hid (fine v = true) := hf
      clear hf
      go_wp2
      go_ret
      rw [Hf.out]
      exact ⟨rfl, hB.out⟩
end Go.Proofs.Yteanpepmncgagaa
