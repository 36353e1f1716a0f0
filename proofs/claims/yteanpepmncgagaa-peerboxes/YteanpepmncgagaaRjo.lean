/-
  What the reference's Join and Meet come to.
-/
import Derived.Test.YteanpepmncgagaaRvl
import Derived.Test.YteanpepmncgagaaJoi
import Derived.BigQuiet
namespace Go.Proofs.Yteanpepmncgagaa
set_option maxRecDepth 100000
open Go.RowKit

theorem drew_below {B : Nat} {a w : World} (h : Below B a w) : Below B a w.drew := h.drew

set_option maxHeartbeats 1000000 in
theorem rjoin_any (a b : List Int) (la : a.length = 16) (lb : b.length = 16) (w : World) :
    Calls Try.prog 21 #[.agg (vals a), .agg (vals b)] w fun e w' => e = .returned (.agg (vals (each max a b))) ∧ Below w.heap.size w w' := by
  obtain ⟨hA, hB, hZ, hb0⟩ := boxed3 w a b zeros
  go_enter Try.func21, Try.ntmps21
  go_wp2_with fail
  go_loopw [5] (fun i wr => ∃ k : Nat, k ≤ 16 ∧ i = .int .i64 (k : Int) ∧ Lies wr w.heap.size (mixed max a b k) ∧ Lies wr (w.heap.size + 1) b ∧ Lies wr (w.heap.size + 1 + 1) zeros ∧ Below w.heap.size w wr) (fun i _ => 16 - (intOf i).toNat)
  case atStart =>
    refine ⟨0, by omega, rfl, ?_, hB, hZ, hb0⟩
    rw [mixed_zero]
    exact hA
  case round =>
    obtain ⟨k, hk, rfl, hM, hB', hZ', hb⟩ := hrel
    clear hA hB hZ hb0
    by_cases h : k < 16
    · have hc := hM.cell (k := k) (by rw [mixed_length max a b k la lb hk]; exact h)
      rw [mixed_get max a b k la lb h] at hc
      have hcb := hB'.cell (k := k) (by omega)
      have hf := hM.frozen (k := k)
      have hia := fun (W : World) (g : Nat) => run_indexAt_vec W g k h
      have Hs : Hid (Lies (wr.drew.setCell ⟨w.heap.size, k, none⟩ (.int .i64 (max (a.getD k 0) (b.getD k 0)))) w.heap.size (mixed max a b (k + 1))) := by
        rw [← mixed_step max a b k la lb h]
        exact hM.drew.set _
      have Hb : Hid _ := hB'.drew.other (ad := ⟨w.heap.size, k, none⟩) (.int .i64 (max (a.getD k 0) (b.getD k 0))) (by simp)
      have Hz : Hid _ := hZ'.drew.other (ad := ⟨w.heap.size, k, none⟩) (.int .i64 (max (a.getD k 0) (b.getD k 0))) (by simp; omega)
      have HB : Hid (Below w.heap.size w wr) := hb
      clear hM hB' hZ' hb
      generalize a.getD k 0 = x at *
      generalize b.getD k 0 = y at *
      go_wp2_with fail
      go_region
      go_wp2
      go_roundw
      case rel => rw [if_max]; exact ⟨k + 1, by omega, by go_num, Hs.out, Hb.out, Hz.out, HB.out.drew.setCell (Nat.le_refl _) _⟩
      case measure => simp [intOf]; omega
    · obtain rfl : k = 16 := by omega
      rw [mixed_end max a b la lb] at hM
      go_wp2_with (first | refine load_vec rfl rfl rfl hM (each_length max a b la lb) ?_ | refine store_vec rfl rfl rfl rfl hZ' (each_length max a b la lb) rfl ?_)
      exact ret_vec rfl rfl rfl (hZ'.row _) (each_length max a b la lb) ⟨rfl, below_setRow hb (by omega) _⟩

end Go.Proofs.Yteanpepmncgagaa
