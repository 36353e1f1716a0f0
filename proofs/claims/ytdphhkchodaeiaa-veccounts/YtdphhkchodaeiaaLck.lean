/-
  What vec.gap and vec.Lacks come to: by how much numbers are above others, held at 2^62.
-/
import Derived.Test.YtdphhkchodaeiaaRvl
namespace Go.Proofs.Ytdphhkchodaeiaa
open Go.RowKit

def gp (x y : Int) : Int := if y ≤ x then 0 else min (y - x) 4611686018427387904
theorem gp_low (x y : Int) : 0 ≤ gp x y := by unfold gp; split <;> omega
theorem gp_high (x y : Int) : gp x y ≤ 4611686018427387904 := by unfold gp; split <;> omega
/-- What is lacked up to the k-th number. -/
def lackTo (a b : List Int) : Nat → Int
  | 0 => 0
  | k + 1 => min (lackTo a b k + gp (a.getD k 0) (b.getD k 0)) 4611686018427387904
theorem lackTo_low (a b : List Int) : ∀ k, 0 ≤ lackTo a b k
  | 0 => by simp [lackTo]
  | k + 1 => by
    have := lackTo_low a b k
    have := gp_low (a.getD k 0) (b.getD k 0)
    rw [lackTo]; omega
theorem lackTo_high (a b : List Int) : ∀ k, lackTo a b k ≤ 4611686018427387904
  | 0 => by simp [lackTo]
  | k + 1 => by rw [lackTo]; omega
def lacks (a b : List Int) : Int := lackTo a b 16

/-- The numbers of a vector are ints. -/
def Small (l : List Int) : Prop := ∀ i, -9223372036854775808 ≤ l.getD i 0 ∧ l.getD i 0 ≤ 9223372036854775807

set_option maxHeartbeats 400000 in
theorem gap_any (x y : Int) (hx : -9223372036854775808 ≤ x ∧ x ≤ 9223372036854775807) (hy : -9223372036854775808 ≤ y ∧ y ≤ 9223372036854775807) (w : World) :
    Calls Try.prog 30 #[.int .i64 x, .int .i64 y] w fun e w' => e = .returned (.int .u64 (gp x y)) ∧ w' = w := by
  by_cases h : y ≤ x
  · have Hr : Hid (gp x y = 0) := by show _ = _; rw [gp, if_pos h]
    go_enter Try.func30, Try.ntmps30
    go_wp2
    go_ret
    exact ⟨by rw [Hr.out]; rfl, rfl⟩
  · have hd : IntKind.u64.wrap (IntKind.u64.wrap y - IntKind.u64.wrap x) = y - x := by
      simp only [IntKind.wrap_u64]
      omega
    by_cases h1 : 4611686018427387904 < y - x
    · have Hr : Hid (gp x y = 4611686018427387904) := by show _ = _; rw [gp, if_neg h]; omega
      go_enter Try.func30, Try.ntmps30
      go_wp2
      go_ret
      exact ⟨by rw [Hr.out]; rfl, rfl⟩
    · have Hr : Hid (gp x y = y - x) := by show _ = _; rw [gp, if_neg h]; omega
      go_enter Try.func30, Try.ntmps30
      go_wp2
      go_ret
      exact ⟨by rw [Hr.out]; rfl, rfl⟩

set_option maxHeartbeats 400000 in
theorem lacks_any (a b : List Int) (la : a.length = 16) (lb : b.length = 16) (sa : Small a) (sb : Small b) (w : World) :
    Calls Try.prog 24 #[.agg (vals a), .agg (vals b)] w fun e w' => e = .returned (.int .i64 (lacks a b)) ∧ Below w.heap.size w w' := by
  obtain ⟨hA, hB, hb0⟩ := boxed2 w a b
  have H0 : Hid (Below w.heap.size w ((w.alloc (.cells (vals a) 23)).alloc (.cells (vals b) 23))) := hb0
  clear hb0
  go_enter Try.func24, Try.ntmps24
  go_wp2_with (refine load_vec rfl rfl rfl hB lb ?_)
  go_loop [5, 9] (fun s i => ∃ k : Nat, k ≤ 16 ∧ i = .int .i64 (k : Int) ∧ s = .int .u64 (lackTo a b k)) (fun _ i => 16 - (intOf i).toNat)
  case atStart => exact ⟨0, by omega, rfl, rfl⟩
  case round =>
    obtain ⟨k, hk, rfl, rfl⟩ := hrel
    have l0 := lackTo_low a b k
    have l1 := lackTo_high a b k
    by_cases h : k < 16
    · have hi := run_index_vec ((w.alloc (.cells (vals a) 23)).alloc (.cells (vals b) 23)) b k lb h
      have hia := run_indexAt_vec ((w.alloc (.cells (vals a) 23)).alloc (.cells (vals b) 23)) w.heap.size k h
      have hc := hA.cell (k := k) (by omega)
      have Hs : Hid (lackTo a b (k + 1) = min (lackTo a b k + gp (a.getD k 0) (b.getD k 0)) 4611686018427387904) := rfl
      have ra := sa k
      have rb := sb k
      generalize a.getD k 0 = x at *
      generalize b.getD k 0 = y at *
      generalize lackTo a b k = s at *
      go_wp2_with fail
      refine (gap_any x y ra rb _).mono ?_
      rintro e w1 ⟨rfl, hw⟩
      obtain rfl := hw.symm
      have g0 := gp_low x y
      have g1 := gp_high x y
      generalize gp x y = g at *
      by_cases hm : 4611686018427387904 < s + g
      · go_wp2
        go_round
        case rel => exact ⟨k + 1, by omega, by go_num, by rw [Hs.out, show min (s + g) 4611686018427387904 = 4611686018427387904 by omega]⟩
        case measure => simp [intOf]; omega
      · go_wp2
        go_round
        case rel => exact ⟨k + 1, by omega, by go_num, by rw [Hs.out, show min (s + g) 4611686018427387904 = s + g by omega]⟩
        case measure => simp [intOf]; omega
    · obtain rfl : k = 16 := by omega
      have Hr : Hid (lacks a b = lackTo a b 16) := rfl
      generalize lackTo a b 16 = s at *
      go_wp2
      go_ret
      exact ⟨by rw [Hr.out]; rfl, H0.out⟩
end Go.Proofs.Ytdphhkchodaeiaa
