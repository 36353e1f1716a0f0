/-
  Which scripts are tried: few.
-/
import Derived.Test.YtcopjgincdbliaaDop
namespace Go.Proofs.Ytcopjgincdbliaa
open Go.RowKit

/-- A script that is tried. -/
def Few (m : Nat) (O : Nat → Cl) : Prop := m ≤ 200 ∧ ∀ i, i < m → (O i).b.size ≤ 70000

set_option maxHeartbeats 1000000 in
theorem few_yes (a : Option Addr) (m c : Nat) (O : Nat → Cl) (w : World) (hS : IsOps w a m O) (hF : Few m O) :
    Calls Try.prog 10 #[.slice a m c] w fun e w' => e = .returned (.bool true) ∧ w' = w := by
  have hm : ¬ (200 : Int) < (m : Int) := by have := hF.1; omega
  have hm2 : m ≤ 200 := hF.1
  go_enter Try.func10, Try.ntmps10
  go_wp2_with fail
  go_loop [9] (fun i => ∃ k : Nat, k ≤ m ∧ i = .int .i64 (k : Int)) (fun i => m - (intOf i).toNat)
  case atStart => exact ⟨0, Nat.zero_le _, rfl⟩
  case round =>
    obtain ⟨k, hk, rfl⟩ := hrel
    by_cases hkm : k < m
    · rcases hS.2 with h0 | ⟨b, off, rfl, hb, hS⟩
      · omega
      have c4 := (hS k hkm).1 4 _ rfl
      have hsz : ¬ (70000 : Int) < ((O k).b.size : Int) := by have := hF.2 k hkm; omega
      clear hF hS
      generalize (O k).b = s at *
      go_wp2
      go_round
      case rel => exact ⟨k + 1, by omega, by go_num⟩
      case measure => simp [intOf]; omega
    · obtain rfl : k = m := by omega
      go_wp2
      go_ret
      exact ⟨rfl, rfl⟩

set_option maxHeartbeats 1000000 in
theorem few_no (a : Option Addr) (m c : Nat) (O : Nat → Cl) (w : World) (hS : IsOps w a m O) (hF : ¬ Few m O) :
    Calls Try.prog 10 #[.slice a m c] w fun e w' => e = .returned (.bool false) ∧ w' = w := by
  have hml := hS.1
  unfold maxLen at hml
  by_cases hm200 : 200 < m
  · have hm : (200 : Int) < (m : Int) := by omega
    go_enter Try.func10, Try.ntmps10
    go_wp2
    go_ret
    exact ⟨rfl, rfl⟩
  · have hm : ¬ (200 : Int) < (m : Int) := by omega
    go_enter Try.func10, Try.ntmps10
    go_wp2_with fail
    go_loop [9] (fun i => ∃ k : Nat, k ≤ m ∧ i = .int .i64 (k : Int) ∧ ∀ j, j < k → (O j).b.size ≤ 70000) (fun i => m - (intOf i).toNat)
    case atStart => exact ⟨0, Nat.zero_le _, rfl, fun j hj => by omega⟩
    case round =>
      obtain ⟨k, hk, rfl, hall⟩ := hrel
      by_cases hkm : k < m
      · rcases hS.2 with h0 | ⟨b, off, rfl, hb, hS⟩
        · omega
        have c4 := (hS k hkm).1 4 _ rfl
        have hmx := (hS k hkm).2
        unfold maxLen at hmx
        have Hall : Hid (∀ j, j < k → (O j).b.size ≤ 70000) := hall
        have HO : Hid ((O k).b.size ≤ 70000 → ∀ j, j < k + 1 → (O j).b.size ≤ 70000) := fun h j hj => by
          by_cases e : j = k
          · rw [e]; exact h
          · exact hall j (by omega)
        clear hF hS hall
        generalize (O k).b = s at *
        by_cases hbig : 70000 < s.size
        · have hb' : (70000 : Int) < (s.size : Int) := by omega
          go_wp2
          go_ret
          exact ⟨rfl, rfl⟩
        · have hb' : ¬ (70000 : Int) < (s.size : Int) := by omega
          go_wp2
          go_round
          case rel => exact ⟨k + 1, by omega, by go_num, HO.out (by omega)⟩
          case measure => simp [intOf]; omega
      · exfalso
        obtain rfl : k = m := by omega
        exact hF ⟨by omega, hall⟩
end Go.Proofs.Ytcopjgincdbliaa
