/-
  What few comes to (layer 16's, in the place of layer 10's).
-/
import Derived.Test.YtagjgamigldjnaaLty
namespace Go.Proofs.Ytagjgamigldjnaa
set_option maxRecDepth 100000
open Go.RowKit

set_option maxHeartbeats 1000000 in
theorem few_any (ao : Option Addr) (m c : Nat) (E : List Ev) (w : World) (hE : Evs w ao m c E) :
    Calls Try.prog 10 #[.slice ao m c] w fun e w' => ∃ t : Bool, e = .returned (.bool t) ∧ (t = true → m ≤ 60) ∧ w' = w := by
  by_cases hbig : 60 < m
  · have hz : (60 : Int) < (m : Int) := by omega
    clear hE
    go_enter Try.func10, Try.ntmps10
    go_wp2
    go_ret
    exact ⟨_, rfl, by simp, rfl⟩
  · have HE : Aside (Evs w ao m c E) := hE
    clear hE
    have hz : ¬ (60 : Int) < (m : Int) := by omega
    go_enter Try.func10, Try.ntmps10
    go_wp2
    go_loopg [9] m (fun kx s9 wr => ∃ i : Nat, s9 = .int .i64 i ∧ i ≤ m ∧ m - i ≤ kx ∧ wr = w)
    case atStart => exact ⟨0, rfl, Nat.zero_le _, by omega, rfl⟩
    case round =>
      obtain ⟨i, rfl, him, hkx, rfl⟩ := hrel
      by_cases hlt : i < m
      · have hltz : (i : Int) < (m : Int) := by omega
        obtain ⟨b, off, u, rfl, hui, hu, hr, hbl⟩ := HE.out.at hlt
        have hix := fun W : World => index_ev W (b := b) (off := off) (k := i) (m := m) (c := c) hlt
        have ck := range_key hr hu.1
        clear hr
        obtain ⟨z, hzz⟩ : ∃ z : Int, ((sb u.key).size : Int) = z := ⟨_, rfl⟩
        by_cases hg : 1000 < z
        · have hgb : decide (1000 < z) = true := decide_eq_true hg
          go_wp2
          go_ret
          exact ⟨_, rfl, fun _ => by omega, rfl⟩
        · have hgb : decide (1000 < z) = false := decide_eq_false hg
          go_wp2
          go_roundg (m - (i + 1))
          case measure => omega
          case rel => exact ⟨i + 1, by go_num, by omega, Nat.le_refl _, rfl⟩
      · have hltz : ¬ (i : Int) < (m : Int) := by omega
        go_wp2
        go_ret
        exact .inr ⟨rfl, by omega, rfl⟩
end Go.Proofs.Ytagjgamigldjnaa
