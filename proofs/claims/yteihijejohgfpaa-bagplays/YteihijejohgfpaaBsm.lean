/-
  What 'same' comes to on two lists of the same things; what odd, isTrue of odd and drops come to.
-/
import Derived.Test.YteihijejohgfpaaBrf
import Derived.BigQuiet
import Derived.Defers
import Derived.Recover
namespace Go.Proofs.Yteihijejohgfpaa
set_option maxRecDepth 100000
open Go.RowKit

set_option maxHeartbeats 2000000 in
theorem same_any (B1 B2 : Nat) (vA vB : Value) (S : List (It Int)) (w : World) (hA : Rw 60 w B1 vA S) (hB : Rw 64 w B2 vB S) :
    Calls Try.prog 21 #[vA, vB] w fun e w' => e = .returned (.bool true) ∧ Below w.heap.size w w' := by
  obtain ⟨aA, cA, rfl, hcA, hmA⟩ := hA.val
  obtain ⟨aB, cB, rfl, hcB, hmB⟩ := hB.val
  obtain ⟨n, hn⟩ : ∃ n, S.length = n := ⟨_, rfl⟩
  rw [hn] at hA hB hcA hcB ⊢
  have hnm : n ≤ 9223372036854775807 := by have h := hmA; unfold maxLen at h; omega
  go_enter Try.func21, Try.ntmps21
  go_wp2_with fail
  go_loopw [13] (fun c wr => ∃ k : Nat, k ≤ n ∧ c = .int .i64 (k : Int) ∧ Below w.heap.size w wr) (fun c _ => n - (intOf c).toNat)
  case atStart => exact ⟨0, Nat.zero_le _, rfl, Below.refl _ _⟩
  case round =>
    obtain ⟨k, hk, rfl, hb⟩ := hrel
    by_cases hkn : k < n
    · have hkn' : (k : Int) < (n : Int) := by omega
      obtain ⟨g, _, i, e1, -, hi, -, -, c0, c1, c2, -⟩ := (hA.below hb (Nat.le_refl _)).at3 (k := k) (by omega)
      simp only [Value.slice.injEq] at e1
      obtain ⟨rfl, -, rfl⟩ := e1
      obtain ⟨g', _, i', e1, -, hi', -, -, d0, d1, d2, -⟩ := (hB.below hb (Nat.le_refl _)).at3 (k := k) (by omega)
      simp only [Value.slice.injEq] at e1
      obtain ⟨rfl, -, rfl⟩ := e1
      rw [hi] at hi'
      obtain rfl := Option.some.inj hi'
      have he : ∀ W, (Op.equalIn 10000 34 (.agg #[.int .i64 i.r, .int .i64 i.n]) (.agg #[.int .i64 i.r, .int .i64 i.n])).run Try.prog W = .ok true W := fun W => by
        have := run_equalIn_dot W 9998 i.r i.n i.r i.n
        simpa [dotc] using this
      have hpl := plain_dot
      clear hA hB
      go_wp2_with fail
      go_quiet (fail)
      have hb6 : Below w.heap.size w (wr.drewN nq) := hb.trans ⟨rfl, rfl, rfl, Nat.le_refl _, fun _ _ => rfl⟩
      clear hb c0 c1 c2 d0 d1 d2
      generalize wr.drewN nq = W at *
      go_wp2
      go_roundw
      case rel => exact ⟨k + 1, by omega, by go_num, hb6⟩
      case measure => simp [intOf]; omega
    · have hkn' : ¬ (k : Int) < (n : Int) := by omega
      go_wp2
      go_ret
      exact ⟨rfl, hb⟩
def oddb (x : Int) : Bool := x.tmod 2 != 0
theorem odd_any (x : Int) (w : World) : Calls Try.prog 19 #[.int .i64 x] w fun e w' => e = .returned (.bool (oddb x)) ∧ w' = w := by
  have hw : IntKind.i64.wrap (x.tmod 2) = x.tmod 2 := by
    have h1 : (x.tmod 2).natAbs = x.natAbs % 2 := Int.natAbs_tmod x 2
    rw [IntKind.wrap_i64]; omega
  go_enter Try.func19, Try.ntmps19
  go_wp2
  go_ret
  exact ⟨rfl, rfl⟩
theorem idle (w : World) : CallsD Try.prog 54 #[] .returning w fun e u' w' => e = .returned (.tuple #[]) ∧ u' = .returning ∧ w' = w := by
  refine callsD_of_wpS Try.func54 rfl fun c₀ cs hu => ?_
  apply wpS_region
  simp [wpOpsS, go_sem, recoverD, hu, Try.ntmps54]
  cases c₀
  simp_all [bodyPostS, results, Try.results54]
theorem whp_odd : WhP oddb (.func (.func 19) #[] #[]) := fun x W => by
  have ho := odd_any x W
  have hf : ∀ W, (binOp .eql 45 (.func (.func 19) #[] #[]) .nilFunc).run Try.prog W = .ok (.bool false) W := fun W => by kernel_rfl
  go_enter_defers Try.func39, Try.ntmps39
  go_wp2_with fail
  refine ho.mono ?_
  rintro e w2 ⟨rfl, hw2⟩
  obtain rfl := hw2.symm
  go_wp2
  refine leaves_cons (f := 54) (args := #[]) (by simp) (by simp [go_sem]) ?_
  refine (idle _).mono ?_
  rintro e u' w'' ⟨rfl, rfl, rfl⟩
  have hb := Below.refl w''.heap.size w''
  simp [Leaves, settle, results, Try.results39, hb]
end Go.Proofs.Yteihijejohgfpaa
