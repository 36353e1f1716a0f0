/-
  Lists of events that are alike: what Same comes to.
-/
import Derived.Test.YteanpepmncgagaaPrg
namespace Go.Proofs.Yteanpepmncgagaa
set_option maxRecDepth 100000
set_option maxRecDepth 100000
open Go.RowKit

theorem run_same_ev (w : World) (e : Ev) (hl : e.deps.length = 16) : (Op.equalIn 10000 39 (.agg (evc e)) (.agg (evc e))).run Try.prog w = .ok true w := by
  have h := run_equalIn_ev w 9996 e e hl hl
  rw [(sameE_iff e e).2 rfl] at h
  exact h
theorem run_neq_alike (w : World) (e : Ev) (hl : e.deps.length = 16) : (binOp .neq 39 (.agg (evc e)) (.agg (evc e))).run Try.prog w = .ok (.bool false) w := by
  have h := run_same_ev w e hl
  simp only [binOp]
  simp [Op.equal, Op.maxDepth, h]
set_option maxHeartbeats 1000000 in
theorem same_yes (a1 a2 : Option Addr) (m c1 c2 : Nat) (E : List Ev) (w : World) (h1 : Evs w a1 m c1 E) (h2 : Evs w a2 m c2 E) (hm : m ≤ 1048576) :
    Calls Try.prog 12 #[.slice a1 m c1, .slice a2 m c2] w fun e w' => e = .returned (.bool true) ∧ Below w.heap.size w w' := by
  go_enter Try.func12, Try.ntmps12
  go_wp2_with fail
  go_loopw [13] (fun i wr => ∃ k : Nat, k ≤ m ∧ i = .int .i64 (k : Int) ∧ Below w.heap.size w wr) (fun i _ => m - (intOf i).toNat)
  case atStart => exact ⟨0, Nat.zero_le _, rfl, Below.refl _ _⟩
  case round =>
    obtain ⟨k, hk, rfl, hB⟩ := hrel
    by_cases hkm : k < m
    · obtain ⟨b1, o1, x, rfl, hx, hwx, r1, -⟩ := h1.at hkm
      obtain ⟨b2, o2, x', rfl, hx', -, r2, -⟩ := h2.at hkm
      obtain rfl : x = x' := by rw [hx] at hx'; exact Option.some.inj hx'
      have r1' : wr.drew.rangeAt b1 (o1 + k * 26) (evl x) := fun j v hv => by
        have := r1 j v hv
        exact (hB.cell (World.block_lt_of_cell? w _ this)).trans this
      have r2' : wr.drew.rangeAt b2 (o2 + k * 26) (evl x) := fun j v hv => by
        have := r2 j v hv
        exact (hB.cell (World.block_lt_of_cell? w _ this)).trans this
      have hl := hwx.1
      have hk1 : k < m := hkm
      have hk2 : k < m := hkm
      clear h1 h2 r1 r2
      go_upto_region 6 with (fail)
      refine wp_region_noPanic ?_
      refine wp_region_held_drew (S := fun W' : World => W'.rangeAt b1 (o1 + k * 26) (evl x) ∧ W'.rangeAt b2 (o2 + k * 26) (evl x)) (by kernel_rfl) ⟨r1', r2'⟩ (fun hHeld => ?_)
      refine wpAnyH_take (i := 0) (oi := { dst := some 16, op := _, type := _, pos := _, after := _, guard := _ }) (v := ?_) rfl (by kernel_rfl) (by kernel_rfl) (by kernel_rfl) (fun _ _ _ h => h) (Or.inl ⟨by rfl, ?_⟩) (by assumption) ?_
      rotate_left
      · intro w hSw
        go_simp <;> with_reducible rfl
      simp only [Act.put, List.setIfInBounds_toArray, List.set_cons_zero, List.set_cons_succ]
      refine wpAnyH_take (i := 1) (oi := { dst := some 17, op := _, type := _, pos := _, after := _, guard := _ }) (v := ?_) rfl (by kernel_rfl) (by kernel_rfl) (by kernel_rfl) (fun _ _ _ h => h) (Or.inl ⟨by rfl, ?_⟩) (by assumption) ?_
      rotate_left
      · intro w hSw
        go_simp <;> with_reducible rfl
      simp only [Act.put, List.setIfInBounds_toArray, List.set_cons_zero, List.set_cons_succ]
      refine wpAnyH_take (i := 2) (oi := { dst := some 18, op := _, type := _, pos := _, after := _, guard := _ }) (v := .pointer (some ⟨b1, o1 + k * 26, none⟩)) rfl (by kernel_rfl) (by kernel_rfl) (by kernel_rfl) (fun _ _ _ h => h) (Or.inl ⟨by rfl, ?_⟩) (by assumption) ?_
      · intro w9 hSw
        exact exec_index rfl rfl rfl (index_ev w9 hk1)
      simp only [Act.put, List.setIfInBounds_toArray, List.set_cons_zero, List.set_cons_succ]
      refine wpAnyH_take (i := 3) (oi := { dst := some 19, op := _, type := _, pos := _, after := _, guard := _ }) (v := .agg (evc x)) rfl (by kernel_rfl) (by kernel_rfl) (by kernel_rfl) (fun _ _ _ h => h) (Or.inl ⟨by rfl, ?_⟩) (by assumption) ?_
      · intro w9 hSw
        exact exec_load (ad := ⟨b1, o1 + k * 26, none⟩) rfl rfl (load_part hSw.1 hl)
      simp only [Act.put, List.setIfInBounds_toArray, List.set_cons_zero, List.set_cons_succ]
      refine wpAnyH_take (i := 4) (oi := { dst := some 20, op := _, type := _, pos := _, after := _, guard := _ }) (v := ?_) rfl (by kernel_rfl) (by kernel_rfl) (by kernel_rfl) (fun _ _ _ h => h) (Or.inl ⟨by rfl, ?_⟩) (by assumption) ?_
      rotate_left
      · intro w hSw
        go_simp <;> with_reducible rfl
      simp only [Act.put, List.setIfInBounds_toArray, List.set_cons_zero, List.set_cons_succ]
      refine wpAnyH_take (i := 5) (oi := { dst := some 21, op := _, type := _, pos := _, after := _, guard := _ }) (v := ?_) rfl (by kernel_rfl) (by kernel_rfl) (by kernel_rfl) (fun _ _ _ h => h) (Or.inl ⟨by rfl, ?_⟩) (by assumption) ?_
      rotate_left
      · intro w hSw
        go_simp <;> with_reducible rfl
      simp only [Act.put, List.setIfInBounds_toArray, List.set_cons_zero, List.set_cons_succ]
      refine wpAnyH_take (i := 6) (oi := { dst := some 22, op := _, type := _, pos := _, after := _, guard := _ }) (v := .pointer (some ⟨b2, o2 + k * 26, none⟩)) rfl (by kernel_rfl) (by kernel_rfl) (by kernel_rfl) (fun _ _ _ h => h) (Or.inl ⟨by rfl, ?_⟩) (by assumption) ?_
      · intro w9 hSw
        exact exec_index rfl rfl rfl (index_ev w9 hk2)
      simp only [Act.put, List.setIfInBounds_toArray, List.set_cons_zero, List.set_cons_succ]
      refine wpAnyH_take (i := 7) (oi := { dst := some 23, op := _, type := _, pos := _, after := _, guard := _ }) (v := .agg (evc x)) rfl (by kernel_rfl) (by kernel_rfl) (by kernel_rfl) (fun _ _ _ h => h) (Or.inl ⟨by rfl, ?_⟩) (by assumption) ?_
      · intro w9 hSw
        exact exec_load (ad := ⟨b2, o2 + k * 26, none⟩) rfl rfl (load_part hSw.2 hl)
      simp only [Act.put, List.setIfInBounds_toArray, List.set_cons_zero, List.set_cons_succ]
      refine wpAnyH_take (i := 8) (oi := { dst := some 24, op := _, type := _, pos := _, after := _, guard := _ }) (v := .bool false) rfl (by kernel_rfl) (by kernel_rfl) (by kernel_rfl) (fun _ _ _ h => h) (Or.inl ⟨by rfl, ?_⟩) (by assumption) ?_
      · intro w9 hSw
        exact exec_bin rfl rfl rfl (run_eqGuard_agg w9 _ _ _ _ _ _ plain_ev) (run_neq_alike w9 x hl)
      simp only [Act.put, List.setIfInBounds_toArray, List.set_cons_zero, List.set_cons_succ]
      refine wpAnyH_done (by kernel_rfl) ?_ _
      refine NoPanic.normal ?_
      go_wp2
      go_roundw
      case rel => exact ⟨k + 1, by omega, by go_num, hB.drew⟩
      case measure => simp [intOf]; omega
    · obtain rfl : k = m := by omega
      go_wp2
      go_ret
      exact ⟨rfl, hB⟩
end Go.Proofs.Yteanpepmncgagaa
