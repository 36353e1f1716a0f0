/-
  What slices.IndexFunc and slices.DeleteFunc come to over a function that may change what lies elsewhere (28 cells an item).
-/
import Derived.Test.YthpkpmcccpfabaaYase
import Derived.Test.YthpkpmcccpfabaaYex
import Derived.Laws.CopyRow
namespace Go.Proofs.Ythpkpmcccpfabaa.E
set_option maxRecDepth 100000
open Go.RowKit Go.Sort

/-- Blocks of items are as they were. -/
def Kpt (W w' : World) : Prop := W.heap.size ≤ w'.heap.size ∧ ∀ (k : Nat) (cur : Array Value), W.heap[k]? = some (.cells cur 74 (0, 0)) → w'.heap[k]? = W.heap[k]?
/-- What a function tells of each item, one behind the other, and what it leaves. -/
structure PredJ (p : It (Cx 26) → Bool) (Bv Bw : Nat) (S : List (It (Cx 26))) (base : Nat) (J : Nat → World → Prop) : Prop where
  asks : ∀ (j : Nat) (i : It (Cx 26)) (W : World), S[j]? = some i → J j W → Calls Try.prog 41 #[.agg (xc i), .pointer (some ⟨Bv, 0, none⟩), .pointer (some ⟨Bw, 0, none⟩)] W fun e w' => e = .returned (.bool (p i)) ∧ J (j + 1) w' ∧ Kpt W w'
  stays : ∀ (j : Nat) (W W' : World) (row : Option Nat), J j W → W.grownBy W' row → (∀ g, row = some g → base ≤ g ∧ ∃ cur, W.heap[g]? = some (.cells cur 74 (0, 0))) → J j W'
/-- The first place at which p is true, or -1. -/
def idxI (p : It (Cx 26) → Bool) (S : List (It (Cx 26))) : Int := match S.findIdx? p with
  | none => -1
  | some k => (k : Int)
/-- How many were asked. -/
def asked (p : It (Cx 26) → Bool) (S : List (It (Cx 26))) : Nat := match S.findIdx? p with
  | none => S.length
  | some k => k + 1
theorem Rw.kpt {w w' : World} {base : Nat} {v : Value} {S : List (It (Cx 26))} (h : Rw 74 w base v S) (hk : Kpt w w') : Rw 74 w' base v S := h.keep fun k hv => by
  obtain ⟨cur, hc⟩ := h.cellsAt k hv
  exact hk.2 k cur hc
theorem index_at (w : World) {b k m c : Nat} (hk : k < m) : (Instr.indexAt 60 (.slice (some ⟨b, 0, none⟩) m c) (.int .i64 (k : Int))).run Try.prog w = .ok (.pointer (some ⟨b, k * 28, none⟩)) w := by
  have hk' : (k : Int) < (m : Int) := by omega
  go_simp

set_option maxHeartbeats 1000000 in
theorem indexfunc_any (p : It (Cx 26) → Bool) (Bv Bw : Nat) (S : List (It (Cx 26))) (base : Nat) (J : Nat → World → Prop) (hp : PredJ p Bv Bw S base J) (v : Value) (w : World) (hrow : Rw 74 w base v S) (h0 : J 0 w) :
    Calls Try.prog 33 #[v, .func (.func 41) #[] #[.pointer (some ⟨Bv, 0, none⟩), .pointer (some ⟨Bw, 0, none⟩)]] w fun e w' => e = .returned (.int .i64 (idxI p S)) ∧ J (asked p S) w' ∧ Rw 74 w' base v S := by
  obtain ⟨ao, cap, hv, hnc, hcm⟩ := hrow.val
  have hcm' : S.length ≤ 9223372036854775807 := by unfold maxLen at hcm; omega
  have hvv : v = .slice ao S.length cap := hv
  obtain ⟨n, hn⟩ : ∃ n, S.length = n := ⟨_, rfl⟩
  rw [hn] at hv hcm'
  rw [hv]
  go_enter Try.func33, Try.ntmps33
  go_wp2
  go_loopw [8] (fun c wr => ∃ k : Nat, k ≤ n ∧ c = .int .i64 (k : Int) ∧ (∀ j, j < k → ∀ i, S[j]? = some i → p i = false) ∧ J k wr ∧ Rw 74 wr base v S) (fun c _ => n - (intOf c).toNat)
  case atStart => exact ⟨0, Nat.zero_le _, rfl, fun j hj => absurd hj (Nat.not_lt_zero _), h0, hrow⟩
  case round =>
    obtain ⟨k, hk, rfl, hno, hJ, hR⟩ := hrel
    by_cases hlt : k < n
    · have hlt' : (k : Int) < (n : Int) := by omega
      obtain ⟨g, cap', i, hv', -, hi, hbg, hgl, hrg, -⟩ := hR.atx (k := k) (by omega)
      rw [hvv] at hv'
      simp only [Value.slice.injEq] at hv'
      obtain ⟨rfl, -, rfl⟩ := hv'
      have hld := ld_mid hrg
      have hc := hp.asks k i wr hi hJ
      rcases Bool.eq_false_or_eq_true (p i) with hpi | hpi
      · have hf : S.findIdx? p = some k := by
          rw [List.findIdx?_eq_some_iff_getElem]
          obtain ⟨h1, h2⟩ := List.getElem?_eq_some_iff.1 hi
          refine ⟨h1, by rw [h2]; exact hpi, fun j hj => ?_⟩
          have := hno j hj _ (List.getElem?_eq_getElem (by omega))
          simpa using this
        have HR : Hid (idxI p S = (k : Int) ∧ asked p S = k + 1) := ⟨by unfold idxI; rw [hf], by unfold asked; rw [hf]⟩
        rw [hpi] at hc
        have HRW : Hid (Rw 74 wr base v S) := hR
        clear hno hrow hvv hf hR hrg hJ h0
        go_wp2_with (first | (refine wpList_loadR (ty := 74) (x := .tmp 14) (ad := ⟨g, k * 28, none⟩) (v := .agg (xc i)) rfl rfl rfl hld ?_))
        refine Calls.mono hc ?_
        rintro e w2 ⟨rfl, hJ2, hk2⟩
        have hR2 : Hid (Rw 74 w2 base v S) := Rw.kpt HRW.out hk2
        go_wp2
        go_ret
        exact ⟨by rw [HR.out.1]; rfl, by rw [HR.out.2]; exact hJ2, by rw [← hv]; exact hR2.out⟩
      · rw [hpi] at hc
        have hno' : Hid (∀ j, j < k + 1 → ∀ i, S[j]? = some i → p i = false) := fun j hj x hx => by
          by_cases e : j = k
          · subst e; rw [hi] at hx; cases hx; exact hpi
          · exact hno j (by omega) x hx
        have HRW : Hid (Rw 74 wr base v S) := hR
        clear hno hR hrg hJ h0 hrow
        go_wp2_with (first | (refine wpList_loadR (ty := 74) (x := .tmp 14) (ad := ⟨g, k * 28, none⟩) (v := .agg (xc i)) rfl rfl rfl hld ?_))
        refine Calls.mono hc ?_
        rintro e w2 ⟨rfl, hJ2, hk2⟩
        have hR2 : Hid (Rw 74 w2 base v S) := Rw.kpt HRW.out hk2
        go_wp2
        go_roundw
        case rel => exact ⟨k + 1, by omega, by go_num, hno'.out, hJ2, hR2.out⟩
        case measure => simp [intOf]; omega
    · have hlt' : ¬ (k : Int) < (n : Int) := by omega
      have hf : S.findIdx? p = none := by
        rw [List.findIdx?_eq_none_iff]
        intro x hx
        obtain ⟨j, hj⟩ := List.getElem?_of_mem hx
        exact hno j (by have := (List.getElem?_eq_some_iff.1 hj).1; omega) x hj
      have HR : Hid (idxI p S = -1 ∧ asked p S = k) := ⟨by unfold idxI; rw [hf], by unfold asked; rw [hf]; simp only; omega⟩
      have HRW : Hid (Rw 74 wr base v S) := hR
      clear hno hf hR h0 hrow
      go_wp2
      go_ret
      exact ⟨by rw [HR.out.1]; rfl, by rw [HR.out.2]; exact hJ, by rw [← hv]; exact HRW.out⟩
end Go.Proofs.Ythpkpmcccpfabaa.E
