/-
  FieldTells: the walk.
-/
import Derived.Test.YtmbecjmmcekpnaaFwk
namespace Go.Proofs.Ytmbecjmmcekpnaa
set_option maxRecDepth 100000
open Go.RowKit Go.Sort

set_option maxHeartbeats 2000000 in
theorem ftells_walk (ao : Option Addr) (m c : Nat) (E : List Ev) (s : List UInt8) (w : World) (hE : Evs w ao m c E) :
    Calls Try.prog 3 #[.slice ao m c, .string (sb s)] w fun e w' => e = .returned (.bool true) ∧ Below w.heap.size w w' := by
  have HE : Aside (Evs w ao m c E) := hE
  clear hE
  go_enter Try.func3, Try.ntmps3
  go_wp2_with fail
  refine (awake_any w).mono ?_
  rintro e w1 ⟨rfl, hb1⟩
  have HE1 : Aside (Evs w1 ao m c E ∧ Below w.heap.size w w1) := ⟨HE.out.below hb1 (Nat.le_refl _), hb1⟩
  clear hb1 HE
  go_wp2_with fail
  refine (few_any ao m c E w1 HE1.out.1).mono ?_
  rintro e w2 ⟨t, rfl, ht, hb2⟩
  have HE2 : Aside (Evs w2 ao m c E ∧ Below w.heap.size w w2) := ⟨HE1.out.1.below hb2 (Nat.le_refl _), HE1.out.2.trans (hb2.mono HE1.out.2.size)⟩
  clear hb2 HE1
  cases t with
  | false =>
    clear ht
    go_wp2_with fail
    refine (awake_any w2).mono ?_
    rintro e w3 ⟨rfl, hb3⟩
    have HB3 : Hid (Below w.heap.size w w3) := HE2.out.2.trans (hb3.mono HE2.out.2.size)
    clear hb3 HE2
    go_wp2
    go_ret
    exact ⟨rfl, HB3.out⟩
  | true =>
    have hm : m ≤ 200 := ht rfl
    clear ht
    go_wp2_with fail
    refine (fget_any ao m c E s w2 HE2.out.1 (by omega)).mono ?_
    rintro e w3 ⟨rfl, hb3⟩
    have HE3 : Aside (Evs w3 ao m c E ∧ Below w.heap.size w w3) := ⟨HE2.out.1.below hb3 (Nat.le_refl _), HE2.out.2.trans (hb3.mono HE2.out.2.size)⟩
    clear hb3 HE2
    go_wp2_with fail
    refine (rfget_any ao m c E s w3 HE3.out.1 (by omega)).mono ?_
    rintro e w4 ⟨rfl, hb4⟩
    have HE4 : Aside (Evs w4 ao m c E ∧ Below w.heap.size w w4) := ⟨HE3.out.1.below hb4 (Nat.le_refl _), HE3.out.2.trans (hb4.mono HE3.out.2.size)⟩
    clear hb4 HE3
    generalize valF E s = y at *
    generalize okF E s = q at *
    have hyb := sb_beq y y
    rw [decide_eq_true rfl] at hyb
    go_wp2_with fail
    refine (fall_any ao m c E w4 HE4.out.1 (by omega)).mono ?_
    rintro e w5 ⟨v5, R5, rfl, hR5, hs5, hm5, hl5, hb5⟩
    have HE5 : Aside (Evs w5 ao m c E ∧ Below w.heap.size w w5 ∧ PRow w5 w4.heap.size v5 (R5.map (pairF E))) := ⟨HE4.out.1.below hb5 (Nat.le_refl _), HE4.out.2.trans (hb5.mono HE4.out.2.size), hR5⟩
    have H5 : Hid (R5.Pairwise (· < ·) ∧ ∀ z, z ∈ R5 ↔ z ∈ fldF E) := ⟨hs5, hm5⟩
    clear hb5 HE4 hR5 hs5 hm5
    go_wp2_with fail
    refine (rfall_any ao m c E w5 HE5.out.1 (by omega)).mono ?_
    rintro e w6 ⟨v6, R6, rfl, hR6, hs6, hm6, hl6, hb6⟩
    obtain rfl : R5 = R6 := strict_one _ _ H5.out.1 hs6 (fun z => by rw [H5.out.2, hm6])
    obtain ⟨a5, c5, hv5, hL5⟩ := (HE5.out.2.2.below hb6 (Nat.le_refl _)).pl
    obtain ⟨a6, c6, hv6, hL6⟩ := hR6.pl
    have HB6 : Hid (Below w.heap.size w w6) := HE5.out.2.1.trans (hb6.mono HE5.out.2.1.size)
    have hlS : (R5.map (pairF E)).length ≤ 1048576 := by rw [List.length_map]; omega
    subst hv5 hv6
    clear hb6 HE5 hR6 hs6 hm6 H5
    generalize R5.map (pairF E) = S at *
    go_wp2_with fail
    refine (fsame_yes a5 a6 c5 c6 S w6 hL5 hL6 hlS).mono ?_
    rintro e w7 ⟨rfl, hb7⟩
    have HB7 : Hid (Below w.heap.size w w7) := HB6.out.trans (hb7.mono HB6.out.size)
    clear hb7 HB6 hL5 hL6
    go_wp2
    go_ret
    exact ⟨rfl, HB7.out⟩
end Go.Proofs.Ytmbecjmmcekpnaa
