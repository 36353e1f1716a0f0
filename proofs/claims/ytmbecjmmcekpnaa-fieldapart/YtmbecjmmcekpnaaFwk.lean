/-
  What the laws' same, few and awake come to.
-/
import Derived.Test.YtmbecjmmcekpnaaFrf
namespace Go.Proofs.Ytmbecjmmcekpnaa
set_option maxRecDepth 100000
open Go.RowKit Go.Sort

set_option maxHeartbeats 1000000 in
theorem fsame_yes (a1 a2 : Option Addr) (c1 c2 : Nat) (S : List Pr) (w : World) (h1 : PL w a1 S) (h2 : PL w a2 S) (hm : S.length ≤ 1048576) :
    Calls Try.prog 10 #[.slice a1 S.length c1, .slice a2 S.length c2] w fun e w' => e = .returned (.bool true) ∧ Below w.heap.size w w' := by
  have H1 : Aside (PL w a1 S ∧ PL w a2 S) := ⟨h1, h2⟩
  clear h1 h2
  obtain ⟨m, hmS⟩ : ∃ m, m = S.length := ⟨_, rfl⟩
  have HM : Hid (m = S.length) := hmS
  rw [← hmS] at hm ⊢
  clear hmS
  go_enter Try.func10, Try.ntmps10
  go_wp2_with fail
  go_loopg [13] m (fun kx s13 wr => ∃ k : Nat, s13 = .int .i64 (k : Int) ∧ k ≤ m ∧ m - k ≤ kx ∧ Aside (Below w.heap.size w wr))
  case atStart => exact ⟨0, rfl, Nat.zero_le _, by omega, Below.refl _ _⟩
  case round =>
    obtain ⟨k, rfl, hk, hkx, HB⟩ := hrel
    by_cases hkm : k < m
    · have hkz : (k : Int) < (m : Int) := by omega
      obtain ⟨d, hd⟩ : ∃ d, S[k]? = some d := ⟨_, List.getElem?_eq_getElem (by have := HM.out; omega)⟩
      obtain ⟨g1, rfl, x0, x1⟩ := (H1.out.1.below HB.out (Nat.le_refl _)) k d hd
      obtain ⟨g2, rfl, y0, y1⟩ := (H1.out.2.below HB.out (Nat.le_refl _)) k d hd
      have hix := fun W : World => index_P W (b := g1) (off := 0) (k := k) (m := m) (c := c1) hkm
      have hiy := fun W : World => index_Q W (b := g2) (off := 0) (k := k) (m := m) (c := c2) hkm
      simp only [Nat.zero_add] at hix hiy
      have hpl := plain_Q
      have heq : ∀ W, (Op.equalIn 10000 47 (.agg #[.string (sb d.1), .string (sb d.2)]) (.agg #[.string (sb d.1), .string (sb d.2)])).run Try.prog W = .ok true W := fun W => by
        have := run_equalIn_Q W 9998 d d
        rw [decide_eq_true rfl] at this
        exact this
      have HB2 : Aside (Below w.heap.size w wr.drew) := HB.out.drew
      clear HB hd
      go_wp2_with fail
      go_region
      go_wp2
      go_roundg (m - (k + 1))
      case measure => omega
      case rel => exact ⟨k + 1, by go_num, by omega, Nat.le_refl _, HB2⟩
    · obtain rfl : k = m := by omega
      go_wp2
      go_ret
      exact ⟨rfl, HB.out⟩

set_option maxHeartbeats 1000000 in
theorem few_any (ao : Option Addr) (m c : Nat) (E : List Ev) (w : World) (hE : Evs w ao m c E) :
    Calls Try.prog 7 #[.slice ao m c] w fun e w' => ∃ t : Bool, e = .returned (.bool t) ∧ (t = true → m ≤ 200) ∧ Below w.heap.size w w' := by
  have HE : Aside (Evs w ao m c E) := hE
  clear hE
  by_cases hbig : 200 < m
  · have hz : (200 : Int) < (m : Int) := by omega
    go_enter Try.func7, Try.ntmps7
    go_wp2
    go_ret
    exact ⟨_, rfl, by simp, Below.refl _ _⟩
  · have hz : ¬ (200 : Int) < (m : Int) := by omega
    go_enter Try.func7, Try.ntmps7
    go_wp2
    go_loopg [9] m (fun kx s9 wr => ∃ i : Nat, s9 = .int .i64 i ∧ i ≤ m ∧ m - i ≤ kx ∧ Below w.heap.size w wr)
    case atStart => exact ⟨0, rfl, Nat.zero_le _, by omega, Below.refl _ _⟩
    case round =>
      obtain ⟨i, rfl, him, hkx, hb⟩ := hrel
      by_cases hlt : i < m
      · have hltz : (i : Int) < (m : Int) := by omega
        obtain ⟨b, off, u, rfl, hui, hu, hr, hbl⟩ := (HE.out.below hb (Nat.le_refl _)).at hlt
        have hix := fun W : World => index_ev W (b := b) (off := off) (k := i) (m := m) (c := c) hlt
        have ck := range_field hr hu.1
        have cf := range_value hr hu.1
        have HB : Hid (Below w.heap.size w wr) := hb
        clear hr hb
        obtain ⟨z, hzz⟩ : ∃ z, IntKind.i64.wrap (((sb u.field).size : Int) + ((sb u.value).size : Int)) = z := ⟨_, rfl⟩
        by_cases hg : 1000 < z
        · have hgb : decide (1000 < z) = true := decide_eq_true hg
          go_wp2_with fail
          go_quiet (fail)
          go_wp2
          go_ret
          exact ⟨_, rfl, fun _ => by omega, Below.drewN HB.out nq⟩
        · have hgb : decide (1000 < z) = false := decide_eq_false hg
          go_wp2_with fail
          go_quiet (fail)
          go_wp2
          go_roundg (m - (i + 1))
          case measure => omega
          case rel => exact ⟨i + 1, by go_num, by omega, Nat.le_refl _, Below.drewN HB.out nq⟩
      · have hltz : ¬ (i : Int) < (m : Int) := by omega
        have HB : Hid (Below w.heap.size w wr) := hb
        clear hb
        go_wp2
        go_ret
        exact .inr ⟨rfl, by omega, HB.out⟩

/-- The event that sets f to a. -/
def hstE : Ev := ⟨0, 0, 0, zeros, 5, [], [102], [97], 0, 0, 0⟩
theorem hstE_wide : Wide hstE := ⟨rfl, ⟨by simp [hstE], by simp [hstE], by simp [hstE]⟩⟩
theorem hst_val : valF [hstE] [102] = [97] := by decide +kernel
theorem hst_ok : okF [hstE] [102] = true := by decide +kernel
set_option maxHeartbeats 1000000 in
theorem awake_any (w : World) : Calls Try.prog 6 #[] w fun e w' => e = .returned (.bool true) ∧ Below w.heap.size w w' := by
  have hE0 := evs_single (w.alloc (.cells (evc hstE) 40)) w.heap.size hstE hstE_wide (liesE_new w hstE)
  have h97 : (sb [97]).toList = [97] := by rw [ByteArray.toList_eq, data_sb]
  go_enter Try.func6, Try.ntmps6
  go_wp2_with (refine build_ev1 (u := hstE) rfl rfl rfl rfl ?_)
  refine (fget_any (some ⟨w.heap.size, 0, none⟩) 1 1 [hstE] [102] _ hE0 (by omega)).mono ?_
  rintro e w1 ⟨rfl, hb1⟩
  have HB1 : Hid (Below w.heap.size w w1) := ((Below.refl _ w).alloc (Nat.le_refl _) (.cells (evc hstE) 40)).trans (hb1.mono (by simp))
  rw [hst_val, hst_ok]
  clear hb1 hE0
  go_wp2
  go_ret
  exact ⟨rfl, HB1.out⟩
end Go.Proofs.Ytmbecjmmcekpnaa
