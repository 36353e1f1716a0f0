/-
  Texts: two lists of texts that are alike.
-/
import Derived.Test.YtmnhbkehicpohaaLks
namespace Go.Proofs.Ytmnhbkehicpohaa
set_option maxRecDepth 100000
open Go.RowKit Go.Shelf Go.Sort

/-- A list of texts, as it is read. -/
def TL (w : World) (ao : Option Addr) (S : List (List UInt8)) : Prop := ∀ j t, S[j]? = some t → ∃ g, ao = some ⟨g, 0, none⟩ ∧ w.cell? ⟨g, j, none⟩ = some (.string (sb t))
theorem TRow.tl {w : World} {base : Nat} {v : Value} {S : List (List UInt8)} (h : TRow w base v S) : ∃ ao c, v = .slice ao S.length c ∧ TL w ao S := by
  rcases h.2 with ⟨rfl, h0⟩ | ⟨g, cap, cur, rfl, hb, hg, hnc, hcm, hcs, htake⟩
  · have : S = [] := List.eq_nil_of_length_eq_zero h0
    subst this
    exact ⟨none, 0, rfl, fun j t h => by cases h⟩
  · refine ⟨some ⟨g, 0, none⟩, cap, rfl, fun j t ht => ⟨g, rfl, ?_⟩⟩
    have h1 := h.cells (g := g) rfl j (encStr t) (by rw [List.getElem?_map, ht]; rfl)
    rw [Addr.add_mid, Nat.zero_add] at h1
    exact h1
theorem TL.below {w w' : World} {ao : Option Addr} {S : List (List UInt8)} {B : Nat} (h : TL w ao S) (hb : Below B w w') (hB : w.heap.size ≤ B) : TL w' ao S := fun j t ht => by
  obtain ⟨g, hg, hc⟩ := h j t ht
  exact ⟨g, hg, (hb.cell (Nat.lt_of_lt_of_le (World.block_lt_of_cell? w _ hc) hB)).trans hc⟩
set_option maxHeartbeats 1000000 in
theorem texts_yes (a1 a2 : Option Addr) (c1 c2 : Nat) (S : List (List UInt8)) (w : World) (h1 : TL w a1 S) (h2 : TL w a2 S) (hm : S.length ≤ 1048576) :
    Calls Try.prog 16 #[.slice a1 S.length c1, .slice a2 S.length c2] w fun e w' => e = .returned (.bool true) ∧ Below w.heap.size w w' := by
  have H1 : Aside (TL w a1 S ∧ TL w a2 S) := ⟨h1, h2⟩
  clear h1 h2
  obtain ⟨m, hmS⟩ : ∃ m, m = S.length := ⟨_, rfl⟩
  have HM : Hid (m = S.length) := hmS
  rw [← hmS] at hm ⊢
  clear hmS
  go_enter Try.func16, Try.ntmps16
  go_wp2_with fail
  go_loopg [13] m (fun kx s13 wr => ∃ k : Nat, s13 = .int .i64 (k : Int) ∧ k ≤ m ∧ m - k ≤ kx ∧ Aside (Below w.heap.size w wr))
  case atStart => exact ⟨0, rfl, Nat.zero_le _, by omega, Below.refl _ _⟩
  case round =>
    obtain ⟨k, rfl, hk, hkx, HB⟩ := hrel
    by_cases hkm : k < m
    · have hkz : (k : Int) < (m : Int) := by omega
      obtain ⟨t, ht⟩ : ∃ t, S[k]? = some t := ⟨_, List.getElem?_eq_getElem (by have := HM.out; omega)⟩
      obtain ⟨g1, rfl, d1⟩ := (H1.out.1.below HB.out (Nat.le_refl _)) k t ht
      obtain ⟨g2, rfl, d2⟩ := (H1.out.2.below HB.out (Nat.le_refl _)) k t ht
      go_upto_region 6 with (fail)
      go_quiet (fail)
      go_wp2
      go_roundg (m - (k + 1))
      case measure => omega
      case rel => exact ⟨k + 1, by go_num, by omega, Nat.le_refl _, Below.drewN HB.out _⟩
    · obtain rfl : k = m := by omega
      go_wp2
      go_ret
      exact ⟨rfl, HB.out⟩
end Go.Proofs.Ytmnhbkehicpohaa
