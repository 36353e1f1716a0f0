/-
  What score's Rank comes to.
-/
import Derived.Test.YtmacebekodndjaaZal
namespace Go.Proofs.Ytmacebekodndjaa
set_option maxRecDepth 100000
open Go.RowKit

/-- None of the first ones is this member's. -/
def NoneTo (S : List Pr) (s : List UInt8) (k : Nat) : Prop := ∀ (j : Nat) (x : Pr), j < k → S[j]? = some x → ¬ x.1 = s
theorem noneTo_zero (S : List Pr) (s : List UInt8) : NoneTo S s 0 := fun j x h => by omega
theorem noneTo_succ {S : List Pr} {s : List UInt8} {k : Nat} {d : Pr} (h : NoneTo S s k) (hd : S[k]? = some d) (hn : ¬ d.1 = s) : NoneTo S s (k + 1) := fun j x hj hx => by
  by_cases e : j = k
  · subst e
    rw [hd] at hx
    rw [← Option.some.inj hx]
    exact hn
  · exact h j x (by omega) hx
theorem rkN_at {S : List Pr} {s : List UInt8} {k : Nat} {d : Pr} (h : NoneTo S s k) (hd : S[k]? = some d) (he : d.1 = s) : rkN S s = (k : Int) ∧ rkB S s = true := by
  unfold rkN rkB
  rw [rank_at hd he h]
  exact ⟨rfl, rfl⟩
theorem rkN_no {S : List Pr} {s : List UInt8} {k : Nat} (h : NoneTo S s k) (hk : S.length ≤ k) : rkN S s = 0 ∧ rkB S s = false := by
  unfold rkN rkB
  rw [rank_no (fun j x hx => h j x (by have := (List.getElem?_eq_some_iff.1 hx).1; omega) hx)]
  exact ⟨rfl, rfl⟩
set_option maxHeartbeats 1000000 in
theorem zrank_any (ao : Option Addr) (m c : Nat) (E : List Ev) (s : List UInt8) (w : World) (hE : Evs w ao m c E) (hm : m ≤ 1000) (S : List Pr) (hS : IsAll E S) :
    Calls Try.prog 11 #[.slice ao m c, .string (sb s)] w fun e w' => e = .returned (.tuple #[.int .i64 (rkN S s), .bool (rkB S s)]) ∧ Below w.heap.size w w' := by
  have HSA : Hid (IsAll E S) := hS
  clear hS
  go_enter Try.func11, Try.ntmps11
  go_wp2_with fail
  refine (zall_any ao m c E w hE hm).mono ?_
  rintro e w1 ⟨v1, S1, rfl, hR1, hA1, hl1, hb1⟩
  obtain rfl : S = S1 := isAll_one HSA.out hA1
  obtain ⟨a1, c1, hv1, hP1⟩ := hR1.pl
  have HP : Aside (PL w1 a1 S ∧ Below w.heap.size w w1) := ⟨hP1, hb1⟩
  subst hv1
  obtain ⟨n, hn⟩ : ∃ n, n = S.length := ⟨_, rfl⟩
  have HN : Hid (n = S.length) := hn
  rw [← hn] at hl1 ⊢
  clear hn hR1 hA1 hb1 hP1 hE
  have H0 : Aside (NoneTo S s 0 ∧ Below w1.heap.size w1 w1) := ⟨noneTo_zero S s, Below.refl _ _⟩
  go_wp2
  go_loopg [11] n (fun kx s11 wr => ∃ k : Nat, s11 = .int .i64 (k : Int) ∧ k ≤ n ∧ n - k ≤ kx ∧ Aside (NoneTo S s k ∧ Below w1.heap.size w1 wr))
  case atStart => exact ⟨0, rfl, Nat.zero_le _, by omega, H0⟩
  case round =>
    clear H0
    obtain ⟨k, rfl, hk, hkx, HB⟩ := hrel
    by_cases hkm : k < n
    · have hkz : (k : Int) < (n : Int) := by omega
      obtain ⟨d, hd⟩ : ∃ d, S[k]? = some d := ⟨_, List.getElem?_eq_getElem (by have := HN.out; omega)⟩
      obtain ⟨g1, hg1, x0, x1⟩ := (HP.out.1.below HB.out.2 (Nat.le_refl _)) k d hd
      subst hg1
      have hix := fun W : World => index_P W (b := g1) (off := 0) (k := k) (m := n) (c := c1) hkm
      simp only [Nat.zero_add] at hix
      have hkb := sb_beq d.1 s
      by_cases he : d.1 = s
      · have HR : Hid (rkN S s = (k : Int) ∧ rkB S s = true) := rkN_at HB.out.1 hd he
        have HB2 : Hid (Below w.heap.size w (wr.alloc (Obj.cells #[.string (sb d.1), .int .i64 d.2] 45))) := by
          have h := HP.out.2.trans (HB.out.2.mono HP.out.2.size)
          exact h.alloc h.size _
        rw [decide_eq_true he] at hkb
        clear HB hd he HP
        go_wp2
        go_ret2
        exact ⟨by rw [HR.out.1, HR.out.2]; rfl, HB2.out⟩
      · have HB2 : Aside (NoneTo S s (k + 1) ∧ Below w1.heap.size w1 (wr.alloc (Obj.cells #[.string (sb d.1), .int .i64 d.2] 45))) := ⟨noneTo_succ HB.out.1 hd he, HB.out.2.alloc HB.out.2.size _⟩
        rw [decide_eq_false he] at hkb
        clear hd he HB
        go_wp2
        go_roundg (n - (k + 1))
        case measure => omega
        case rel => exact ⟨k + 1, by go_num, by omega, Nat.le_refl _, HB2⟩
    · obtain rfl : k = n := by omega
      have HR : Hid (rkN S s = 0 ∧ rkB S s = false) := rkN_no HB.out.1 (by have := HN.out; omega)
      have HB2 : Hid (Below w.heap.size w wr) := HP.out.2.trans (HB.out.2.mono HP.out.2.size)
      clear HB HP
      go_wp2
      go_ret2
      exact ⟨by rw [HR.out.1, HR.out.2]; rfl, HB2.out⟩
end Go.Proofs.Ytmacebekodndjaa
