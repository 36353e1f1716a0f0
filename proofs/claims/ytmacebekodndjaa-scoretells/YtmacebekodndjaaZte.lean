/-
  ScoreTells: the walk.
-/
import Derived.Test.YtmacebekodndjaaZra
import Derived.Test.YtmacebekodndjaaZrk
namespace Go.Proofs.Ytmacebekodndjaa
set_option maxRecDepth 100000
open Go.RowKit

set_option maxHeartbeats 1000000 in
theorem rzrank_any (ao : Option Addr) (m c : Nat) (E : List Ev) (s : List UInt8) (w : World) (hE : Evs w ao m c E) (hm : m ≤ 1000) (S : List Pr) (hS : IsAll E S) :
    Calls Try.prog 12 #[.slice ao m c, .string (sb s)] w fun e w' => e = .returned (.tuple #[.int .i64 (rkN S s), .bool (rkB S s)]) ∧ Below w.heap.size w w' := by
  have HSA : Hid (IsAll E S) := hS
  clear hS
  go_enter Try.func12, Try.ntmps12
  go_wp2_with fail
  refine (rzall_any ao m c E w hE hm).mono ?_
  rintro e w1 ⟨v1, S1, rfl, hR1, hA1, hl1, hb1⟩
  obtain rfl : S = S1 := isAll_one HSA.out hA1
  obtain ⟨a1, c1, hv1, hP1⟩ := hR1.pl
  have HP : Aside (PL w1 a1 S ∧ Below w.heap.size w w1) := ⟨hP1, hb1⟩
  subst hv1
  obtain ⟨n, hn⟩ : ∃ n, n = S.length := ⟨_, rfl⟩
  have HN : Hid (n = S.length) := hn
  rw [← hn] at hl1 ⊢
  clear hn hR1 hA1 hb1 hP1 hE
  have H0 : Aside (NoneTo S s 0 ∧ Below w1.heap.size w1 w1) := ⟨noneTo_zero S s, Below.refl _ _⟩
  go_wp2
  go_loopg [12] n (fun kx s12 wr => ∃ k : Nat, s12 = .int .i64 (k : Int) ∧ k ≤ n ∧ n - k ≤ kx ∧ Aside (NoneTo S s k ∧ Below w1.heap.size w1 wr))
  case atStart => exact ⟨0, rfl, Nat.zero_le _, by omega, H0⟩
  case round =>
    clear H0
    obtain ⟨k, rfl, hk, hkx, HB⟩ := hrel
    by_cases hkm : k < n
    · have hkz : (k : Int) < (n : Int) := by omega
      obtain ⟨d, hd⟩ : ∃ d, S[k]? = some d := ⟨_, List.getElem?_eq_getElem (by have := HN.out; omega)⟩
      obtain ⟨g1, hg1, x0, x1⟩ := (HP.out.1.below HB.out.2 (Nat.le_refl _)) k d hd
      subst hg1
      have hix := fun W : World => index_Q W (b := g1) (off := 0) (k := k) (m := n) (c := c1) hkm
      simp only [Nat.zero_add] at hix
      have hkb := sb_beq d.1 s
      by_cases he : d.1 = s
      · have HR : Hid (rkN S s = (k : Int) ∧ rkB S s = true) := rkN_at HB.out.1 hd he
        have HB2 : Hid (Below w.heap.size w wr) := HP.out.2.trans (HB.out.2.mono HP.out.2.size)
        rw [decide_eq_true he] at hkb
        clear HB hd he HP
        go_wp2
        go_ret2
        exact ⟨by rw [HR.out.1, HR.out.2]; rfl, HB2.out⟩
      · have HB2 : Aside (NoneTo S s (k + 1) ∧ Below w1.heap.size w1 wr) := ⟨noneTo_succ HB.out.1 hd he, HB.out.2⟩
        rw [decide_eq_false he] at hkb
        clear hd he HB
        go_wp2
        go_roundg (n - (k + 1))
        case measure => omega
        case rel => exact ⟨k + 1, by go_num, by omega, Nat.le_refl _, HB2⟩
    · obtain rfl : k = n := by omega
      have HR : Hid (rkN S s = 0 ∧ rkB S s = false) := rkN_no HB.out.1 (by have := HN.out; omega)
      have HB2 : Hid (Below w.heap.size w wr) := HP.out.2.trans (HB.out.2.mono HP.out.2.size)
      clear HB HP
      go_wp2
      go_ret2
      exact ⟨by rw [HR.out.1, HR.out.2]; rfl, HB2.out⟩
/-- There is what All tells. -/
theorem isAll_any (E : List Ev) : ∃ S, IsAll E S := by
  have key : ∀ i, i ≤ E.length → ∃ S : List Pr, PartAll E i S := fun i => by
    induction i with
    | zero => exact fun _ => ⟨[], part_zero E⟩
    | succ i ih =>
      intro hi
      obtain ⟨S, hS⟩ := ih (by omega)
      have hu : E[i]? = some (E[i]'(by omega)) := List.getElem?_eq_getElem (by omega)
      generalize E[i]'(by omega) = u at hu
      cases hz : zsE u with
      | false => exact ⟨S, part_pass hS hu hz⟩
      | true =>
        by_cases hk : (u.field, numZ E u.field) ∈ S
        · exact ⟨S, part_known hS hu hz hk⟩
        · have hat : ∀ k, ∃ a, AtTo S (u.field, numZ E u.field) k a := fun k => by
            induction k with
            | zero => exact ⟨0, atTo_zero _ _⟩
            | succ k ih2 =>
              obtain ⟨a, ha⟩ := ih2
              cases hd : S[k]? with
              | none => exact ⟨a, by have := ha.1; omega, ha.2.1, fun j x h1 h2 hx => by
                  by_cases e : j = k
                  · subst e; rw [hd] at hx; cases hx
                  · exact ha.2.2 j x h1 (by omega) hx⟩
              | some d =>
                by_cases hb : Bef d (u.field, numZ E u.field)
                · exact ⟨k + 1, atTo_yes ha hd hb⟩
                · exact ⟨a, atTo_no ha hd hb⟩
          obtain ⟨a, ha⟩ := hat S.length
          exact ⟨_, part_new hS hu hz rfl ha hk⟩
  obtain ⟨S, h1, h2, h3⟩ := key E.length (Nat.le_refl _)
  rw [List.take_of_length_le (Nat.le_refl _)] at h2
  exact ⟨S, h1, h2⟩
set_option maxHeartbeats 2000000 in
theorem ztells_walk (ao : Option Addr) (m c : Nat) (E : List Ev) (s : List UInt8) (w : World) (hE : Evs w ao m c E) (hs : s.length ≤ 9223372036854775807) :
    Calls Try.prog 3 #[.slice ao m c, .string (sb s)] w fun e w' => e = .returned (.bool true) ∧ Below w.heap.size w w' := by
  have HE : Aside (Evs w ao m c E) := hE
  obtain ⟨S, hS⟩ := isAll_any E
  have HSA : Hid (IsAll E S) := hS
  clear hE hS
  go_enter Try.func3, Try.ntmps3
  go_wp2_with fail
  refine (awake_any w).mono ?_
  rintro e w1 ⟨rfl, hb1⟩
  have HE1 : Aside (Evs w1 ao m c E ∧ Below w.heap.size w w1) := ⟨HE.out.below hb1 (Nat.le_refl _), hb1⟩
  clear hb1 HE
  go_wp2_with fail
  refine (few_any ao m c E w1 HE1.out.1).mono ?_
  rintro e w2 ⟨t, rfl, ht, hb2⟩
  have HE2 : Aside (Evs w2 ao m c E ∧ Below w.heap.size w w2) := ⟨HE1.out.1.below hb2 (Nat.le_refl _), HE1.out.2.trans (hb2.mono HE1.out.2.size)⟩
  clear hb2 HE1
  cases t with
  | false =>
    clear ht
    go_wp2_with fail
    refine (awake_any w2).mono ?_
    rintro e w3 ⟨rfl, hb3⟩
    have HB3 : Hid (Below w.heap.size w w3) := HE2.out.2.trans (hb3.mono HE2.out.2.size)
    clear hb3 HE2
    go_wp2
    go_ret
    exact ⟨rfl, HB3.out⟩
  | true =>
    have hm : m ≤ 150 := ht rfl
    clear ht
    go_wp2_with fail
    refine (zget_any ao m c E s w2 HE2.out.1 (by omega) hs).mono ?_
    rintro e w3 ⟨rfl, hb3⟩
    have HE3 : Aside (Evs w3 ao m c E ∧ Below w.heap.size w w3) := ⟨HE2.out.1.below hb3 (Nat.le_refl _), HE2.out.2.trans (hb3.mono HE2.out.2.size)⟩
    clear hb3 HE2
    go_wp2_with fail
    refine (rzget_any ao m c E s w3 HE3.out.1 (by omega)).mono ?_
    rintro e w4 ⟨rfl, hb4⟩
    have HE4 : Aside (Evs w4 ao m c E ∧ Below w.heap.size w w4) := ⟨HE3.out.1.below hb4 (Nat.le_refl _), HE3.out.2.trans (hb4.mono HE3.out.2.size)⟩
    clear hb4 HE3
    generalize numZ E s = y at *
    generalize okZ E s = q at *
    go_wp2_with fail
    refine (zrank_any ao m c E s w4 HE4.out.1 (by omega) S HSA.out).mono ?_
    rintro e w5 ⟨rfl, hb5⟩
    have HE5 : Aside (Evs w5 ao m c E ∧ Below w.heap.size w w5) := ⟨HE4.out.1.below hb5 (Nat.le_refl _), HE4.out.2.trans (hb5.mono HE4.out.2.size)⟩
    clear hb5 HE4
    go_wp2_with fail
    refine (rzrank_any ao m c E s w5 HE5.out.1 (by omega) S HSA.out).mono ?_
    rintro e w6 ⟨rfl, hb6⟩
    have HE6 : Aside (Evs w6 ao m c E ∧ Below w.heap.size w w6) := ⟨HE5.out.1.below hb6 (Nat.le_refl _), HE5.out.2.trans (hb6.mono HE5.out.2.size)⟩
    clear hb6 HE5
    generalize rkN S s = z at *
    generalize rkB S s = t at *
    go_wp2_with fail
    refine (zall_any ao m c E w6 HE6.out.1 (by omega)).mono ?_
    rintro e w7 ⟨v7, S7, rfl, hR7, hA7, hl7, hb7⟩
    obtain rfl : S = S7 := isAll_one HSA.out hA7
    have HE7 : Aside (Evs w7 ao m c E ∧ Below w.heap.size w w7 ∧ PRow w7 w6.heap.size v7 S) := ⟨HE6.out.1.below hb7 (Nat.le_refl _), HE6.out.2.trans (hb7.mono HE6.out.2.size), hR7⟩
    clear hb7 HE6 hR7 hA7
    go_wp2_with fail
    refine (rzall_any ao m c E w7 HE7.out.1 (by omega)).mono ?_
    rintro e w8 ⟨v8, S8, rfl, hR8, hA8, hl8, hb8⟩
    obtain rfl : S = S8 := isAll_one HSA.out hA8
    obtain ⟨a5, c5, hv5, hL5⟩ := (HE7.out.2.2.below hb8 (Nat.le_refl _)).pl
    obtain ⟨a6, c6, hv6, hL6⟩ := hR8.pl
    have HB8 : Hid (Below w.heap.size w w8) := HE7.out.2.1.trans (hb8.mono HE7.out.2.1.size)
    subst hv5 hv6
    clear hb8 HE7 hR8 hA8
    go_wp2_with fail
    refine (zsame_yes a5 a6 c5 c6 S w8 hL5 hL6 (by omega)).mono ?_
    rintro e w9 ⟨rfl, hb9⟩
    have HB9 : Hid (Below w.heap.size w w9) := HB8.out.trans (hb9.mono HB8.out.size)
    clear hb9 HB8 hL5 hL6
    go_wp2
    go_ret
    exact ⟨rfl, HB9.out⟩
end Go.Proofs.Ytmacebekodndjaa
