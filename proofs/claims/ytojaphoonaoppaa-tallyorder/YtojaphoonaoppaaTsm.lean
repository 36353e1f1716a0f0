/-
  What tally's adds, isReplica, isWithin, Sum and Check come to, and the reference's One, Sum, Of and Check.
-/
import Derived.Test.YtojaphoonaoppaaTpu
import Derived.Lib.MinMax
namespace Go.Proofs.Ytojaphoonaoppaa
set_option maxRecDepth 100000
open Go.RowKit

theorem LiesE.c23 {w : World} {g : Nat} {e : Ev} (h : LiesE w g e) (hl : e.deps.length = 16) : w.cell? ⟨g, 23, none⟩ = some (.int .i64 e.num) := h.co hl 4
set_option maxHeartbeats 400000 in
theorem adds_any (u : Ev) (w : World) : Calls Try.prog 15 #[.agg (opc u)] w fun e w' => e = .returned (.int .i64 (oneE u)) ∧ Below w.heap.size w w' := by
  have HB : Hid (Below w.heap.size w (w.alloc (.cells (opc u) 35))) := (Below.refl _ w).alloc (Nat.le_refl _) _
  have c0 := (liesO_new w u).c0
  have c4 := (liesO_new w u).c4
  by_cases hk : u.kind = 2
  · rw [oneE_is hk]
    rw [hk] at c0
    clear hk
    go_enter Try.func15, Try.ntmps15
    go_wp2
    go_ret
    exact ⟨rfl, HB.out⟩
  · rw [oneE_not hk]
    go_enter Try.func15, Try.ntmps15
    go_wp2
    go_ret
    exact ⟨rfl, HB.out⟩
set_option maxHeartbeats 400000 in
theorem rone_any (u : Ev) (hl : u.deps.length = 16) (w : World) : Calls Try.prog 16 #[.agg (evc u)] w fun e w' => e = .returned (.int .i64 (oneE u)) ∧ Below w.heap.size w w' := by
  have HB : Hid (Below w.heap.size w (w.alloc (.cells (evc u) 37))) := (Below.refl _ w).alloc (Nat.le_refl _) _
  have c0 := (liesE_new w u).c19 hl
  have c4 := (liesE_new w u).c23 hl
  by_cases hk : u.kind = 2
  · rw [oneE_is hk]
    rw [hk] at c0
    clear hk
    go_enter Try.func16, Try.ntmps16
    go_wp2
    go_ret
    exact ⟨rfl, HB.out⟩
  · rw [oneE_not hk]
    go_enter Try.func16, Try.ntmps16
    go_wp2
    go_ret
    exact ⟨rfl, HB.out⟩
theorem tisrep_any (r : Int) (w : World) : Calls Try.prog 14 #[.int .i64 r] w fun e w' => e = .returned (.bool (decide (0 ≤ r ∧ r < 16))) ∧ w' = w := by
  by_cases h1 : 0 ≤ r
  · by_cases h2 : r < 16
    · rw [decide_eq_true ⟨h1, h2⟩]
      go_enter Try.func14, Try.ntmps14
      go_wp2
      go_ret
      exact ⟨rfl, rfl⟩
    · rw [decide_eq_false (fun h => h2 h.2)]
      go_enter Try.func14, Try.ntmps14
      go_wp2
      go_ret
      exact ⟨rfl, rfl⟩
  · rw [decide_eq_false (fun h => h1 h.1)]
    go_enter Try.func14, Try.ntmps14
    go_wp2
    go_ret
    exact ⟨rfl, rfl⟩
theorem twithin_any (n k : Int) (hk : 0 ≤ k) (hk2 : k ≤ 1125899906842624) (w : World) : Calls Try.prog 17 #[.int .i64 n, .int .i64 k] w fun e w' => e = .returned (.bool (decide (-k ≤ n ∧ n ≤ k))) ∧ w' = w := by
  by_cases h1 : -k ≤ n
  · by_cases h2 : n ≤ k
    · rw [decide_eq_true ⟨h1, h2⟩]
      go_enter Try.func17, Try.ntmps17
      go_wp2
      go_ret
      exact ⟨rfl, rfl⟩
    · rw [decide_eq_false (fun h => h2 h.2)]
      go_enter Try.func17, Try.ntmps17
      go_wp2
      go_ret
      exact ⟨rfl, rfl⟩
  · rw [decide_eq_false (fun h => h1 h.1)]
    go_enter Try.func17, Try.ntmps17
    go_wp2
    go_ret
    exact ⟨rfl, rfl⟩

/-! The program's Sum. -/
set_option maxHeartbeats 1000000 in
theorem tsum_any (ao : Option Addr) (m c : Nat) (E : List Ev) (w : World) (hE : Evs w ao m c E) (hm : m ≤ 5000) :
    Calls Try.prog 10 #[.slice ao m c] w fun e w' => e = .returned (.int .i64 (sumE E)) ∧ Below w.heap.size w w' := by
  have hlen := hE.len
  have HE : Aside (Evs w ao m c E) := hE
  have H0 : Hid (Below w.heap.size w w) := Below.refl _ _
  clear hE
  go_enter Try.func10, Try.ntmps10
  go_wp2
  go_loopg [3, 8] m (fun kx s3 s8 wr => ∃ i : Nat, s8 = .int .i64 i ∧ s3 = .int .i64 (sumE (E.take i)) ∧ i ≤ m ∧ m - i ≤ kx ∧ Hid (Below w.heap.size w wr))
  case atStart => exact ⟨0, rfl, rfl, Nat.zero_le _, by omega, H0⟩
  case round =>
    clear H0
    obtain ⟨i, rfl, rfl, him, hkx, HS⟩ := hrel
    by_cases hlt : i < m
    · have hltz : (i : Int) < (m : Int) := by omega
      obtain ⟨b, off, u, rfl, hui, hu, hr, hbl⟩ := (HE.out.below HS.out (Nat.le_refl _)).at hlt
      have hu16 := hu.1
      have hix := fun W : World => index_ev W (b := b) (off := off) (k := i) (m := m) (c := c) hlt
      have hz := liesE_new wr zv
      have hB1 : Below wr.heap.size wr ((wr.alloc (.cells (evc zv) 37)).setRow wr.heap.size (evc u)) := below_setRow ((Below.refl _ _).alloc (Nat.le_refl _) _) (Nat.le_refl _) _
      have HS1 : Aside (LiesE ((wr.alloc (.cells (evc zv) 37)).setRow wr.heap.size (evc u)) wr.heap.size u ∧ Below w.heap.size w ((wr.alloc (.cells (evc zv) 37)).setRow wr.heap.size (evc u))) := ⟨hz.row u, HS.out.trans (hB1.mono HS.out.size)⟩
      have HSN : Hid (sumE (E.take (i + 1)) = sumE (E.take i) + oneE u) := sumE_take hui
      have hs := sumE_bound (E.take i)
      have hsl : (E.take i).length ≤ 5000 := by rw [List.length_take]; omega
      have hs1 : -5497558138880000 ≤ sumE (E.take i) := by omega
      have hs2 : sumE (E.take i) ≤ 5497558138880000 := by omega
      have ho1 := oneE_lo u
      have ho2 := oneE_hi u
      clear hB1 hs hsl HS
      generalize sumE (E.take i) = s at *
      go_upto_region 5 with (first | refine load_ev_mid rfl rfl rfl hr hu16 ?_ | refine store_ev rfl rfl rfl rfl hz hu16 rfl ?_)
      change Code.wp _ _ _ _ ((wr.alloc (.cells (evc zv) 37)).setRow wr.heap.size (evc u))
      clear hz hr hix hbl
      generalize (wr.alloc (.cells (evc zv) 37)).setRow wr.heap.size (evc u) = W at HS1 ⊢
      generalize wr.heap.size = D at *
      have hL := HS1.out.1.op hu16
      go_wp2_with (refine load_op_at rfl rfl rfl hL ?_)
      refine (adds_any u W).mono ?_
      rintro e w2 ⟨rfl, hb2⟩
      have HS2 : Hid (Below w.heap.size w w2) := HS1.out.2.trans (hb2.mono HS1.out.2.size)
      clear hb2 HS1 hL
      generalize oneE u = o at *
      go_wp2
      go_roundg (m - (i + 1))
      case measure => omega
      case rel => exact ⟨i + 1, by go_num, by rw [HSN.out], by omega, Nat.le_refl _, HS2⟩
    · obtain rfl : i = m := by omega
      have eT : E.take i = E := List.take_of_length_le (by omega)
      rw [eT]
      clear eT
      go_wp2
      go_ret
      exact ⟨rfl, HS.out⟩

/-! The reference's Sum and Of. -/
set_option maxHeartbeats 1000000 in
theorem rsum_any (ao : Option Addr) (m c : Nat) (E : List Ev) (w : World) (hE : Evs w ao m c E) (hm : m ≤ 5000) :
    Calls Try.prog 11 #[.slice ao m c] w fun e w' => e = .returned (.int .i64 (sumE E)) ∧ Below w.heap.size w w' := by
  have hlen := hE.len
  have HE : Aside (Evs w ao m c E) := hE
  have H0 : Hid (Below w.heap.size w w) := Below.refl _ _
  clear hE
  go_enter Try.func11, Try.ntmps11
  go_wp2
  go_loopg [3, 7] m (fun kx s3 s7 wr => ∃ i : Nat, s7 = .int .i64 i ∧ s3 = .int .i64 (sumE (E.take i)) ∧ i ≤ m ∧ m - i ≤ kx ∧ Hid (Below w.heap.size w wr))
  case atStart => exact ⟨0, rfl, rfl, Nat.zero_le _, by omega, H0⟩
  case round =>
    clear H0
    obtain ⟨i, rfl, rfl, him, hkx, HS⟩ := hrel
    by_cases hlt : i < m
    · have hltz : (i : Int) < (m : Int) := by omega
      obtain ⟨b, off, u, rfl, hui, hu, hr, hbl⟩ := (HE.out.below HS.out (Nat.le_refl _)).at hlt
      have hu16 := hu.1
      have hix := fun W : World => index_ev W (b := b) (off := off) (k := i) (m := m) (c := c) hlt
      have HSN : Hid (sumE (E.take (i + 1)) = sumE (E.take i) + oneE u) := sumE_take hui
      have hs := sumE_bound (E.take i)
      have hsl : (E.take i).length ≤ 5000 := by rw [List.length_take]; omega
      have hs1 : -5497558138880000 ≤ sumE (E.take i) := by omega
      have hs2 : sumE (E.take i) ≤ 5497558138880000 := by omega
      have ho1 := oneE_lo u
      have ho2 := oneE_hi u
      clear hs hsl hbl
      generalize sumE (E.take i) = s at *
      go_wp2_with (refine load_ev_mid rfl rfl rfl hr hu16 ?_)
      refine (rone_any u hu16 wr).mono ?_
      rintro e w2 ⟨rfl, hb2⟩
      have HS2 : Hid (Below w.heap.size w w2) := HS.out.trans (hb2.mono HS.out.size)
      clear hb2 HS hr hix
      generalize oneE u = o at *
      go_wp2
      go_roundg (m - (i + 1))
      case measure => omega
      case rel => exact ⟨i + 1, by go_num, by rw [HSN.out], by omega, Nat.le_refl _, HS2⟩
    · obtain rfl : i = m := by omega
      have eT : E.take i = E := List.take_of_length_le (by omega)
      rw [eT]
      clear eT
      go_wp2
      go_ret
      exact ⟨rfl, HS.out⟩
set_option maxHeartbeats 1000000 in
theorem rof_any (ao : Option Addr) (m c : Nat) (E : List Ev) (r : Int) (w : World) (hE : Evs w ao m c E) (hm : m ≤ 5000) :
    Calls Try.prog 9 #[.slice ao m c, .int .i64 r] w fun e w' => e = .returned (.int .i64 (ofE r E)) ∧ Below w.heap.size w w' := by
  have hlen := hE.len
  have HE : Aside (Evs w ao m c E) := hE
  have H0 : Hid (Below w.heap.size w w) := Below.refl _ _
  clear hE
  go_enter Try.func9, Try.ntmps9
  go_wp2
  go_loopg [5, 9] m (fun kx s5 s9 wr => ∃ i : Nat, s9 = .int .i64 i ∧ s5 = .int .i64 (ofE r (E.take i)) ∧ i ≤ m ∧ m - i ≤ kx ∧ Hid (Below w.heap.size w wr))
  case atStart => exact ⟨0, rfl, rfl, Nat.zero_le _, by omega, H0⟩
  case round =>
    clear H0
    obtain ⟨i, rfl, rfl, him, hkx, HS⟩ := hrel
    by_cases hlt : i < m
    · have hltz : (i : Int) < (m : Int) := by omega
      obtain ⟨b, off, u, rfl, hui, hu, hr, hbl⟩ := (HE.out.below HS.out (Nat.le_refl _)).at hlt
      have hu16 := hu.1
      have hix := fun W : World => index_ev W (b := b) (off := off) (k := i) (m := m) (c := c) hlt
      have c0 : wr.cell? ⟨b, off + i * 26, none⟩ = some (.int .i64 u.r) := hr 0 _ rfl
      have HSN : Hid (ofE r (E.take (i + 1)) = ofE r (E.take i) + (if u.r = r then oneE u else 0)) := ofE_take hui
      have hs := ofE_bound r (E.take i)
      have hsl : (E.take i).length ≤ 5000 := by rw [List.length_take]; omega
      have hs1 : -5497558138880000 ≤ ofE r (E.take i) := by omega
      have hs2 : ofE r (E.take i) ≤ 5497558138880000 := by omega
      have ho1 := oneE_lo u
      have ho2 := oneE_hi u
      clear hs hsl hbl
      generalize ofE r (E.take i) = s at *
      by_cases hq : u.r = r
      · have HSN2 : Hid (ofE r (E.take (i + 1)) = s + oneE u) := by show _ = _; rw [HSN.out, if_pos hq]
        clear HSN
        rw [hq] at c0
        clear hq
        go_wp2_with (refine load_ev_mid rfl rfl rfl hr hu16 ?_)
        refine (rone_any u hu16 wr).mono ?_
        rintro e w2 ⟨rfl, hb2⟩
        have HS2 : Hid (Below w.heap.size w w2) := HS.out.trans (hb2.mono HS.out.size)
        clear hb2 HS hr hix c0
        generalize oneE u = o at *
        go_wp2
        go_roundg (m - (i + 1))
        case measure => omega
        case rel => exact ⟨i + 1, by go_num, by rw [HSN2.out], by omega, Nat.le_refl _, HS2⟩
      · have HSN2 : Hid (ofE r (E.take (i + 1)) = s) := by show _ = _; rw [HSN.out, if_neg hq]; omega
        clear HSN
        go_wp2
        go_roundg (m - (i + 1))
        case measure => omega
        case rel => exact ⟨i + 1, by go_num, by rw [HSN2.out], by omega, Nat.le_refl _, HS⟩
    · obtain rfl : i = m := by omega
      have eT : E.take i = E := List.take_of_length_le (by omega)
      rw [eT]
      clear eT
      go_wp2
      go_ret
      exact ⟨rfl, HS.out⟩

/-! Check. -/
theorem checkE_far {E : List Ev} {n : Int} (h : ¬ (-1099511627776 ≤ n ∧ n ≤ 1099511627776)) : checkE E n = 6 := by rw [checkE, if_neg (fun k => h k.1)]
theorem checkE_over {E : List Ev} {n : Int} (h : ¬ (-1125899906842624 ≤ sumE E + n ∧ sumE E + n ≤ 1125899906842624)) : checkE E n = 6 := by rw [checkE, if_neg (fun k => h k.2)]
theorem checkE_ok {E : List Ev} {n : Int} (h1 : -1099511627776 ≤ n ∧ n ≤ 1099511627776) (h2 : -1125899906842624 ≤ sumE E + n ∧ sumE E + n ≤ 1125899906842624) : checkE E n = 0 := by rw [checkE, if_pos ⟨h1, h2⟩]
set_option maxHeartbeats 1000000 in
theorem tcheck_any (ao : Option Addr) (m c : Nat) (E : List Ev) (n : Int) (w : World) (hE : Evs w ao m c E) (hm : m ≤ 5000) :
    Calls Try.prog 12 #[.slice ao m c, .int .i64 n] w fun e w' => e = .returned (.int .i64 (checkE E n)) ∧ Below w.heap.size w w' := by
  have hlen := hE.len
  by_cases h1 : -1099511627776 ≤ n ∧ n ≤ 1099511627776
  · have hd := decide_eq_true h1
    obtain ⟨n1, n2⟩ := h1
    have hs := sumE_bound E
    have hs1 : -5497558138880000 ≤ sumE E := by omega
    have hs2 : sumE E ≤ 5497558138880000 := by omega
    clear hs
    go_enter Try.func12, Try.ntmps12
    go_wp2_with fail
    refine (twithin_any n 1099511627776 (by omega) (by omega) w).mono ?_
    rintro e w1 ⟨rfl, rfl⟩
    rw [hd]
    clear hd
    go_wp2_with fail
    refine (tsum_any ao m c E w1 hE hm).mono ?_
    rintro e w2 ⟨rfl, hb2⟩
    have HB2 : Hid (Below w1.heap.size w1 w2) := hb2
    clear hb2 hE
    go_wp2_with fail
    refine (twithin_any (sumE E + n) 1125899906842624 (by omega) (by omega) w2).mono ?_
    rintro e w3 ⟨rfl, rfl⟩
    by_cases h2 : -1125899906842624 ≤ sumE E + n ∧ sumE E + n ≤ 1125899906842624
    · have HC : Hid (checkE E n = 0) := checkE_ok ⟨n1, n2⟩ h2
      rw [decide_eq_true h2]
      clear hs1 hs2 h2
      go_wp2
      go_ret
      exact ⟨by rw [HC.out]; rfl, HB2.out⟩
    · have HC : Hid (checkE E n = 6) := checkE_over h2
      rw [decide_eq_false h2]
      clear hs1 hs2 h2
      go_wp2
      go_ret
      exact ⟨by rw [HC.out]; rfl, HB2.out⟩
  · rw [checkE_far h1]
    have hd := decide_eq_false h1
    clear h1
    go_enter Try.func12, Try.ntmps12
    go_wp2_with fail
    refine (twithin_any n 1099511627776 (by omega) (by omega) w).mono ?_
    rintro e w1 ⟨rfl, rfl⟩
    rw [hd]
    clear hd
    go_wp2
    go_ret
    exact ⟨rfl, Below.refl _ _⟩
set_option maxHeartbeats 1000000 in
theorem rcheck_any (ao : Option Addr) (m c : Nat) (E : List Ev) (n : Int) (w : World) (hE : Evs w ao m c E) (hm : m ≤ 5000) :
    Calls Try.prog 13 #[.slice ao m c, .int .i64 n] w fun e w' => e = .returned (.int .i64 (checkE E n)) ∧ Below w.heap.size w w' := by
  have hlen := hE.len
  by_cases h1 : -1099511627776 ≤ n
  · by_cases h2 : n ≤ 1099511627776
    · have hs := sumE_bound E
      have hs1 : -5497558138880000 ≤ sumE E := by omega
      have hs2 : sumE E ≤ 5497558138880000 := by omega
      clear hs
      go_enter Try.func13, Try.ntmps13
      go_wp2_with fail
      refine (rsum_any ao m c E w hE hm).mono ?_
      rintro e w2 ⟨rfl, hb2⟩
      have HB2 : Hid (Below w.heap.size w w2) := hb2
      clear hb2 hE
      by_cases h3 : -1125899906842624 ≤ sumE E + n
      · by_cases h4 : sumE E + n ≤ 1125899906842624
        · have HC : Hid (checkE E n = 0) := checkE_ok ⟨h1, h2⟩ ⟨h3, h4⟩
          go_wp2
          go_ret
          exact ⟨by rw [HC.out]; rfl, HB2.out⟩
        · have HC : Hid (checkE E n = 6) := checkE_over (fun h => h4 h.2)
          go_wp2
          go_ret
          exact ⟨by rw [HC.out]; rfl, HB2.out⟩
      · have HC : Hid (checkE E n = 6) := checkE_over (fun h => h3 h.1)
        go_wp2
        go_ret
        exact ⟨by rw [HC.out]; rfl, HB2.out⟩
    · rw [checkE_far (fun h => h2 h.2)]
      go_enter Try.func13, Try.ntmps13
      go_wp2
      go_ret
      exact ⟨rfl, Below.refl _ _⟩
  · rw [checkE_far (fun h => h1 h.1)]
    go_enter Try.func13, Try.ntmps13
    go_wp2
    go_ret
    exact ⟨rfl, Below.refl _ _⟩
end Go.Proofs.Ytojaphoonaoppaa
