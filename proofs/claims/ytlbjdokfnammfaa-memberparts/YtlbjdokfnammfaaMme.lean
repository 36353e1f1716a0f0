/-
  What isAdd, adds, Has and Dots come to.
-/
import Derived.Test.YtlbjdokfnammfaaMpl
namespace Go.Proofs.Ytlbjdokfnammfaa
set_option maxRecDepth 100000
open Go.RowKit Go.Sort

theorem kind_beq3 (k : Int) : (k == 3) = decide (k = 3) := by rw [Bool.eq_iff_iff]; simp
theorem isadd_any (u : Ev) (w : World) : Calls Try.prog 15 #[.agg (opc u)] w fun e w' => e = .returned (.bool (isAddE u)) ∧ Below w.heap.size w w' := by
  have HB : Hid (Below w.heap.size w (w.alloc (.cells (opc u) 36))) := (Below.refl _ w).alloc (Nat.le_refl _) _
  have c0 := (liesO_new w u).c0
  unfold isAddE
  go_enter Try.func15, Try.ntmps15
  go_wp2
  all_goals
    go_ret
    refine ⟨?_, HB.out⟩
    show Ending.returned (.bool (u.kind == 3)) = _
    rw [kind_beq3]
set_option maxHeartbeats 400000 in
theorem adds_any (u : Ev) (s : List UInt8) (w : World) : Calls Try.prog 17 #[.agg (opc u), .string (sb s)] w fun e w' => e = .returned (.bool (addE s u)) ∧ Below w.heap.size w w' := by
  have hL := liesO_new w u
  have HB : Hid (Below w.heap.size w (w.alloc (.cells (opc u) 36))) := (Below.refl _ w).alloc (Nat.le_refl _) _
  have hkb := sb_beq u.field s
  rw [show addE s u = (isAddE u && decide (u.field = s)) from rfl]
  go_enter Try.func17, Try.ntmps17
  go_wp2_with (refine load_op rfl rfl rfl hL ?_)
  refine (isadd_any u _).mono ?_
  rintro e w1 ⟨rfl, hb1⟩
  have c2 := (hL.below hb1 hL.lt).c2
  have HB1 : Hid (Below w.heap.size w w1) := HB.out.trans (hb1.mono HB.out.size)
  clear hb1 HB hL
  rcases Bool.eq_false_or_eq_true (isAddE u) with h | h
  · rw [h]
    obtain ⟨t, ht⟩ : ∃ t, decide (u.field = s) = t := ⟨_, rfl⟩
    have HT : Hid (decide (u.field = s) = t) := ht
    rw [ht] at hkb
    clear ht
    go_wp2
    go_ret
    exact ⟨by rw [HT.out, h, Bool.true_and]; rfl, HB1.out⟩
  · rw [h]
    go_wp2
    go_ret
    exact ⟨by rw [h, Bool.false_and]; rfl, HB1.out⟩
set_option maxHeartbeats 1000000 in
theorem mhas_any (ao : Option Addr) (m c : Nat) (E : List Ev) (s : List UInt8) (w : World) (hE : Evs w ao m c E) (hm : m ≤ 1000) :
    Calls Try.prog 13 #[.slice ao m c, .string (sb s)] w fun e w' => e = .returned (.bool (hasE E s)) ∧ Below w.heap.size w w' := by
  have hlen := hE.len
  have HE : Aside (Evs w ao m c E) := hE
  have H0 : Hid (hasE (E.take 0) s = false ∧ Below w.heap.size w w) := ⟨rfl, Below.refl _ _⟩
  clear hE
  go_enter Try.func13, Try.ntmps13
  go_wp2
  go_loopg [9] m (fun kx s9 wr => ∃ i : Nat, s9 = .int .i64 i ∧ i ≤ m ∧ m - i ≤ kx ∧ Hid (hasE (E.take i) s = false ∧ Below w.heap.size w wr))
  case atStart => exact ⟨0, rfl, Nat.zero_le _, by omega, H0⟩
  case round =>
    clear H0
    obtain ⟨i, rfl, him, hkx, HS⟩ := hrel
    by_cases hlt : i < m
    · have hltz : (i : Int) < (m : Int) := by omega
      obtain ⟨b, off, u, rfl, hui, hu, hr, hbl⟩ := (HE.out.below HS.out.2 (Nat.le_refl _)).at hlt
      have hu16 := hu.1
      have hix := fun W : World => index_ev W (b := b) (off := off) (k := i) (m := m) (c := c) hlt
      have hz := liesE_new wr zv
      have hB1 : Below wr.heap.size wr ((wr.alloc (.cells (evc zv) 40)).setRow wr.heap.size (evc u)) := below_setRow ((Below.refl _ _).alloc (Nat.le_refl _) _) (Nat.le_refl _) _
      have HS1 : Aside (LiesE ((wr.alloc (.cells (evc zv) 40)).setRow wr.heap.size (evc u)) wr.heap.size u ∧ Below w.heap.size w ((wr.alloc (.cells (evc zv) 40)).setRow wr.heap.size (evc u))) := ⟨hz.row u, HS.out.2.trans (hB1.mono HS.out.2.size)⟩
      have HSN : Hid (hasE (E.take (i + 1)) s = addE s u) := by show _ = _; rw [hasE_take hui, HS.out.1]; rfl
      have HU : Hid (addE s u = true → hasE E s = true) := fun h => List.any_eq_true.2 ⟨u, List.mem_of_getElem? hui, h⟩
      clear hB1 HS hui
      go_upto_region 4 with (first | refine load_ev_mid rfl rfl rfl hr hu16 ?_ | refine store_ev rfl rfl rfl rfl hz hu16 rfl ?_)
      change Code.wp _ _ _ _ ((wr.alloc (.cells (evc zv) 40)).setRow wr.heap.size (evc u))
      clear hz hr hix hbl
      generalize (wr.alloc (.cells (evc zv) 40)).setRow wr.heap.size (evc u) = W at HS1 ⊢
      generalize wr.heap.size = D at *
      have hL := HS1.out.1.op hu16
      go_wp2_with (refine load_op_at rfl rfl rfl hL ?_)
      refine (adds_any u s W).mono ?_
      rintro e w2 ⟨rfl, hb2⟩
      have HB2 : Hid (Below w.heap.size w w2) := HS1.out.2.trans (hb2.mono HS1.out.2.size)
      clear hb2 HS1 hL
      generalize addE s u = t at *
      cases t with
      | true =>
        have HF : Hid (hasE E s = true) := HU.out rfl
        go_wp2
        go_ret
        exact ⟨by rw [HF.out]; rfl, HB2.out⟩
      | false =>
        go_wp2
        go_roundg (m - (i + 1))
        case measure => omega
        case rel => exact ⟨i + 1, by go_num, by omega, Nat.le_refl _, HSN.out, HB2.out⟩
    · obtain rfl : m = i := by omega
      have HF : Hid (hasE E s = false ∧ Below w.heap.size w wr) := by
        have := HS.out
        rw [List.take_of_length_le (by omega)] at this
        exact this
      clear HS
      go_wp2
      go_ret
      exact ⟨by rw [HF.out.1]; rfl, HF.out.2⟩
set_option maxHeartbeats 1000000 in
theorem mdots_any (ao : Option Addr) (m c : Nat) (E : List Ev) (s : List UInt8) (w : World) (hE : Evs w ao m c E) (hm : m ≤ 1000) :
    Calls Try.prog 11 #[.slice ao m c, .string (sb s)] w fun e w' => ∃ v R, e = .returned v ∧ DRow w' w.heap.size v R ∧ StrD R ∧ (∀ z, z ∈ R ↔ z ∈ dtE E s) ∧ R.length ≤ m ∧ Below w.heap.size w w' := by
  have hlen := hE.len
  have HE : Aside (Evs w ao m c E) := hE
  have H0 : Aside (DRow w w.heap.size (.slice none 0 0) (dtE (E.take 0) s) ∧ Below w.heap.size w w) := ⟨drow_nil _ _, Below.refl _ _⟩
  clear hE
  go_enter Try.func11, Try.ntmps11
  go_wp2
  go_loopg [5, 10] m (fun kx s5 s10 wr => ∃ i : Nat, s10 = .int .i64 i ∧ i ≤ m ∧ m - i ≤ kx ∧ Aside (DRow wr w.heap.size s5 (dtE (E.take i) s) ∧ Below w.heap.size w wr))
  case atStart => exact ⟨0, rfl, Nat.zero_le _, by omega, H0⟩
  case round =>
    clear H0
    obtain ⟨i, rfl, him, hkx, HS⟩ := hrel
    by_cases hlt : i < m
    · have hltz : (i : Int) < (m : Int) := by omega
      obtain ⟨b, off, u, rfl, hui, hu, hr, hbl⟩ := (HE.out.below HS.out.2 (Nat.le_refl _)).at hlt
      have hu16 := hu.1
      have hix := fun W : World => index_ev W (b := b) (off := off) (k := i) (m := m) (c := c) hlt
      have hz := liesE_new wr zv
      have hB1 : Below wr.heap.size wr ((wr.alloc (.cells (evc zv) 40)).setRow wr.heap.size (evc u)) := below_setRow ((Below.refl _ _).alloc (Nat.le_refl _) _) (Nat.le_refl _) _
      have HS1 : Aside (LiesE ((wr.alloc (.cells (evc zv) 40)).setRow wr.heap.size (evc u)) wr.heap.size u ∧ DRow ((wr.alloc (.cells (evc zv) 40)).setRow wr.heap.size (evc u)) w.heap.size u5 (dtE (E.take i) s) ∧ Below w.heap.size w ((wr.alloc (.cells (evc zv) 40)).setRow wr.heap.size (evc u))) := ⟨hz.row u, HS.out.1.below hB1 (Nat.le_refl _), HS.out.2.trans (hB1.mono HS.out.2.size)⟩
      have HSN : Hid (dtE (E.take (i + 1)) s = if addE s u then dtE (E.take i) s ++ [(u.r, u.n)] else dtE (E.take i) s) := dtE_take hui
      have hll : (dtE (E.take i) s).length ≤ i := Nat.le_trans (dtE_len _ _) (by rw [List.length_take]; omega)
      clear hB1 HS hui
      go_upto_region 5 with (first | refine load_ev_mid rfl rfl rfl hr hu16 ?_ | refine store_ev rfl rfl rfl rfl hz hu16 rfl ?_)
      change Code.wp _ _ _ _ ((wr.alloc (.cells (evc zv) 40)).setRow wr.heap.size (evc u))
      clear hz hr hix hbl
      generalize (wr.alloc (.cells (evc zv) 40)).setRow wr.heap.size (evc u) = W at HS1 ⊢
      generalize wr.heap.size = D at *
      have hL := HS1.out.1.op hu16
      go_wp2_with (refine load_op_at rfl rfl rfl hL ?_)
      refine (adds_any u s W).mono ?_
      rintro e w2 ⟨rfl, hb2⟩
      have HS2 : Aside (LiesE w2 D u ∧ DRow w2 w.heap.size u5 (dtE (E.take i) s) ∧ Below w.heap.size w w2) := ⟨HS1.out.1.below hb2 HS1.out.1.lt, HS1.out.2.1.below hb2 (Nat.le_refl _), HS1.out.2.2.trans (hb2.mono HS1.out.2.2.size)⟩
      clear hb2 HS1 hL
      generalize dtE (E.take i) s = T at *
      generalize addE s u = t at *
      cases t with
      | true =>
        have HSN2 : Hid (dtE (E.take (i + 1)) s = T ++ [(u.r, u.n)]) := HSN.out
        have hD : w2.rangeAt D 0 (dtl (u.r, u.n)) := HS2.out.1.dot
        have hRow : DRow (w2.alloc (.cells (dotc (u.r, u.n).1 (u.r, u.n).2) 34)) w.heap.size u5 T := HS2.out.2.1.below ((Below.refl _ _).alloc (Nat.le_refl _) _) (Nat.le_refl _)
        have hle : w.heap.size ≤ w2.heap.size := HS2.out.2.2.size
        have HB3 : Hid (Below w.heap.size w (w2.alloc (.cells (dotc (u.r, u.n).1 (u.r, u.n).2) 34))) := HS2.out.2.2.alloc hle _
        clear HS2 HSN
        go_wp2_with (first | refine load_dt_mid rfl rfl rfl hD ?_ | refine build_dt1 (d := (u.r, u.n)) rfl rfl rfl ?_ | refine wpList_appD (u.r, u.n) rfl _ _ rfl w.heap.size _ T rfl hRow rfl (by omega) hle ?_)
        intro v4 w4 hR4 hg4
        have HS4 : Aside (DRow w4 w.heap.size v4 (dtE (E.take (i + 1)) s) ∧ Below w.heap.size w w4) := ⟨by rw [HSN2.out]; exact hR4, HB3.out.grown hg4 (by simp; omega) hRow.own⟩
        clear hR4 hg4 hRow HB3 HSN2 hle hD
        go_wp2
        go_roundg (m - (i + 1))
        case measure => omega
        case rel => exact ⟨i + 1, by go_num, by omega, Nat.le_refl _, HS4⟩
      | false =>
        have HS4 : Aside (DRow w2 w.heap.size u5 (dtE (E.take (i + 1)) s) ∧ Below w.heap.size w w2) := ⟨by rw [HSN.out]; exact HS2.out.2.1, HS2.out.2.2⟩
        clear HS2 HSN
        go_wp2
        go_roundg (m - (i + 1))
        case measure => omega
        case rel => exact ⟨i + 1, by go_num, by omega, Nat.le_refl _, HS4⟩
    · obtain rfl : m = i := by omega
      have HS1 : Aside (DRow wr w.heap.size u5 (dtE E s) ∧ Below w.heap.size w wr) := by
        have := HS.out
        rw [List.take_of_length_le (by omega)] at this
        exact this
      have hll : (dtE E s).length ≤ 1000 := Nat.le_trans (dtE_len _ _) (by omega)
      have HL : Hid ((dtE E s).length ≤ m) := Nat.le_trans (dtE_len _ _) (by omega)
      clear HS
      obtain ⟨T, hT⟩ : ∃ T, dtE E s = T := ⟨_, rfl⟩
      have HT : Hid (dtE E s = T) := hT
      rw [hT] at HS1 hll HL
      clear hT
      go_wp2_with fail
      refine (sortd_any _ T w.heap.size wr HS1.out.1 (by omega) HS1.out.2.size).mono ?_
      rintro e w2 ⟨rfl, S, hp, hup, hR2, hb2⟩
      have HS2 : Aside (DRow w2 w.heap.size u5 S ∧ Below w.heap.size w w2) := ⟨hR2, HS1.out.2.trans hb2⟩
      have HC : Hid (StrD (Lib.compact S) ∧ ∀ z, z ∈ Lib.compact S ↔ z ∈ T) := dcompact_is hp hup
      have hsl : S.length ≤ 1000 := by rw [← hp.length_eq]; exact hll
      have HL2 : Hid ((Lib.compact S).length ≤ m) := Nat.le_trans (Lib.compact_length_le S) (by rw [← hp.length_eq]; exact HL.out)
      clear hR2 hb2 HS1 hp hup
      go_wp2_with fail
      refine (compactd_any w.heap.size _ S w2 HS2.out.1 hsl HS2.out.2.size).mono ?_
      rintro e w3 ⟨v3, rfl, hR3, hb3⟩
      have HF : Hid (DRow w3 w.heap.size v3 (Lib.compact S) ∧ Below w.heap.size w w3) := ⟨hR3, HS2.out.2.trans hb3⟩
      clear hR3 hb3 HS2
      go_wp2
      go_ret
      exact ⟨v3, _, rfl, HF.out.1, HC.out.1, by rw [HT.out]; exact HC.out.2, HL2.out, HF.out.2⟩
end Go.Proofs.Ytlbjdokfnammfaa
