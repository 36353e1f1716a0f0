/-
  What field's isSet, latest and Get come to.
-/
import Derived.Test.YtmbecjmmcekpnaaFpr
import Derived.Test.YtmbecjmmcekpnaaTba
namespace Go.Proofs.Ytmbecjmmcekpnaa
set_option maxRecDepth 100000
open Go.RowKit Go.Sort

theorem kind_beq5 (k : Int) : (k == 5) = decide (k = 5) := by rw [Bool.eq_iff_iff]; simp
theorem fisset_any (u : Ev) (w : World) : Calls Try.prog 13 #[.agg (opc u)] w fun e w' => e = .returned (.bool (hsE u)) ∧ Below w.heap.size w w' := by
  have HB : Hid (Below w.heap.size w (w.alloc (.cells (opc u) 38))) := (Below.refl _ w).alloc (Nat.le_refl _) _
  have c0 := (liesO_new w u).c0
  unfold hsE
  go_enter Try.func13, Try.ntmps13
  go_wp2
  all_goals
    go_ret
    refine ⟨?_, HB.out⟩
    show Ending.returned (.bool (u.kind == 5)) = _
    rw [kind_beq5]
set_option maxHeartbeats 1000000 in
theorem flatest_any (ao : Option Addr) (m c : Nat) (E : List Ev) (w : World) (hE : Evs w ao m c E) (hm : m ≤ 1000) :
    Calls Try.prog 14 #[.slice ao m c] w fun e w' => e = .returned (.tuple #[.string (sb (orz (latL anyE E)).value), .bool (latL anyE E).isSome]) ∧ Below w.heap.size w w' := by
  have hwo := (orz_wide (p := anyE) hE.wide).1
  go_enter Try.func14, Try.ntmps14
  go_wp2_with fail
  refine (glatest_any ao m c E w hE hm).mono ?_
  rintro e w1 ⟨rfl, hb1⟩
  have hz := liesE_new w1 zv
  obtain ⟨f, HF⟩ : ∃ f, Hid (orz (latL anyE E) = f) := ⟨_, show _ = _ from rfl⟩
  obtain ⟨t, HT⟩ : ∃ t, Hid ((latL anyE E).isSome = t) := ⟨_, show _ = _ from rfl⟩
  rw [HF.out] at hwo ⊢
  rw [HT.out]
  have hz2 := hz.row f
  have HB : Hid (Below w.heap.size w ((w1.alloc (.cells (evc zv) 40)).setRow w1.heap.size (evc f))) := below_setRow (hb1.alloc hb1.size _) hb1.size _
  have c22 := hz2.c22 hwo
  clear hb1 hE
  go_upto_region 2 with (refine store_ev rfl rfl rfl rfl hz hwo rfl ?_)
  change Code.wp _ _ _ _ ((w1.alloc (.cells (evc zv) 40)).setRow w1.heap.size (evc f))
  clear hz hz2
  generalize (w1.alloc (.cells (evc zv) 40)).setRow w1.heap.size (evc f) = W at *
  generalize w1.heap.size = D at *
  go_wp2
  go_ret2
  exact ⟨by rw [HF.out, HT.out]; rfl, HB.out⟩
set_option maxHeartbeats 1000000 in
theorem fget_any (ao : Option Addr) (m c : Nat) (E : List Ev) (s : List UInt8) (w : World) (hE : Evs w ao m c E) (hm : m ≤ 1000) :
    Calls Try.prog 8 #[.slice ao m c, .string (sb s)] w fun e w' => e = .returned (.tuple #[.string (sb (valF E s)), .bool (okF E s)]) ∧ Below w.heap.size w w' := by
  have hlen := hE.len
  have HE : Aside (Evs w ao m c E) := hE
  have H0 : Aside (Row w w.heap.size (.slice none 0 0) (ofF (E.take 0) s) ∧ Below w.heap.size w w) := ⟨row_nil _ _, Below.refl _ _⟩
  clear hE
  go_enter Try.func8, Try.ntmps8
  go_wp2
  go_loopg [6, 11] m (fun kx s6 s11 wr => ∃ i : Nat, s11 = .int .i64 i ∧ i ≤ m ∧ m - i ≤ kx ∧ Aside (Row wr w.heap.size s6 (ofF (E.take i) s) ∧ Below w.heap.size w wr))
  case atStart => exact ⟨0, rfl, Nat.zero_le _, by omega, H0⟩
  case round =>
    clear H0
    obtain ⟨i, rfl, him, hkx, HS⟩ := hrel
    by_cases hlt : i < m
    · have hltz : (i : Int) < (m : Int) := by omega
      obtain ⟨b, off, u, rfl, hui, hu, hr, hbl⟩ := (HE.out.below HS.out.2 (Nat.le_refl _)).at hlt
      have hu16 := hu.1
      have hix := fun W : World => index_ev W (b := b) (off := off) (k := i) (m := m) (c := c) hlt
      have hz := liesE_new wr zv
      have hB1 : Below wr.heap.size wr ((wr.alloc (.cells (evc zv) 40)).setRow wr.heap.size (evc u)) := below_setRow ((Below.refl _ _).alloc (Nat.le_refl _) _) (Nat.le_refl _) _
      have HS1 : Aside (LiesE ((wr.alloc (.cells (evc zv) 40)).setRow wr.heap.size (evc u)) wr.heap.size u ∧ Row ((wr.alloc (.cells (evc zv) 40)).setRow wr.heap.size (evc u)) w.heap.size u6 (ofF (E.take i) s) ∧ Below w.heap.size w ((wr.alloc (.cells (evc zv) 40)).setRow wr.heap.size (evc u))) := ⟨hz.row u, HS.out.1.below hB1 (Nat.le_refl _), HS.out.2.trans (hB1.mono HS.out.2.size)⟩
      have HSN : Hid (ofF (E.take (i + 1)) s = if hsE u && decide (u.field = s) then ofF (E.take i) s ++ [u] else ofF (E.take i) s) := ofF_take hui s
      have hll : (ofF (E.take i) s).length ≤ i := Nat.le_trans (ofF_len _ _) (by rw [List.length_take]; omega)
      have hkb := sb_beq u.field s
      clear hB1 HS hui
      go_upto_region 5 with (first | refine load_ev_mid rfl rfl rfl hr hu16 ?_ | refine store_ev rfl rfl rfl rfl hz hu16 rfl ?_)
      change Code.wp _ _ _ _ ((wr.alloc (.cells (evc zv) 40)).setRow wr.heap.size (evc u))
      clear hz hr hix hbl
      generalize (wr.alloc (.cells (evc zv) 40)).setRow wr.heap.size (evc u) = W at HS1 ⊢
      generalize wr.heap.size = D at *
      have hL := HS1.out.1.op hu16
      go_wp2_with (refine load_op_at rfl rfl rfl hL ?_)
      refine (fisset_any u W).mono ?_
      rintro e w2 ⟨rfl, hb2⟩
      have HS2 : Aside (LiesE w2 D u ∧ Row w2 w.heap.size u6 (ofF (E.take i) s) ∧ Below w.heap.size w w2) := ⟨HS1.out.1.below hb2 HS1.out.1.lt, HS1.out.2.1.below hb2 (Nat.le_refl _), HS1.out.2.2.trans (hb2.mono HS1.out.2.2.size)⟩
      clear hb2 HS1 hL
      generalize ofF (E.take i) s = T at *
      generalize hsE u = t at *
      by_cases hsel : t = true ∧ u.field = s
      · obtain ⟨rfl, hf⟩ := hsel
        have HSN2 : Hid (ofF (E.take (i + 1)) s = T ++ [u]) := by show _ = _; rw [HSN.out, decide_eq_true hf]; rfl
        rw [decide_eq_true hf] at hkb
        have c21 := HS2.out.1.c21 hu16
        have hLu := HS2.out.1
        have hRow : Row (w2.alloc (.cells (evc u) 40)) w.heap.size u6 T := HS2.out.2.1.below ((Below.refl _ _).alloc (Nat.le_refl _) _) (Nat.le_refl _)
        have hF : Evs (w2.alloc (.cells (evc u) 40)) (some ⟨w2.heap.size, 0, none⟩) 1 1 [u] := evs_single _ _ u hu (liesE_new w2 u)
        have hle : w.heap.size ≤ (w2.alloc (.cells (evc u) 40)).heap.size := by have := HS2.out.2.2.size; simp; omega
        have HB3 : Hid (Below w.heap.size w (w2.alloc (.cells (evc u) 40))) := HS2.out.2.2.alloc HS2.out.2.2.size _
        clear HS2 HSN hf
        go_wp2_with (first | refine load_ev rfl rfl rfl hLu hu16 ?_ | refine build_ev1 rfl rfl rfl hu16 ?_ | refine wpList_appE rfl _ _ rfl w.heap.size _ T rfl hRow _ 1 1 [u] rfl hF (by omega) hle ?_)
        intro v4 w4 hR4 hg4 ho4
        have HS4 : Aside (Row w4 w.heap.size v4 (ofF (E.take (i + 1)) s) ∧ Below w.heap.size w w4) := ⟨by rw [HSN2.out]; exact hR4, HB3.out.grown hg4 hle hRow.own⟩
        clear hR4 hg4 ho4 hRow hF HB3 HSN2 hle c21 hLu hkb
        go_wp2
        go_roundg (m - (i + 1))
        case measure => omega
        case rel => exact ⟨i + 1, by go_num, by omega, Nat.le_refl _, HS4⟩
      · have HS4 : Aside (Row w2 w.heap.size u6 (ofF (E.take (i + 1)) s) ∧ Below w.heap.size w w2) := by
          refine ⟨?_, HS2.out.2.2⟩
          rw [HSN.out, if_neg (by simpa using hsel)]
          exact HS2.out.2.1
        have c21 := HS2.out.1.c21 hu16
        clear HS2 HSN
        cases t with
        | false =>
          clear hkb c21 hsel
          go_wp2
          go_roundg (m - (i + 1))
          case measure => omega
          case rel => exact ⟨i + 1, by go_num, by omega, Nat.le_refl _, HS4⟩
        | true =>
          rw [decide_eq_false (fun h => hsel ⟨rfl, h⟩)] at hkb
          clear hsel
          go_wp2
          go_roundg (m - (i + 1))
          case measure => omega
          case rel => exact ⟨i + 1, by go_num, by omega, Nat.le_refl _, HS4⟩
    · obtain rfl : m = i := by omega
      have HS1 : Aside (Row wr w.heap.size u6 (ofF E s) ∧ Below w.heap.size w wr) := by
        have := HS.out
        rw [List.take_of_length_le (by omega)] at this
        exact this
      have hwF : ∀ e ∈ ofF E s, Wide e := ofF_wide HE.out.wide s
      have hlF : (ofF E s).length ≤ 1000 := Nat.le_trans (ofF_len _ _) (by omega)
      obtain ⟨aF, cF, hv, hEF⟩ := HS1.out.1.evs hwF
      have HB : Hid (Below w.heap.size w wr) := HS1.out.2
      clear HS HS1
      subst hv
      have HV : Hid (valF E s = (orz (latL anyE (ofF E s))).value ∧ okF E s = (latL anyE (ofF E s)).isSome) := ⟨rfl, rfl⟩
      obtain ⟨F, HFF⟩ : ∃ F, Hid (ofF E s = F) := ⟨_, show _ = _ from rfl⟩
      rw [HFF.out] at hEF hlF HV ⊢
      clear hwF
      go_wp2_with fail
      refine (flatest_any aF F.length cF F wr hEF hlF).mono ?_
      rintro e w1 ⟨rfl, hb1⟩
      have HB1 : Hid (Below w.heap.size w w1) := HB.out.trans (hb1.mono HB.out.size)
      clear hb1
      obtain ⟨f, HF⟩ : ∃ f, Hid (sb (orz (latL anyE F)).value = f) := ⟨_, show _ = _ from rfl⟩
      obtain ⟨t, HT⟩ : ∃ t, Hid ((latL anyE F).isSome = t) := ⟨_, show _ = _ from rfl⟩
      rw [HF.out, HT.out]
      go_wp2
      go_ret2
      exact ⟨by rw [HV.out.1, HV.out.2, HF.out, HT.out]; rfl, HB1.out⟩
end Go.Proofs.Ytmbecjmmcekpnaa
