/-
  What the reference's Get and less come to.
-/
import Derived.Test.YtmacebekodndjaaZwk
import Derived.Test.YtmacebekodndjaaZco
namespace Go.Proofs.Ytmacebekodndjaa
set_option maxRecDepth 100000
open Go.RowKit Go.Sort

set_option maxHeartbeats 2000000 in
theorem rzget_any (ao : Option Addr) (m c : Nat) (E : List Ev) (s : List UInt8) (w : World) (hE : Evs w ao m c E) (hm : m ≤ 1000) :
    Calls Try.prog 10 #[.slice ao m c, .string (sb s)] w fun e w' => e = .returned (.tuple #[.int .i64 (numZ E s), .bool (okZ E s)]) ∧ Below w.heap.size w w' := by
  have hlen := hE.len
  have HE : Aside (Evs w ao m c E) := hE
  have H0 : Aside (Row w w.heap.size (.slice none 0 0) (ofZ (E.take 0) s) ∧ Below w.heap.size w w) := ⟨row_nil _ _, Below.refl _ _⟩
  clear hE
  go_enter Try.func10, Try.ntmps10
  go_wp2
  go_loopg [6, 12] m (fun kx s6 s12 wr => ∃ i : Nat, s12 = .int .i64 i ∧ i ≤ m ∧ m - i ≤ kx ∧ Aside (Row wr w.heap.size s6 (ofZ (E.take i) s) ∧ Below w.heap.size w wr))
  case atStart => exact ⟨0, rfl, Nat.zero_le _, by omega, H0⟩
  case round =>
    clear H0
    obtain ⟨i, rfl, him, hkx, HS⟩ := hrel
    by_cases hlt : i < m
    · have hltz : (i : Int) < (m : Int) := by omega
      obtain ⟨b, off, u, rfl, hui, hu, hr, hbl⟩ := (HE.out.below HS.out.2 (Nat.le_refl _)).at hlt
      have hu16 := hu.1
      have hix := fun W : World => index_ev W (b := b) (off := off) (k := i) (m := m) (c := c) hlt
      have c19 := range_kind hr hu16
      have c21 := range_field hr hu16
      have HSN : Hid (ofZ (E.take (i + 1)) s = if zsE u && decide (u.field = s) then ofZ (E.take i) s ++ [u] else ofZ (E.take i) s) := ofZ_take hui s
      have hll : (ofZ (E.take i) s).length ≤ i := Nat.le_trans (ofZ_len _ _) (by rw [List.length_take]; omega)
      have hkb := sb_beq u.field s
      have hle0 : w.heap.size ≤ wr.heap.size := HS.out.2.size
      clear hui
      generalize ofZ (E.take i) s = T at *
      by_cases hk : u.kind = 7
      · by_cases hf : u.field = s
        · have HSN2 : Hid (ofZ (E.take (i + 1)) s = T ++ [u]) := by show _ = _; rw [HSN.out, decide_eq_true hf, show zsE u = true from decide_eq_true hk]; rfl
          rw [decide_eq_true hf] at hkb
          rw [hk] at c19
          have hRow : Row (wr.alloc (.cells (evc u) 43)) w.heap.size u6 T := HS.out.1.below ((Below.refl _ _).alloc (Nat.le_refl _) _) (Nat.le_refl _)
          have hF : Evs (wr.alloc (.cells (evc u) 43)) (some ⟨wr.heap.size, 0, none⟩) 1 1 [u] := evs_single _ _ u hu (liesE_new wr u)
          have hle : w.heap.size ≤ (wr.alloc (.cells (evc u) 43)).heap.size := by simp; omega
          have HB3 : Hid (Below w.heap.size w (wr.alloc (.cells (evc u) 43))) := HS.out.2.alloc hle0 _
          clear HS HSN hf hk
          go_wp2_with (first | refine load_ev_mid rfl rfl rfl hr hu16 ?_ | refine build_ev1 rfl rfl rfl hu16 ?_ | refine wpList_appE rfl _ _ rfl w.heap.size _ T rfl hRow _ 1 1 [u] rfl hF (by omega) hle ?_)
          intro v4 w4 hR4 hg4 ho4
          have HS4 : Aside (Row w4 w.heap.size v4 (ofZ (E.take (i + 1)) s) ∧ Below w.heap.size w w4) := ⟨by rw [HSN2.out]; exact hR4, HB3.out.grown hg4 hle hRow.own⟩
          clear hR4 hg4 ho4 hRow hF HB3 HSN2 hle c19 c21 hr hix hkb
          go_wp2
          go_roundg (m - (i + 1))
          case measure => omega
          case rel => exact ⟨i + 1, by go_num, by omega, Nat.le_refl _, HS4⟩
        · have HS4 : Aside (Row wr w.heap.size u6 (ofZ (E.take (i + 1)) s) ∧ Below w.heap.size w wr) := by
            refine ⟨?_, HS.out.2⟩
            rw [HSN.out, decide_eq_false hf, Bool.and_false]
            exact HS.out.1
          rw [decide_eq_false hf] at hkb
          rw [hk] at c19
          clear HS HSN hr hf hk
          go_wp2
          go_roundg (m - (i + 1))
          case measure => omega
          case rel => exact ⟨i + 1, by go_num, by omega, Nat.le_refl _, HS4⟩
      · have hk5 : (u.kind == 7) = false := by simpa using hk
        have HS4 : Aside (Row wr w.heap.size u6 (ofZ (E.take (i + 1)) s) ∧ Below w.heap.size w wr) := by
          refine ⟨?_, HS.out.2⟩
          rw [HSN.out, show zsE u = false from decide_eq_false hk, Bool.false_and]
          exact HS.out.1
        clear HS HSN hr hk hkb c21
        go_wp2
        go_roundg (m - (i + 1))
        case measure => omega
        case rel => exact ⟨i + 1, by go_num, by omega, Nat.le_refl _, HS4⟩
    · obtain rfl : m = i := by omega
      have HS1 : Aside (Row wr w.heap.size u6 (ofZ E s) ∧ Below w.heap.size w wr) := by
        have := HS.out
        rw [List.take_of_length_le (by omega)] at this
        exact this
      have hwF : ∀ e ∈ ofZ E s, Wide e := ofZ_wide HE.out.wide s
      have hlF : (ofZ E s).length ≤ 1000 := Nat.le_trans (ofZ_len _ _) (by omega)
      obtain ⟨aF, cF, hv, hEF⟩ := HS1.out.1.evs hwF
      have HB : Hid (Below w.heap.size w wr) := HS1.out.2
      clear HS HS1
      subst hv
      have HV : Hid (numZ E s = (orz (rlat (ofZ E s))).num ∧ okZ E s = (rlat (ofZ E s)).isSome) := by
        show _ ∧ _
        rw [rlat_eq, ← lastZ_eq]
        exact ⟨rfl, rfl⟩
      have hwo : (orz (rlat (ofZ E s))).deps.length = 16 := by rw [rlat_eq]; exact (orz_wide hwF).1
      obtain ⟨F, HFF⟩ : ∃ F, Hid (ofZ E s = F) := ⟨_, show _ = _ from rfl⟩
      rw [HFF.out] at hEF hlF HV hwo ⊢
      clear hwF
      go_wp2_with fail
      refine (rglatest_any aF F.length cF F wr hEF hlF).mono ?_
      rintro e w1 ⟨rfl, hb1⟩
      have hb1' : Below w.heap.size w w1 := HB.out.trans (hb1.mono HB.out.size)
      have hz := liesE_new w1 zv
      obtain ⟨f, HF⟩ : ∃ f, Hid (orz (rlat F) = f) := ⟨_, show _ = _ from rfl⟩
      obtain ⟨t, HT⟩ : ∃ t, Hid ((rlat F).isSome = t) := ⟨_, show _ = _ from rfl⟩
      rw [HF.out] at hwo ⊢
      rw [HT.out]
      have HB2 : Hid (Below w.heap.size w ((w1.alloc (.cells (evc zv) 43)).setRow w1.heap.size (evc f))) := below_setRow (hb1'.alloc hb1'.size _) hb1'.size _
      have c23 : ((w1.alloc (.cells (evc zv) 43)).setRow w1.heap.size (evc f)).cell? ⟨w1.heap.size, 23, none⟩ = some (.int .i64 f.num) := (hz.row f).co hwo 4
      clear hb1 hb1' hEF HB
      go_upto_region 9 with (refine store_ev rfl rfl rfl rfl hz hwo rfl ?_)
      change Code.wp _ _ _ _ ((w1.alloc (.cells (evc zv) 43)).setRow w1.heap.size (evc f))
      clear hz
      generalize (w1.alloc (.cells (evc zv) 43)).setRow w1.heap.size (evc f) = W at *
      generalize w1.heap.size = D at *
      go_wp2
      go_ret2
      exact ⟨by rw [HV.out.1, HV.out.2, HF.out, HT.out]; rfl, HB2.out⟩
set_option maxHeartbeats 1000000 in
theorem rzless_any (i j : Pr) (w : World) : Calls Try.prog 25 #[.agg (prc i), .agg (prc j)] w fun e w' => e = .returned (.bool (decide (Bef i j))) ∧ Below w.heap.size w w' := by
  obtain ⟨ir, iN⟩ := i
  obtain ⟨jr, jn⟩ := j
  show Calls Try.prog 25 #[.agg #[.string (sb ir), .int .i64 iN], .agg #[.string (sb jr), .int .i64 jn]] w fun e w' => e = .returned (.bool (decide (iN < jn ∨ (iN = jn ∧ ir < jr)))) ∧ Below w.heap.size w w'
  have HB : Hid (Below w.heap.size w ((w.alloc (.cells #[.string (sb ir), .int .i64 iN] 50)).alloc (.cells #[.string (sb jr), .int .i64 jn] 50))) := ((Below.refl _ w).alloc (Nat.le_refl _) _).alloc (by simp) _
  obtain ⟨q, hq⟩ : ∃ q, decide (ir < jr) = q := ⟨_, rfl⟩
  have hl := less_sb hq
  by_cases h1 : iN < jn
  · rw [decide_eq_true (.inl h1)]
    clear hq
    go_enter Try.func25, Try.ntmps25
    go_wp2
    go_ret
    exact ⟨rfl, HB.out⟩
  · by_cases h2 : iN = jn
    · have e : decide (iN < jn ∨ (iN = jn ∧ ir < jr)) = q := by
        rw [← hq]
        simp [h2]
      rw [e]
      subst h2
      clear hq e
      go_enter Try.func25, Try.ntmps25
      go_wp2
      go_ret
      exact ⟨rfl, HB.out⟩
    · have h3 : (iN == jn) = false := by simpa using h2
      rw [decide_eq_false (fun h => h.elim h1 (fun h => h2 h.1))]
      clear hq
      go_enter Try.func25, Try.ntmps25
      go_wp2
      go_ret
      exact ⟨rfl, HB.out⟩
end Go.Proofs.Ytmacebekodndjaa
