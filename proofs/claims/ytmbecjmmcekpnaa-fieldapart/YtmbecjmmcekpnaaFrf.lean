/-
  What the reference's Get and All come to.
-/
import Derived.Test.YtmbecjmmcekpnaaFal
namespace Go.Proofs.Ytmbecjmmcekpnaa
set_option maxRecDepth 100000
open Go.RowKit Go.Sort

set_option maxHeartbeats 2000000 in
theorem rfget_any (ao : Option Addr) (m c : Nat) (E : List Ev) (s : List UInt8) (w : World) (hE : Evs w ao m c E) (hm : m ≤ 1000) :
    Calls Try.prog 9 #[.slice ao m c, .string (sb s)] w fun e w' => e = .returned (.tuple #[.string (sb (valF E s)), .bool (okF E s)]) ∧ Below w.heap.size w w' := by
  have hlen := hE.len
  have HE : Aside (Evs w ao m c E) := hE
  have H0 : Aside (Row w w.heap.size (.slice none 0 0) (ofF (E.take 0) s) ∧ Below w.heap.size w w) := ⟨row_nil _ _, Below.refl _ _⟩
  clear hE
  go_enter Try.func9, Try.ntmps9
  go_wp2
  go_loopg [6, 12] m (fun kx s6 s12 wr => ∃ i : Nat, s12 = .int .i64 i ∧ i ≤ m ∧ m - i ≤ kx ∧ Aside (Row wr w.heap.size s6 (ofF (E.take i) s) ∧ Below w.heap.size w wr))
  case atStart => exact ⟨0, rfl, Nat.zero_le _, by omega, H0⟩
  case round =>
    clear H0
    obtain ⟨i, rfl, him, hkx, HS⟩ := hrel
    by_cases hlt : i < m
    · have hltz : (i : Int) < (m : Int) := by omega
      obtain ⟨b, off, u, rfl, hui, hu, hr, hbl⟩ := (HE.out.below HS.out.2 (Nat.le_refl _)).at hlt
      have hu16 := hu.1
      have hix := fun W : World => index_ev W (b := b) (off := off) (k := i) (m := m) (c := c) hlt
      have c19 := range_kind hr hu16
      have c21 := range_field hr hu16
      have HSN : Hid (ofF (E.take (i + 1)) s = if hsE u && decide (u.field = s) then ofF (E.take i) s ++ [u] else ofF (E.take i) s) := ofF_take hui s
      have hll : (ofF (E.take i) s).length ≤ i := Nat.le_trans (ofF_len _ _) (by rw [List.length_take]; omega)
      have hkb := sb_beq u.field s
      have hle0 : w.heap.size ≤ wr.heap.size := HS.out.2.size
      clear hui
      generalize ofF (E.take i) s = T at *
      by_cases hk : u.kind = 5
      · by_cases hf : u.field = s
        · have HSN2 : Hid (ofF (E.take (i + 1)) s = T ++ [u]) := by show _ = _; rw [HSN.out, decide_eq_true hf, show hsE u = true from decide_eq_true hk]; rfl
          rw [decide_eq_true hf] at hkb
          rw [hk] at c19
          have hRow : Row (wr.alloc (.cells (evc u) 40)) w.heap.size u6 T := HS.out.1.below ((Below.refl _ _).alloc (Nat.le_refl _) _) (Nat.le_refl _)
          have hF : Evs (wr.alloc (.cells (evc u) 40)) (some ⟨wr.heap.size, 0, none⟩) 1 1 [u] := evs_single _ _ u hu (liesE_new wr u)
          have hle : w.heap.size ≤ (wr.alloc (.cells (evc u) 40)).heap.size := by simp; omega
          have HB3 : Hid (Below w.heap.size w (wr.alloc (.cells (evc u) 40))) := HS.out.2.alloc hle0 _
          clear HS HSN hf hk
          go_wp2_with (first | refine load_ev_mid rfl rfl rfl hr hu16 ?_ | refine build_ev1 rfl rfl rfl hu16 ?_ | refine wpList_appE rfl _ _ rfl w.heap.size _ T rfl hRow _ 1 1 [u] rfl hF (by omega) hle ?_)
          intro v4 w4 hR4 hg4 ho4
          have HS4 : Aside (Row w4 w.heap.size v4 (ofF (E.take (i + 1)) s) ∧ Below w.heap.size w w4) := ⟨by rw [HSN2.out]; exact hR4, HB3.out.grown hg4 hle hRow.own⟩
          clear hR4 hg4 ho4 hRow hF HB3 HSN2 hle c19 c21 hr hix hkb
          go_wp2
          go_roundg (m - (i + 1))
          case measure => omega
          case rel => exact ⟨i + 1, by go_num, by omega, Nat.le_refl _, HS4⟩
        · have HS4 : Aside (Row wr w.heap.size u6 (ofF (E.take (i + 1)) s) ∧ Below w.heap.size w wr) := by
            refine ⟨?_, HS.out.2⟩
            rw [HSN.out, decide_eq_false hf, Bool.and_false]
            exact HS.out.1
          rw [decide_eq_false hf] at hkb
          rw [hk] at c19
          clear HS HSN hr hf hk
          go_wp2
          go_roundg (m - (i + 1))
          case measure => omega
          case rel => exact ⟨i + 1, by go_num, by omega, Nat.le_refl _, HS4⟩
      · have hk5 : (u.kind == 5) = false := by simpa using hk
        have HS4 : Aside (Row wr w.heap.size u6 (ofF (E.take (i + 1)) s) ∧ Below w.heap.size w wr) := by
          refine ⟨?_, HS.out.2⟩
          rw [HSN.out, show hsE u = false from decide_eq_false hk, Bool.false_and]
          exact HS.out.1
        clear HS HSN hr hk hkb c21
        go_wp2
        go_roundg (m - (i + 1))
        case measure => omega
        case rel => exact ⟨i + 1, by go_num, by omega, Nat.le_refl _, HS4⟩
    · obtain rfl : m = i := by omega
      have HS1 : Aside (Row wr w.heap.size u6 (ofF E s) ∧ Below w.heap.size w wr) := by
        have := HS.out
        rw [List.take_of_length_le (by omega)] at this
        exact this
      have hwF : ∀ e ∈ ofF E s, Wide e := ofF_wide HE.out.wide s
      have hlF : (ofF E s).length ≤ 1000 := Nat.le_trans (ofF_len _ _) (by omega)
      obtain ⟨aF, cF, hv, hEF⟩ := HS1.out.1.evs hwF
      have HB : Hid (Below w.heap.size w wr) := HS1.out.2
      clear HS HS1
      subst hv
      have HV : Hid (valF E s = (orz (rlat (ofF E s))).value ∧ okF E s = (rlat (ofF E s)).isSome) := by
        show _ ∧ _
        rw [rlat_eq]
        exact ⟨rfl, rfl⟩
      have hwo : (orz (rlat (ofF E s))).deps.length = 16 := by rw [rlat_eq]; exact (orz_wide hwF).1
      obtain ⟨F, HFF⟩ : ∃ F, Hid (ofF E s = F) := ⟨_, show _ = _ from rfl⟩
      rw [HFF.out] at hEF hlF HV hwo ⊢
      clear hwF
      go_wp2_with fail
      refine (rglatest_any aF F.length cF F wr hEF hlF).mono ?_
      rintro e w1 ⟨rfl, hb1⟩
      have hb1' : Below w.heap.size w w1 := HB.out.trans (hb1.mono HB.out.size)
      have hz := liesE_new w1 zv
      obtain ⟨f, HF⟩ : ∃ f, Hid (orz (rlat F) = f) := ⟨_, show _ = _ from rfl⟩
      obtain ⟨t, HT⟩ : ∃ t, Hid ((rlat F).isSome = t) := ⟨_, show _ = _ from rfl⟩
      rw [HF.out] at hwo ⊢
      rw [HT.out]
      have HB2 : Hid (Below w.heap.size w ((w1.alloc (.cells (evc zv) 40)).setRow w1.heap.size (evc f))) := below_setRow (hb1'.alloc hb1'.size _) hb1'.size _
      have c22 := (hz.row f).c22 hwo
      clear hb1 hb1' hEF HB
      go_upto_region 9 with (refine store_ev rfl rfl rfl rfl hz hwo rfl ?_)
      change Code.wp _ _ _ _ ((w1.alloc (.cells (evc zv) 40)).setRow w1.heap.size (evc f))
      clear hz
      generalize (w1.alloc (.cells (evc zv) 40)).setRow w1.heap.size (evc f) = W at *
      generalize w1.heap.size = D at *
      go_wp2
      go_ret2
      exact ⟨by rw [HV.out.1, HV.out.2, HF.out, HT.out]; rfl, HB2.out⟩

set_option maxHeartbeats 2000000 in
theorem rfall_any (ao : Option Addr) (m c : Nat) (E : List Ev) (w : World) (hE : Evs w ao m c E) (hm : m ≤ 900) :
    Calls Try.prog 12 #[.slice ao m c] w fun e w' => ∃ (v : Value) (R : List (List UInt8)), e = .returned v ∧ QRow w' w.heap.size v (R.map (pairF E)) ∧ R.Pairwise (· < ·) ∧ (∀ z, z ∈ R ↔ z ∈ fldF E) ∧ R.length ≤ m ∧ Below w.heap.size w w' := by
  have hlen := hE.len
  have HE : Aside (Evs w ao m c E) := hE
  clear hE
  have H0 : Aside (TRow w w.heap.size (.slice none 0 0) [] ∧ ([] : List (List UInt8)).Pairwise (· < ·) ∧ (∀ z, z ∈ ([] : List (List UInt8)) ↔ z ∈ fldF (E.take 0)) ∧ Below w.heap.size w w) := ⟨World.ownsRow_nil _ _ _ _, List.Pairwise.nil, by simp [fldF], Below.refl _ _⟩
  go_enter Try.func12, Try.ntmps12
  go_wp2
  go_loopg [3, 11] m (fun kx s3 s11 wr => ∃ (i : Nat) (R : List (List UInt8)), s11 = .int .i64 i ∧ i ≤ m ∧ m - i ≤ kx ∧ R.length ≤ i ∧ Aside (TRow wr w.heap.size s3 R ∧ R.Pairwise (· < ·) ∧ (∀ z, z ∈ R ↔ z ∈ fldF (E.take i)) ∧ Below w.heap.size w wr))
  case atStart => exact ⟨0, [], rfl, Nat.zero_le _, by omega, Nat.le_refl _, H0⟩
  case round =>
    clear H0
    obtain ⟨i, R, rfl, him, hkx, hRl, HS⟩ := hrel
    by_cases hlt : i < m
    · have hltz : (i : Int) < (m : Int) := by omega
      obtain ⟨b, off, u, rfl, hui, hu, hr, hbl⟩ := (HE.out.below HS.out.2.2.2 (Nat.le_refl _)).at hlt
      have hu16 := hu.1
      have hix := fun W : World => index_ev W (b := b) (off := off) (k := i) (m := m) (c := c) hlt
      have c19 := range_kind hr hu16
      have c21 := range_field hr hu16
      have HK : Hid (fldF (E.take (i + 1)) = if hsE u then fldF (E.take i) ++ [u.field] else fldF (E.take i)) := fldF_take hui
      clear hr
      by_cases hk : u.kind = 5
      · have HK2 : Hid (fldF (E.take (i + 1)) = fldF (E.take i) ++ [u.field]) := by show _ = _; rw [HK.out, if_pos (by unfold hsE; exact decide_eq_true hk)]
        rw [hk] at c19
        clear hk HK
        go_wp2_with fail
        refine (rwith_any w.heap.size u3 R u.field wr HS.out.1 HS.out.2.2.2.size (by omega) HS.out.2.1).mono ?_
        rintro e w2 ⟨v2, R2, rfl, h1, h2, h3, h4, h5⟩
        have HS2 : Aside (TRow w2 w.heap.size v2 R2 ∧ R2.Pairwise (· < ·) ∧ (∀ z, z ∈ R2 ↔ z ∈ fldF (E.take (i + 1))) ∧ Below w.heap.size w w2) := by
          refine ⟨h1, h2, fun z => ?_, HS.out.2.2.2.trans (h5.mono HS.out.2.2.2.size)⟩
          rw [h3, HK2.out, List.mem_append, HS.out.2.2.1, List.mem_singleton]
        have hRl2 : R2.length ≤ i + 1 := by omega
        clear HS h1 h2 h3 h4 h5 c19 c21 hix HK2
        go_wp2
        go_roundg (m - (i + 1))
        case measure => omega
        case rel => exact ⟨i + 1, R2, by go_num, by omega, Nat.le_refl _, hRl2, HS2⟩
      · have hkb : (u.kind == 5) = false := by simpa using hk
        have HS2 : Aside (TRow wr w.heap.size u3 R ∧ R.Pairwise (· < ·) ∧ (∀ z, z ∈ R ↔ z ∈ fldF (E.take (i + 1))) ∧ Below w.heap.size w wr) := by
          rw [HK.out, if_neg (by unfold hsE; rw [decide_eq_false hk]; simp)]
          exact HS.out
        clear HS HK hk
        go_wp2
        go_roundg (m - (i + 1))
        case measure => omega
        case rel => exact ⟨i + 1, R, by go_num, by omega, Nat.le_refl _, by omega, HS2⟩
    · obtain rfl : m = i := by omega
      have HM : Hid (R.Pairwise (· < ·) ∧ (∀ z, z ∈ R ↔ z ∈ fldF E) ∧ R.length ≤ m) := by
        obtain ⟨h1, h2, h3, h4⟩ := HS.out
        rw [List.take_of_length_le (by omega)] at h3
        exact ⟨h2, h3, hRl⟩
      obtain ⟨a2, c2, hv2, hTL⟩ := HS.out.1.tl
      subst hv2
      obtain ⟨w2, hw2⟩ : ∃ w2, w2 = wr := ⟨_, rfl⟩
      subst hw2
      have HG2 : Aside (Evs w2 ao m c E ∧ Below w.heap.size w w2 ∧ TL w2 a2 R) := ⟨HE.out.below HS.out.2.2.2 (Nat.le_refl _), HS.out.2.2.2, hTL⟩
      clear HS hTL HE
      obtain ⟨n, hn⟩ : ∃ n, n = R.length := ⟨_, rfl⟩
      have HN : Hid (n = R.length) := hn
      rw [← hn] at hRl ⊢
      clear hn
      have H1 : Aside (QRow w2 w2.heap.size (.slice none 0 0) ((R.take 0).map (pairF E)) ∧ Below w2.heap.size w2 w2) := ⟨Qrow_nil _ _, Below.refl _ _⟩
      go_wp2
      go_loopg [5, 32] n (fun kx s5 s32 wr => ∃ k : Nat, s32 = .int .i64 k ∧ k ≤ n ∧ n - k ≤ kx ∧ Aside (QRow wr w2.heap.size s5 ((R.take k).map (pairF E)) ∧ Below w2.heap.size w2 wr))
      case atStart => exact ⟨0, rfl, Nat.zero_le _, by omega, H1⟩
      case round =>
        clear H1
        obtain ⟨k, rfl, hkn, hkx2, HS⟩ := hrel
        by_cases hlt2 : k < n
        · have hltz2 : (k : Int) < (n : Int) := by omega
          obtain ⟨x, hx⟩ : ∃ x, R[k]? = some x := ⟨_, List.getElem?_eq_getElem (by have := HN.out; omega)⟩
          obtain ⟨g, rfl, dx⟩ := (HG2.out.2.2.below HS.out.2 (Nat.le_refl _)) k x hx
          have hEk := HG2.out.1.below HS.out.2 (Nat.le_refl _)
          have HK : Hid ((R.take (k + 1)).map (pairF E) = (R.take k).map (pairF E) ++ [(x, valF E x)]) := pairs_take hx
          have hll : ((R.take k).map (pairF E)).length ≤ k := by rw [List.length_map, List.length_take]; omega
          generalize (R.take k).map (pairF E) = Z at *
          go_wp2_with fail
          refine (rfget_any ao m c E x wr hEk (by omega)).mono ?_
          rintro e w3 ⟨rfl, hb3⟩
          have HS3 : Aside (QRow w3 w2.heap.size u5 Z ∧ Below w2.heap.size w2 w3) := ⟨HS.out.1.below hb3 (Nat.le_refl _), HS.out.2.trans (hb3.mono HS.out.2.size)⟩
          clear hb3 HS hEk dx
          obtain ⟨g', hg', dx⟩ := (HG2.out.2.2.below HS3.out.2 (Nat.le_refl _)) k x hx
          obtain rfl : g = g' := by simpa using hg'
          generalize valF E x = y at *
          generalize okF E x = t at *
          have hRow : QRow (w3.alloc (.cells (prc (x, y)) 47)) w2.heap.size u5 Z := HS3.out.1.below ((Below.refl _ _).alloc (Nat.le_refl _) _) (Nat.le_refl _)
          have hle : w2.heap.size ≤ w3.heap.size := HS3.out.2.size
          have HB3 : Hid (Below w2.heap.size w2 (w3.alloc (.cells (prc (x, y)) 47))) := HS3.out.2.alloc hle _
          clear HS3 hx hg'
          go_wp2_with (first | refine build_Q1 (d := (x, y)) rfl rfl rfl ?_ | refine wpList_appQ (x, y) rfl _ _ rfl w2.heap.size _ Z rfl hRow rfl (by omega) hle ?_)
          intro v4 w4 hR4 hg4
          have HS4 : Aside (QRow w4 w2.heap.size v4 ((R.take (k + 1)).map (pairF E)) ∧ Below w2.heap.size w2 w4) := ⟨by rw [HK.out]; exact hR4, HB3.out.grown hg4 (by simp; omega) hRow.own⟩
          clear hR4 hg4 hRow HB3 HK hle dx
          go_wp2
          go_roundg (n - (k + 1))
          case measure => omega
          case rel => exact ⟨k + 1, by go_num, by omega, Nat.le_refl _, HS4⟩
        · obtain rfl : n = k := by omega
          have HF : Hid (QRow wr w.heap.size u5 (R.map (pairF E)) ∧ Below w.heap.size w wr) := by
            have h1 := HS.out
            rw [List.take_of_length_le (by have := HN.out; omega)] at h1
            exact ⟨h1.1.lower HG2.out.2.1.size, HG2.out.2.1.trans (h1.2.mono HG2.out.2.1.size)⟩
          clear HS HG2
          go_wp2
          go_ret
          exact ⟨_, R, rfl, HF.out.1, HM.out.1, HM.out.2.1, HM.out.2.2, HF.out.2⟩
end Go.Proofs.Ytmbecjmmcekpnaa
