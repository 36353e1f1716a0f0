/-
  FieldApart: the walk.
-/
import Derived.Test.YtmbecjmmcekpnaaFwk
import Derived.Deep.RegionHeld3
namespace Go.Proofs.Ytmbecjmmcekpnaa
set_option maxRecDepth 100000
open Go.RowKit Go.Sort

/-- This pair is among the first ones. -/
def fndP (S : List Pr) (d : Pr) (k : Nat) : Bool := (S.take k).any fun x => decide (x = d)
theorem fndP_succ {S : List Pr} {d x : Pr} {k : Nat} (h : S[k]? = some x) : fndP S d (k + 1) = (fndP S d k || decide (x = d)) := by
  unfold fndP
  rw [List.take_add_one, h, List.any_append]
  simp
theorem fndP_all {R : List (List UInt8)} {E : List Ev} {s : List UInt8} {n : Nat} (hR : ∀ z, z ∈ R ↔ z ∈ fldF E) (hn : n = (R.map (pairF E)).length) : fndP (R.map (pairF E)) (s, valF E s) n = okF E s := by
  unfold fndP
  rw [List.take_of_length_le (by omega), Bool.eq_iff_iff, okF_iff, ← hR, List.any_eq_true]
  constructor
  · rintro ⟨x, hx, he⟩
    obtain ⟨z, hz, rfl⟩ := List.mem_map.1 hx
    have : z = s := congrArg Prod.fst (of_decide_eq_true he)
    exact this ▸ hz
  · exact fun h => ⟨pairF E s, List.mem_map.2 ⟨s, h, rfl⟩, decide_eq_true rfl⟩
theorem pairs_up {R : List (List UInt8)} {E : List Ev} (h : R.Pairwise (· < ·)) {p k : Nat} {x y : Pr} (hpk : p < k) (hx : (R.map (pairF E))[p]? = some x) (hy : (R.map (pairF E))[k]? = some y) : x.1 < y.1 := by
  obtain ⟨hp, rfl⟩ := List.getElem?_eq_some_iff.1 hx
  obtain ⟨hk, rfl⟩ := List.getElem?_eq_some_iff.1 hy
  rw [List.length_map] at hp hk
  rw [List.getElem_map, List.getElem_map]
  exact List.pairwise_iff_getElem.1 h p k hp hk hpk
theorem less_sb {x y : List UInt8} (h : x < y) : Op.bytesLess (sb x).toList (sb y).toList = true := by
  rw [ByteArray.toList_eq, ByteArray.toList_eq, data_sb, data_sb, bytesLess_eq]
  exact decide_eq_true h
theorem geq_sb {x y : List UInt8} (h : x < y) (W : World) : (binOp .geq 9 (.string (sb x)) (.string (sb y))).run Try.prog W = .ok (.bool false) W := by
  rw [show binOp .geq 9 (.string (sb x)) (.string (sb y)) = pure (.bool !(Op.bytesLess (sb x).toList (sb y).toList)) by simp [binOp, Op.stringOp], less_sb h]
  rfl
theorem valF_own (E : List Ev) (s : List UInt8) : valF (ownF E s) s = valF E s := by unfold valF; rw [ownF_last]
theorem okF_own (E : List Ev) (s : List UInt8) : okF (ownF E s) s = okF E s := by unfold okF; rw [ownF_last]
set_option maxHeartbeats 4000000 in
theorem fapart_walk (ao : Option Addr) (m c : Nat) (E : List Ev) (s : List UInt8) (w : World) (hE : Evs w ao m c E) :
    Calls Try.prog 5 #[.slice ao m c, .string (sb s)] w fun e w' => e = .returned (.bool true) ∧ Below w.heap.size w w' := by
  have hlen := hE.len
  have HE : Aside (Evs w ao m c E) := hE
  have hwd : Hid (∀ e ∈ E, Wide e) := hE.wide
  clear hE
  go_enter Try.func5, Try.ntmps5
  go_wp2_with fail
  refine (awake_any w).mono ?_
  rintro e w1 ⟨rfl, hb1⟩
  have HE1 : Aside (Evs w1 ao m c E ∧ Below w.heap.size w w1) := ⟨HE.out.below hb1 (Nat.le_refl _), hb1⟩
  clear hb1
  go_wp2_with fail
  refine (few_any ao m c E w1 HE1.out.1).mono ?_
  rintro e w2 ⟨t, rfl, ht, hb2⟩
  have HB2 : Hid (Below w.heap.size w w2) := HE1.out.2.trans (hb2.mono HE1.out.2.size)
  clear hb2 HE1
  cases t with
  | false =>
    clear ht
    go_wp2_with fail
    refine (awake_any w2).mono ?_
    rintro e w3 ⟨rfl, hb3⟩
    have HB3 : Hid (Below w.heap.size w w3) := HB2.out.trans (hb3.mono HB2.out.size)
    clear hb3
    go_wp2
    go_ret
    exact ⟨rfl, HB3.out⟩
  | true =>
    have hm : m ≤ 200 := ht rfl
    clear ht
    have H3 : Aside (Row w2 w.heap.size (.slice none 0 0) (ownF (E.take 0) s) ∧ Below w.heap.size w w2) := ⟨row_nil _ _, HB2.out⟩
    clear HB2
    go_wp2
    go_loopg [5, 24] m (fun kx s5 s24 wr => ∃ i : Nat, s24 = .int .i64 i ∧ i ≤ m ∧ m - i ≤ kx ∧ Aside (Row wr w.heap.size s5 (ownF (E.take i) s) ∧ Below w.heap.size w wr))
    case atStart => exact ⟨0, rfl, Nat.zero_le _, by omega, H3⟩
    case round =>
      clear H3
      obtain ⟨i, rfl, him, hkx, HS⟩ := hrel
      by_cases hlt : i < m
      · have hltz : (i : Int) < (m : Int) := by omega
        obtain ⟨b, off, u, rfl, hui, hu, hr, hbl⟩ := (HE.out.below HS.out.2 (Nat.le_refl _)).at hlt
        have hu16 := hu.1
        have hix := fun W : World => index_ev W (b := b) (off := off) (k := i) (m := m) (c := c) hlt
        have c21 := range_field hr hu16
        have hkb := sb_beq u.field s
        have HSN : Hid (ownF (E.take (i + 1)) s = if decide (u.field = s) then ownF (E.take i) s ++ [u] else ownF (E.take i) s) := ownF_take hui s
        have hll : (ownF (E.take i) s).length ≤ i := Nat.le_trans (ownF_len _ _) (by rw [List.length_take]; omega)
        have hle0 : w.heap.size ≤ wr.heap.size := HS.out.2.size
        clear hui
        generalize ownF (E.take i) s = T at *
        by_cases hf : u.field = s
        · have HSN2 : Hid (ownF (E.take (i + 1)) s = T ++ [u]) := by show _ = _; rw [HSN.out, decide_eq_true hf]; rfl
          rw [decide_eq_true hf] at hkb
          have hRow : Row (wr.alloc (.cells (evc u) 40)) w.heap.size u5 T := HS.out.1.below ((Below.refl _ _).alloc (Nat.le_refl _) _) (Nat.le_refl _)
          have hF : Evs (wr.alloc (.cells (evc u) 40)) (some ⟨wr.heap.size, 0, none⟩) 1 1 [u] := evs_single _ _ u hu (liesE_new wr u)
          have hle : w.heap.size ≤ (wr.alloc (.cells (evc u) 40)).heap.size := by simp; omega
          have HB3 : Hid (Below w.heap.size w (wr.alloc (.cells (evc u) 40))) := HS.out.2.alloc hle0 _
          clear HS HSN hf
          go_wp2_with (first | refine load_ev_mid rfl rfl rfl hr hu16 ?_ | refine build_ev1 rfl rfl rfl hu16 ?_ | refine wpList_appE rfl _ _ rfl w.heap.size _ T rfl hRow _ 1 1 [u] rfl hF (by omega) hle ?_)
          intro v4 w4 hR4 hg4 ho4
          have HS4 : Aside (Row w4 w.heap.size v4 (ownF (E.take (i + 1)) s) ∧ Below w.heap.size w w4) := ⟨by rw [HSN2.out]; exact hR4, HB3.out.grown hg4 hle hRow.own⟩
          clear hR4 hg4 ho4 hRow hF HB3 HSN2 hle c21 hr hix hkb
          go_wp2
          go_roundg (m - (i + 1))
          case measure => omega
          case rel => exact ⟨i + 1, by go_num, by omega, Nat.le_refl _, HS4⟩
        · have HS4 : Aside (Row wr w.heap.size u5 (ownF (E.take (i + 1)) s) ∧ Below w.heap.size w wr) := by
            refine ⟨?_, HS.out.2⟩
            rw [HSN.out, decide_eq_false hf]
            exact HS.out.1
          rw [decide_eq_false hf] at hkb
          clear HS HSN hr hf
          go_wp2
          go_roundg (m - (i + 1))
          case measure => omega
          case rel => exact ⟨i + 1, by go_num, by omega, Nat.le_refl _, HS4⟩
      · obtain rfl : m = i := by omega
        have HS1 : Aside (Row wr w.heap.size u5 (ownF E s) ∧ Below w.heap.size w wr) := by
          have := HS.out
          rw [List.take_of_length_le (by omega)] at this
          exact this
        have hwF : ∀ e ∈ ownF E s, Wide e := fun e he => hwd.out e (List.mem_filter.1 he).1
        have hlF : (ownF E s).length ≤ 1000 := Nat.le_trans (ownF_len _ _) (by omega)
        obtain ⟨aF, cF, hv, hEF⟩ := HS1.out.1.evs hwF
        have HE2 : Aside (Evs wr ao m c E ∧ Evs wr aF (ownF E s).length cF (ownF E s) ∧ Below w.heap.size w wr) := ⟨HE.out.below HS1.out.2 (Nat.le_refl _), hEF, HS1.out.2⟩
        have HO : Hid (valF (ownF E s) s = valF E s ∧ okF (ownF E s) s = okF E s) := ⟨valF_own E s, okF_own E s⟩
        clear HS HS1 hwF HE hEF
        subst hv
        generalize ownF E s = F at *
        go_wp2_with fail
        refine (fget_any ao m c E s wr HE2.out.1 (by omega)).mono ?_
        rintro e w3 ⟨rfl, hb3⟩
        have HE3 : Aside (Evs w3 ao m c E ∧ Evs w3 aF F.length cF F ∧ Below w.heap.size w w3) := ⟨HE2.out.1.below hb3 (Nat.le_refl _), HE2.out.2.1.below hb3 (Nat.le_refl _), HE2.out.2.2.trans (hb3.mono HE2.out.2.2.size)⟩
        clear hb3 HE2
        go_wp2_with fail
        refine (fget_any aF F.length cF F s w3 HE3.out.2.1 hlF).mono ?_
        rintro e w4 ⟨rfl, hb4⟩
        have HE4 : Aside (Evs w4 ao m c E ∧ Below w.heap.size w w4) := ⟨HE3.out.1.below hb4 (Nat.le_refl _), HE3.out.2.2.trans (hb4.mono HE3.out.2.2.size)⟩
        clear hb4 HE3
        rw [HO.out.1, HO.out.2]
        go_wp2_with fail
        refine (fall_any ao m c E w4 HE4.out.1 (by omega)).mono ?_
        rintro e w5 ⟨v5, R5, rfl, hR5, hs5, hm5, hl5, hb5⟩
        obtain ⟨a5, c5, hv5, hL5⟩ := hR5.pl
        have HB5 : Hid (Below w.heap.size w w5) := HE4.out.2.trans (hb5.mono HE4.out.2.size)
        have hlS : (R5.map (pairF E)).length ≤ 1000 := by rw [List.length_map]; omega
        have H1 : Aside (PL w5 a5 (R5.map (pairF E))) := hL5
        have HFA : Hid (∀ n, n = (R5.map (pairF E)).length → fndP (R5.map (pairF E)) (s, valF E s) n = okF E s) := fun n hn => fndP_all hm5 hn
        have HUP : Hid (∀ (p k : Nat) (x y : Pr), p < k → (R5.map (pairF E))[p]? = some x → (R5.map (pairF E))[k]? = some y → x.1 < y.1) := fun p k x y h1 h2 h3 => pairs_up hs5 h1 h2 h3
        subst hv5
        clear hb5 HE4 hR5 hs5 hm5 hL5 hl5 HO
        generalize R5.map (pairF E) = S at *
        generalize valF E s = y at *
        generalize okF E s = q at *
        obtain ⟨n, hn⟩ : ∃ n, n = S.length := ⟨_, rfl⟩
        have HN : Hid (n = S.length ∧ fndP S (s, y) n = q) := ⟨hn, HFA.out n hn⟩
        rw [← hn] at hlS ⊢
        clear hn HFA
        have H7 : Aside (Below w5.heap.size w5 w5) := Below.refl _ _
        go_wp2
        go_loopg [12, 59] n (fun kx s12 s59 wr => ∃ k : Nat, s59 = .int .i64 (k : Int) ∧ s12 = .bool (fndP S (s, y) k) ∧ k ≤ n ∧ n - k ≤ kx ∧ Aside (Below w5.heap.size w5 wr))
        case atStart => exact ⟨0, rfl, rfl, Nat.zero_le _, by omega, H7⟩
        case round =>
          clear H7
          obtain ⟨k, rfl, rfl, hk, hkx, HB⟩ := hrel
          by_cases hkm : k < n
          · have hkz : (k : Int) < (n : Int) := by omega
            obtain ⟨d, hd⟩ : ∃ d, S[k]? = some d := ⟨_, List.getElem?_eq_getElem (by have := HN.out.1; omega)⟩
            obtain ⟨g1, rfl, x0, x1⟩ := (H1.out.below HB.out (Nat.le_refl _)) k d hd
            have hix := fun W : World => index_P W (b := g1) (off := 0) (k := k) (m := n) (c := c5) hkm
            simp only [Nat.zero_add] at hix
            have hpl := plain_P
            have HK : Hid (fndP S (s, y) (k + 1) = (fndP S (s, y) k || decide (d = (s, y)))) := fndP_succ hd
            have heq : ∀ W, (Op.equalIn 10000 42 (.agg #[.string (sb d.1), .string (sb d.2)]) (.agg #[.string (sb s), .string (sb y)])).run Try.prog W = .ok (decide (d = (s, y))) W := fun W => run_equalIn_P W 9998 d (s, y)
            generalize fndP S (s, y) k = z at *
            generalize decide (d = (s, y)) = z2 at *
            have HB2 : Aside (Below w5.heap.size w5 wr) := HB
            clear HB
            by_cases hk0 : k = 0
            · have hgd : decide ((0 : Int) < (k : Int)) = false := decide_eq_false (by omega)
              have hgn : decide (0 < k) = false := decide_eq_false (by omega)
              clear hk0
              cases z with
              | true =>
                clear heq x0 x1 hix
                go_upto_region 18 with (fail)
                go_quiet (fail)
                go_wp2
                go_roundg (n - (k + 1))
                case measure => omega
                case rel => exact ⟨k + 1, by go_num, by rw [HK.out]; rfl, by omega, Nat.le_refl _, Below.drewN HB2.out nq⟩
              | false =>
                go_upto_region 18 with (fail)
                clear heq x0 x1 hix
                go_quiet (fail)
                go_wp2
                go_roundg (n - (k + 1))
                case measure => omega
                case rel => exact ⟨k + 1, by go_num, by rw [HK.out]; rfl, by omega, Nat.le_refl _, Below.drewN HB2.out nq⟩
            · obtain ⟨p, hp⟩ : ∃ p : Nat, k = p + 1 := ⟨k - 1, by omega⟩
              have hpz : (k : Int) - 1 = (p : Int) := by omega
              have hwp : IntKind.i64.wrap (p : Int) = (p : Int) := by simp [IntKind.wrap, IntKind.signed, IntKind.bits]; omega
              have hwk : IntKind.i64.wrap ((k : Int) - 1) = (p : Int) := by rw [hpz]; exact hwp
              have hpn : p < n := by omega
              have hpnz : (p : Int) < (n : Int) := by omega
              have hgd : decide ((0 : Int) < (k : Int)) = true := decide_eq_true (by omega)
              have hgn : decide (0 < k) = true := decide_eq_true (by omega)
              obtain ⟨d2, hd2⟩ : ∃ d2, S[p]? = some d2 := ⟨_, List.getElem?_eq_getElem (by have := HN.out.1; omega)⟩
              obtain ⟨g1', hg1', y0, y1⟩ := (H1.out.below HB2.out (Nat.le_refl _)) p d2 hd2
              obtain rfl : g1 = g1' := by simpa using hg1'
              have hiy := fun W : World => index_P W (b := g1) (off := 0) (k := p) (m := n) (c := c5) hpn
              simp only [Nat.zero_add] at hiy
              have hge := fun W : World => geq_sb (HUP.out p k d2 d (by omega) hd2 hd) W
              have HP : Hid (k = p + 1) := hp
              clear hp hg1' hd hd2 hk0
              cases z with
              | true =>
                clear heq
                go_upto_region 18 with (fail)
                go_quiet (fail)
                go_wp2
                go_roundg (n - (k + 1))
                case measure => omega
                case rel => exact ⟨k + 1, by go_num, by rw [HK.out]; rfl, by omega, Nat.le_refl _, Below.drewN HB2.out nq⟩
              | false =>
                go_upto_region 18 with (fail)
                clear heq
                go_quiet (fail)
                go_wp2
                go_roundg (n - (k + 1))
                case measure => omega
                case rel => exact ⟨k + 1, by go_num, by rw [HK.out]; rfl, by omega, Nat.le_refl _, Below.drewN HB2.out nq⟩
          · obtain rfl : k = n := by omega
            have HB7 : Hid (Below w.heap.size w wr) := HB5.out.trans (HB.out.mono HB5.out.size)
            rw [HN.out.2]
            clear HB
            have hyb := sb_beq y y
            rw [decide_eq_true rfl] at hyb
            go_wp2
            go_ret
            exact ⟨rfl, HB7.out⟩
end Go.Proofs.Ytmbecjmmcekpnaa
