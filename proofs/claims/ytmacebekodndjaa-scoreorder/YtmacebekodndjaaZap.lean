/-
  ScoreApart: the walk.
-/
import Derived.Test.YtmacebekodndjaaZwk
import Derived.Test.YtmacebekodndjaaZal
namespace Go.Proofs.Ytmacebekodndjaa
set_option maxRecDepth 100000
open Go.RowKit

/-- How many of the first ones are this member's. -/
def cntP (S : List Pr) (s : List UInt8) (k : Nat) : Nat := ((S.take k).filter fun d => decide (d.1 = s)).length
theorem cntP_succ {S : List Pr} {s : List UInt8} {k : Nat} {d : Pr} (h : S[k]? = some d) : cntP S s (k + 1) = if decide (d.1 = s) then cntP S s k + 1 else cntP S s k := by
  unfold cntP
  rw [List.take_add_one, h, List.filter_append, List.length_append]
  by_cases hd : d.1 = s
  · simp [hd]
  · simp [hd]
theorem cntP_le (S : List Pr) (s : List UInt8) (k : Nat) : cntP S s k ≤ k := by
  unfold cntP
  refine Nat.le_trans (List.length_filter_le _ _) ?_
  rw [List.length_take]
  omega
theorem all_same_le : ∀ {F : List Pr} {p : Pr}, F.Nodup → (∀ d ∈ F, d = p) → F.length ≤ 1
  | [], _, _, _ => by simp
  | [_], _, _, _ => by simp
  | x :: y :: F, p, h, h2 => by
    have e1 := h2 x (by simp)
    have e2 := h2 y (by simp)
    have := (List.nodup_cons.1 h).1
    rw [e1, e2] at this
    simp at this
theorem strP_nodup {S : List Pr} (h : StrP S) : S.Nodup := by
  unfold List.Nodup
  refine List.Pairwise.imp (fun {a b} (hab : Bef a b) => ?_) h
  intro e
  subst e
  exact bef_irrefl _ hab
theorem cntP_all {E : List Ev} {S : List Pr} {s : List UInt8} {n : Nat} (h : IsAll E S) (hn : n = S.length) : cntP S s n = if okZ E s then 1 else 0 := by
  unfold cntP
  rw [List.take_of_length_le (by omega)]
  have h1 : ((S.filter fun d => decide (d.1 = s))).length ≤ 1 := all_same_le (p := pairZ E s) ((strP_nodup h.1).sublist List.filter_sublist) (fun d hd => by
    obtain ⟨h2, h3⟩ := List.mem_filter.1 hd
    have e : d.1 = s := of_decide_eq_true h3
    have := ((h.2 d).1 h2).2
    exact Prod.ext e (by rw [this, e]; rfl))
  by_cases hk : okZ E s = true
  · rw [if_pos hk]
    have hin : pairZ E s ∈ S.filter fun d => decide (d.1 = s) := List.mem_filter.2 ⟨(h.2 _).2 ⟨(okZ_iff E s).1 hk, rfl⟩, decide_eq_true rfl⟩
    have := List.length_pos_of_mem hin
    omega
  · rw [if_neg hk]
    have : (S.filter fun d => decide (d.1 = s)) = [] := by
      rw [List.filter_eq_nil_iff]
      intro d hd he
      have e : d.1 = s := of_decide_eq_true he
      exact hk ((okZ_iff E s).2 (e ▸ ((h.2 d).1 hd).1))
    rw [this]
    rfl
set_option maxHeartbeats 4000000 in
theorem zapart_walk (ao : Option Addr) (m c : Nat) (E : List Ev) (s : List UInt8) (w : World) (hE : Evs w ao m c E) (hs : s.length ≤ 9223372036854775807) :
    Calls Try.prog 6 #[.slice ao m c, .string (sb s)] w fun e w' => e = .returned (.bool true) ∧ Below w.heap.size w w' := by
  have hlen := hE.len
  have HE : Aside (Evs w ao m c E) := hE
  have hwd : Hid (∀ e ∈ E, Wide e) := hE.wide
  clear hE
  go_enter Try.func6, Try.ntmps6
  go_wp2_with fail
  refine (awake_any w).mono ?_
  rintro e w1 ⟨rfl, hb1⟩
  have HE1 : Aside (Evs w1 ao m c E ∧ Below w.heap.size w w1) := ⟨HE.out.below hb1 (Nat.le_refl _), hb1⟩
  clear hb1
  go_wp2_with fail
  refine (few_any ao m c E w1 HE1.out.1).mono ?_
  rintro e w2 ⟨t, rfl, ht, hb2⟩
  have HB2 : Hid (Below w.heap.size w w2) := HE1.out.2.trans (hb2.mono HE1.out.2.size)
  clear hb2 HE1
  cases t with
  | false =>
    clear ht
    go_wp2_with fail
    refine (awake_any w2).mono ?_
    rintro e w3 ⟨rfl, hb3⟩
    have HB3 : Hid (Below w.heap.size w w3) := HB2.out.trans (hb3.mono HB2.out.size)
    clear hb3
    go_wp2
    go_ret
    exact ⟨rfl, HB3.out⟩
  | true =>
    have hm : m ≤ 150 := ht rfl
    clear ht
    have H3 : Aside (Row w2 w.heap.size (.slice none 0 0) (ownZ (E.take 0) s) ∧ Below w.heap.size w w2) := ⟨row_nil _ _, HB2.out⟩
    clear HB2
    go_wp2
    go_loopg [5, 24] m (fun kx s5 s24 wr => ∃ i : Nat, s24 = .int .i64 i ∧ i ≤ m ∧ m - i ≤ kx ∧ Aside (Row wr w.heap.size s5 (ownZ (E.take i) s) ∧ Below w.heap.size w wr))
    case atStart => exact ⟨0, rfl, Nat.zero_le _, by omega, H3⟩
    case round =>
      clear H3
      obtain ⟨i, rfl, him, hkx, HS⟩ := hrel
      by_cases hlt : i < m
      · have hltz : (i : Int) < (m : Int) := by omega
        obtain ⟨b, off, u, rfl, hui, hu, hr, hbl⟩ := (HE.out.below HS.out.2 (Nat.le_refl _)).at hlt
        have hu16 := hu.1
        have hix := fun W : World => index_ev W (b := b) (off := off) (k := i) (m := m) (c := c) hlt
        have c21 := range_field hr hu16
        have hkb := sb_beq u.field s
        have HSN : Hid (ownZ (E.take (i + 1)) s = if decide (u.field = s) then ownZ (E.take i) s ++ [u] else ownZ (E.take i) s) := ownZ_take hui s
        have hll : (ownZ (E.take i) s).length ≤ i := Nat.le_trans (ownZ_len _ _) (by rw [List.length_take]; omega)
        have hle0 : w.heap.size ≤ wr.heap.size := HS.out.2.size
        clear hui
        generalize ownZ (E.take i) s = T at *
        by_cases hf : u.field = s
        · have HSN2 : Hid (ownZ (E.take (i + 1)) s = T ++ [u]) := by show _ = _; rw [HSN.out, decide_eq_true hf]; rfl
          rw [decide_eq_true hf] at hkb
          have hRow : Row (wr.alloc (.cells (evc u) 43)) w.heap.size u5 T := HS.out.1.below ((Below.refl _ _).alloc (Nat.le_refl _) _) (Nat.le_refl _)
          have hF : Evs (wr.alloc (.cells (evc u) 43)) (some ⟨wr.heap.size, 0, none⟩) 1 1 [u] := evs_single _ _ u hu (liesE_new wr u)
          have hle : w.heap.size ≤ (wr.alloc (.cells (evc u) 43)).heap.size := by simp; omega
          have HB3 : Hid (Below w.heap.size w (wr.alloc (.cells (evc u) 43))) := HS.out.2.alloc hle0 _
          clear HS HSN hf
          go_wp2_with (first | refine load_ev_mid rfl rfl rfl hr hu16 ?_ | refine build_ev1 rfl rfl rfl hu16 ?_ | refine wpList_appE rfl _ _ rfl w.heap.size _ T rfl hRow _ 1 1 [u] rfl hF (by omega) hle ?_)
          intro v4 w4 hR4 hg4 ho4
          have HS4 : Aside (Row w4 w.heap.size v4 (ownZ (E.take (i + 1)) s) ∧ Below w.heap.size w w4) := ⟨by rw [HSN2.out]; exact hR4, HB3.out.grown hg4 hle hRow.own⟩
          clear hR4 hg4 ho4 hRow hF HB3 HSN2 hle c21 hr hix hkb
          go_wp2
          go_roundg (m - (i + 1))
          case measure => omega
          case rel => exact ⟨i + 1, by go_num, by omega, Nat.le_refl _, HS4⟩
        · have HS4 : Aside (Row wr w.heap.size u5 (ownZ (E.take (i + 1)) s) ∧ Below w.heap.size w wr) := by
            refine ⟨?_, HS.out.2⟩
            rw [HSN.out, decide_eq_false hf]
            exact HS.out.1
          rw [decide_eq_false hf] at hkb
          clear HS HSN hr hf
          go_wp2
          go_roundg (m - (i + 1))
          case measure => omega
          case rel => exact ⟨i + 1, by go_num, by omega, Nat.le_refl _, HS4⟩
      · obtain rfl : m = i := by omega
        have HS1 : Aside (Row wr w.heap.size u5 (ownZ E s) ∧ Below w.heap.size w wr) := by
          have := HS.out
          rw [List.take_of_length_le (by omega)] at this
          exact this
        have hwF : ∀ e ∈ ownZ E s, Wide e := fun e he => hwd.out e (List.mem_filter.1 he).1
        have hlF : (ownZ E s).length ≤ 1000 := Nat.le_trans (ownZ_len _ _) (by omega)
        obtain ⟨aF, cF, hv, hEF⟩ := HS1.out.1.evs hwF
        have HE2 : Aside (Evs wr ao m c E ∧ Evs wr aF (ownZ E s).length cF (ownZ E s) ∧ Below w.heap.size w wr) := ⟨HE.out.below HS1.out.2 (Nat.le_refl _), hEF, HS1.out.2⟩
        have HO : Hid (numZ (ownZ E s) s = numZ E s ∧ okZ (ownZ E s) s = okZ E s) := ⟨numZ_own E s, okZ_own E s⟩
        clear HS HS1 hwF HE hEF
        subst hv
        generalize ownZ E s = F at *
        go_wp2_with fail
        refine (zget_any ao m c E s wr HE2.out.1 (by omega) hs).mono ?_
        rintro e w3 ⟨rfl, hb3⟩
        have HE3 : Aside (Evs w3 ao m c E ∧ Evs w3 aF F.length cF F ∧ Below w.heap.size w w3) := ⟨HE2.out.1.below hb3 (Nat.le_refl _), HE2.out.2.1.below hb3 (Nat.le_refl _), HE2.out.2.2.trans (hb3.mono HE2.out.2.2.size)⟩
        clear hb3 HE2
        go_wp2_with fail
        refine (zget_any aF F.length cF F s w3 HE3.out.2.1 hlF hs).mono ?_
        rintro e w4 ⟨rfl, hb4⟩
        have HE4 : Aside (Evs w4 ao m c E ∧ Below w.heap.size w w4) := ⟨HE3.out.1.below hb4 (Nat.le_refl _), HE3.out.2.2.trans (hb4.mono HE3.out.2.2.size)⟩
        rw [HO.out.1, HO.out.2]
        clear hb4 HE3 HO
        go_wp2_with fail
        refine (zall_any ao m c E w4 HE4.out.1 (by omega)).mono ?_
        rintro e w5 ⟨v5, S, rfl, hR5, hA5, hl5, hb5⟩
        obtain ⟨a5, c5, hv5, hL5⟩ := hR5.pl
        have HB5 : Hid (Below w.heap.size w w5) := HE4.out.2.trans (hb5.mono HE4.out.2.size)
        have H1 : Aside (PL w5 a5 S) := hL5
        have HSC : Hid (∀ (k : Nat) (d : Pr), S[k]? = some d → d.1 = s → d.2 = numZ E s) := fun k d hd he => by
          rw [← he]
          exact ((hA5.2 d).1 (List.mem_of_getElem? hd)).2
        obtain ⟨n, hn⟩ : ∃ n, n = S.length := ⟨_, rfl⟩
        have HN : Hid (n = S.length ∧ cntP S s n = if okZ E s then 1 else 0) := ⟨hn, cntP_all hA5 hn⟩
        subst hv5
        rw [← hn] at hl5 ⊢
        clear hn hb5 HE4 hR5 hL5 hA5
        generalize numZ E s = y at *
        generalize okZ E s = q at *
        have H7 : Aside (Below w5.heap.size w5 w5) := Below.refl _ _
        go_wp2
        go_loopg [12, 59] n (fun kx s12 s59 wr => ∃ k : Nat, s59 = .int .i64 (k : Int) ∧ s12 = .int .i64 ((cntP S s k : Nat) : Int) ∧ k ≤ n ∧ n - k ≤ kx ∧ Aside (Below w5.heap.size w5 wr))
        case atStart => exact ⟨0, rfl, rfl, Nat.zero_le _, by omega, H7⟩
        case round =>
          clear H7
          obtain ⟨k, rfl, rfl, hk, hkx, HB⟩ := hrel
          by_cases hkm : k < n
          · have hkz : (k : Int) < (n : Int) := by omega
            obtain ⟨d, hd⟩ : ∃ d, S[k]? = some d := ⟨_, List.getElem?_eq_getElem (by have := HN.out.1; omega)⟩
            obtain ⟨g1, rfl, x0, x1⟩ := (H1.out.below HB.out (Nat.le_refl _)) k d hd
            have hix := fun W : World => index_P W (b := g1) (off := 0) (k := k) (m := n) (c := c5) hkm
            simp only [Nat.zero_add] at hix
            have hkb := sb_beq d.1 s
            have HK : Hid (cntP S s (k + 1) = if decide (d.1 = s) then cntP S s k + 1 else cntP S s k) := cntP_succ hd
            have hcl : cntP S s k ≤ k := cntP_le S s k
            generalize cntP S s k = cc at *
            by_cases he : d.1 = s
            · have HK2 : Hid (cntP S s (k + 1) = cc + 1) := by show _ = _; rw [HK.out, decide_eq_true he]; rfl
              rw [decide_eq_true he] at hkb
              rw [HSC.out k d hd he] at x1
              clear HK hd he
              go_wp2
              go_roundg (n - (k + 1))
              case measure => omega
              case rel => exact ⟨k + 1, by go_num, by rw [HK2.out]; go_num, by omega, Nat.le_refl _, HB⟩
            · have HK2 : Hid (cntP S s (k + 1) = cc) := by show _ = _; rw [HK.out, decide_eq_false he]; rfl
              rw [decide_eq_false he] at hkb
              clear HK hd he
              go_wp2
              go_roundg (n - (k + 1))
              case measure => omega
              case rel => exact ⟨k + 1, by go_num, by rw [HK2.out], by omega, Nat.le_refl _, HB⟩
          · obtain rfl : k = n := by omega
            have HB7 : Hid (Below w.heap.size w wr) := HB5.out.trans (HB.out.mono HB5.out.size)
            rw [HN.out.2]
            clear HB
            cases q with
            | true =>
              simp only [if_true]
              go_wp2
              go_ret
              exact ⟨rfl, HB7.out⟩
            | false =>
              simp only [Bool.false_eq_true, if_false]
              go_wp2
              go_ret
              exact ⟨rfl, HB7.out⟩
end Go.Proofs.Ytmacebekodndjaa
