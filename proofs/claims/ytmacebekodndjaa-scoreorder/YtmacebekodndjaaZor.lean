/-
  ScoreOrder: the walk.
-/
import Derived.Test.YtmacebekodndjaaZap
import Derived.Test.YtmacebekodndjaaZrk
import Derived.Test.YtmacebekodndjaaZco
namespace Go.Proofs.Ytmacebekodndjaa
set_option maxRecDepth 100000
open Go.RowKit Go.Sort

/-- The last events, turned round. -/
def backE (E : List Ev) (j : Nat) : List Ev := (E.drop j).reverse
theorem back_end {E : List Ev} {m : Nat} (h : E.length = m) : backE E m = [] := by rw [backE, List.drop_of_length_le (by omega)]; rfl
theorem back_step {E : List Ev} {j : Nat} {u : Ev} (hu : E[j]? = some u) : backE E j = backE E (j + 1) ++ [u] := by
  obtain ⟨hj, rfl⟩ := List.getElem?_eq_some_iff.1 hu
  rw [backE, List.drop_eq_getElem_cons hj, List.reverse_cons]
  rfl
theorem back_all (E : List Ev) : backE E 0 = E.reverse := by simp [backE]
theorem back_len (E : List Ev) (j : Nat) : (backE E j).length = E.length - j := by simp [backE]
/-- From the place j on none has the dot of one ahead of it. -/
def NoneFrom (E : List Ev) (j : Nat) : Prop := ∀ p x, j ≤ p → E[p]? = some x → ∀ q y, q < p → E[q]? = some y → ¬ sameDot x y
theorem none_end {E : List Ev} {m : Nat} (h : E.length = m) : NoneFrom E m := fun p x hp hx => by
  have := (List.getElem?_eq_some_iff.1 hx).1
  omega
theorem none_step {E : List Ev} {j : Nat} {x : Ev} (h : NoneFrom E (j + 1)) (hx : E[j]? = some x) (hn : ∀ q y, q < j → E[q]? = some y → ¬ sameDot x y) : NoneFrom E j := fun p z hp hz => by
  by_cases hpj : p = j
  · subst hpj
    rw [hx] at hz
    obtain rfl := Option.some.inj hz
    exact hn
  · exact h p z (by omega) hz
theorem none_unlike {E : List Ev} (h : NoneFrom E 0) : Unlike E := by
  unfold Unlike
  rw [List.pairwise_iff_getElem]
  intro i j hi hj hij hs
  exact h j _ (Nat.zero_le _) (List.getElem?_eq_getElem hj) i _ hij (List.getElem?_eq_getElem hi) ⟨hs.1.symm, hs.2.symm⟩
theorem load_cellI {w : World} {ad : Addr} {v : Value} (h : w.cell? ad = some v) : (loadVar 3 ad).run Try.prog w = .ok v w := by
  have h3 : Try.prog.underlying 3 = some (.int .i64) := by kernel_rfl
  simp [loadVar, isAgg, run_underlying h3, Sem.run_bind, h]
theorem load_cellS {w : World} {ad : Addr} {v : Value} (h : w.cell? ad = some v) : (loadVar 9 ad).run Try.prog w = .ok v w := by
  have h3 : Try.prog.underlying 9 = some .string := by kernel_rfl
  simp [loadVar, isAgg, run_underlying h3, Sem.run_bind, h]
theorem field_P0 (w : World) (b i : Nat) : (Instr.fieldAt 45 (.pointer (some ⟨b, i, none⟩)) 0).run Try.prog w = .ok (.pointer (some ⟨b, i + 0, none⟩)) w := by go_simp
theorem field_P1 (w : World) (b i : Nat) : (Instr.fieldAt 45 (.pointer (some ⟨b, i, none⟩)) 1).run Try.prog w = .ok (.pointer (some ⟨b, i + 1, none⟩)) w := by go_simp
theorem load_Pm {w : World} {b k : Nat} {d : Pr} (h : w.rangeAt b k (prl d)) : (loadVar 45 ⟨b, k, none⟩).run Try.prog w = .ok (.agg (prc d)) w :=
  run_loadVar_mid (P := Try.prog) w b k 45 (prl d) _ h Try.underlying45 rfl (sizeP d)
theorem index_P0 (w : World) {b k m c : Nat} (hk : k < m) : (Instr.indexAt 28 (.slice (some ⟨b, 0, none⟩) m c) (.int .i64 (k : Int))).run Try.prog w = .ok (.pointer (some ⟨b, k * 2, none⟩)) w := by
  have h := index_P w (b := b) (off := 0) (k := k) (m := m) (c := c) hk
  rw [Nat.zero_add] at h
  exact h
theorem eqGuard_P (w : World) {op : BinOp} {x y : Operand} (d e : Pr) : (eqGuard op 45 x y (.agg (prc d)) (.agg (prc e))).run Try.prog w = .ok () w := run_eqGuard_agg w _ _ _ _ _ _ plain_P
theorem neq_P (w : World) (d : Pr) : (binOp .neq 45 (.agg (prc d)) (.agg (prc d))).run Try.prog w = .ok (.bool false) w := by
  rw [run_neq_struct, run_equalIn_P w 9998, Result.andThen_ok, decide_eq_true rfl]
  rfl
theorem neq_i (W : World) (x : Int) : (binOp .neq 3 (.int .i64 x) (.int .i64 x)).run Try.prog W = .ok (.bool false) W := by simp [go_sem]
theorem gtr_i (W : World) (m n : Int) {t : Bool} (h : decide (n < m) = t) : (binOp .gtr 3 (.int .i64 m) (.int .i64 n)).run Try.prog W = .ok (.bool t) W := by
  subst h
  simp [go_sem]
theorem eql_i (W : World) (m n : Int) {t : Bool} (h : decide (m = n) = t) : (binOp .eql 3 (.int .i64 m) (.int .i64 n)).run Try.prog W = .ok (.bool t) W := by
  have e : (m == n) = t := by rw [← h, Bool.eq_iff_iff]; simp
  simp [go_sem, e]
theorem sub_one (W : World) (q : Nat) (hq : q ≤ 1048576) : (binOp .sub 3 (.int .i64 ((q + 1 : Nat) : Int)) (.int .i64 1)).run Try.prog W = .ok (.int .i64 (q : Int)) W := by
  have hw : IntKind.i64.wrap (q : Int) = (q : Int) := by simp [IntKind.wrap, IntKind.signed, IntKind.bits]; omega
  have he : (((q + 1 : Nat) : Int) - 1) = (q : Int) := by omega
  simp only [go_sem, he, hw]
  rfl
theorem rank_own {E : List Ev} {S : List Pr} (h : IsAll E S) {k : Nat} {d : Pr} (hd : S[k]? = some d) : rkN S d.1 = (k : Int) ∧ rkB S d.1 = true :=
  rkN_at (fun j x hj hx he => by have := isAll_apart h hx hd he; omega) hd rfl
theorem rise_at {S : List Pr} (h : StrP S) {p k : Nat} {x y : Pr} (hpk : p < k) (hx : S[p]? = some x) (hy : S[k]? = some y) : Bef x y := by
  obtain ⟨hp, rfl⟩ := List.getElem?_eq_some_iff.1 hx
  obtain ⟨hk, rfl⟩ := List.getElem?_eq_some_iff.1 hy
  exact List.pairwise_iff_getElem.1 h p k hp hk hpk
set_option maxHeartbeats 4000000 in
theorem zorder_walk (ao : Option Addr) (m c : Nat) (E : List Ev) (w : World) (hE : Evs w ao m c E) :
    Calls Try.prog 5 #[.slice ao m c] w fun e w' => e = .returned (.bool true) ∧ Below w.heap.size w w' := by
  have hlen := hE.len
  have HE : Aside (Evs w ao m c E) := hE
  have hwd : Hid (∀ e ∈ E, Wide e) := hE.wide
  clear hE
  go_enter Try.func5, Try.ntmps5
  go_wp2_with fail
  refine (awake_any w).mono ?_
  rintro e w1 ⟨rfl, hb1⟩
  have HE1 : Aside (Evs w1 ao m c E ∧ Below w.heap.size w w1) := ⟨HE.out.below hb1 (Nat.le_refl _), hb1⟩
  clear hb1
  go_wp2_with fail
  refine (few_any ao m c E w1 HE1.out.1).mono ?_
  rintro e w2 ⟨t, rfl, ht, hb2⟩
  have HB2 : Hid (Below w.heap.size w w2) := HE1.out.2.trans (hb2.mono HE1.out.2.size)
  clear hb2 HE1
  cases t with
  | false =>
    clear ht
    go_wp2_with fail
    refine (awake_any w2).mono ?_
    rintro e w3 ⟨rfl, hb3⟩
    have HB3 : Hid (Below w.heap.size w w3) := HB2.out.trans (hb3.mono HB2.out.size)
    clear hb3
    go_wp2
    go_ret
    exact ⟨rfl, HB3.out⟩
  | true =>
    have hm : m ≤ 150 := ht rfl
    clear ht
    have H3 : Aside (Row w2 w.heap.size (.slice none 0 0) (backE E m) ∧ NoneFrom E m ∧ Below w.heap.size w w2) := ⟨by rw [back_end hlen]; exact row_nil _ _, none_end hlen, HB2.out⟩
    clear HB2
    go_wp2
    go_loopg [3, 4] m (fun kx s3 s4 wz => ∃ j : Nat, s4 = .int .i64 ((j : Int) - 1) ∧ j ≤ m ∧ j ≤ kx ∧ Aside (Row wz w.heap.size s3 (backE E j) ∧ NoneFrom E j ∧ Below w.heap.size w wz))
    case atStart => exact ⟨m, rfl, Nat.le_refl _, Nat.le_refl _, H3⟩
    case round =>
      clear H3
      obtain ⟨j, rfl, hjm, hkx, HS⟩ := hrel
      rcases j with _ | i
      · have HU : Hid (Unlike E) := none_unlike HS.out.2.1
        have HT : Hid (∀ x, x ∈ backE E 0 ↔ x ∈ E) := fun x => by rw [back_all, List.mem_reverse]
        have hwT : Hid (∀ e ∈ backE E 0, Wide e) := fun e he => hwd.out e ((HT.out e).1 he)
        have hTl : (backE E 0).length ≤ 1000 := by rw [back_len]; omega
        obtain ⟨aT, cT, hvT, hET⟩ := HS.out.1.evs hwT.out
        have HT4 : Aside (Evs wr ao m c E ∧ Evs wr aT (backE E 0).length cT (backE E 0) ∧ Below w.heap.size w wr) := ⟨HE.out.below HS.out.2.2 (Nat.le_refl _), hET, HS.out.2.2⟩
        subst hvT
        clear HS hET hkx HE hwT
        generalize backE E 0 = T at *
        go_wp2_with fail
        refine (zall_any ao m c E wr HT4.out.1 (by omega)).mono ?_
        rintro e w5 ⟨v5, S, rfl, hR5, hA5, hl5, hb5⟩
        have HE5 : Aside (Evs w5 ao m c E ∧ Evs w5 aT T.length cT T ∧ Below w.heap.size w w5 ∧ PRow w5 wr.heap.size v5 S) := ⟨HT4.out.1.below hb5 (Nat.le_refl _), HT4.out.2.1.below hb5 (Nat.le_refl _), HT4.out.2.2.trans (hb5.mono HT4.out.2.2.size), hR5⟩
        have HSA : Hid (IsAll E S) := hA5
        clear hb5 HT4 hR5 hA5
        go_wp2_with fail
        refine (zall_any aT T.length cT T w5 HE5.out.2.1 hTl).mono ?_
        rintro e w6 ⟨v6, S6, rfl, hR6, hA6, hl6, hb6⟩
        obtain rfl : S = S6 := isAll_one HSA.out (isAll_same HU.out HT.out hA6)
        obtain ⟨a5, c5, hv5, hL5⟩ := (HE5.out.2.2.2.below hb6 (Nat.le_refl _)).pl
        obtain ⟨a6, c6, hv6, hL6⟩ := hR6.pl
        have HB6 : Hid (Below w.heap.size w w6) := HE5.out.2.2.1.trans (hb6.mono HE5.out.2.2.1.size)
        have H1 : Aside (PL w6 a5 S ∧ PL w6 a6 S ∧ Evs w6 ao m c E) := ⟨hL5, hL6, HE5.out.1.below hb6 (Nat.le_refl _)⟩
        subst hv5 hv6
        clear hb6 HE5 hR6 hA6 hL5 hL6 hl6
        obtain ⟨n, hn⟩ : ∃ n, n = S.length := ⟨_, rfl⟩
        have HN : Hid (n = S.length) := hn
        rw [← hn] at hl5 ⊢
        clear hn
        have H7 : Aside (Below w6.heap.size w6 w6) := Below.refl _ _
        go_wp2
        go_loopg [60] n (fun kx s60 wr => ∃ k : Nat, s60 = .int .i64 (k : Int) ∧ k ≤ n ∧ n - k ≤ kx ∧ Aside (Below w6.heap.size w6 wr))
        case atStart => exact ⟨0, rfl, Nat.zero_le _, by omega, H7⟩
        case round =>
          clear H7
          obtain ⟨k, rfl, hk, hkx, HB⟩ := hrel
          by_cases hkm : k < n
          · have hkz : (k : Int) < (n : Int) := by omega
            obtain ⟨d, hd⟩ : ∃ d, S[k]? = some d := ⟨_, List.getElem?_eq_getElem (by have := HN.out; omega)⟩
            obtain ⟨g1, hg1, x0, x1⟩ := (H1.out.1.below HB.out (Nat.le_refl _)) k d hd
            subst hg1
            have hix := fun W : World => index_P0 W (b := g1) (k := k) (m := n) (c := c5) hkm
            have HEr : Aside (Evs wr ao m c E) := H1.out.2.2.below HB.out (Nat.le_refl _)
            have HRK : Hid (rkN S d.1 = (k : Int) ∧ rkB S d.1 = true) := rank_own HSA.out hd
            go_wp2_with fail
            refine (zrank_any ao m c E d.1 wr HEr.out (by omega) S HSA.out).mono ?_
            rintro e w7 ⟨rfl, hb7⟩
            rw [HRK.out.1, HRK.out.2]
            have HB7 : Aside (Below w6.heap.size w6 w7) := HB.out.trans (hb7.mono HB.out.size)
            clear hb7 HB x0 x1 HEr hix
            obtain ⟨g1', hg1', x0, x1⟩ := (H1.out.1.below HB7.out (Nat.le_refl _)) k d hd
            obtain rfl : g1 = g1' := by simpa using hg1'
            obtain ⟨g2, hg2, z0, z1⟩ := (H1.out.2.1.below HB7.out (Nat.le_refl _)) k d hd
            subst hg2
            have hr1 := (H1.out.1.below HB7.out (Nat.le_refl _)).range hd
            have hr2 := (H1.out.2.1.below HB7.out (Nat.le_refl _)).range hd
            have hl1 : g1 < w7.heap.size := World.block_lt_of_cell? w7 _ x0
            have hl2 : g2 < w7.heap.size := World.block_lt_of_cell? w7 _ z0
            clear hg1' x0 x1 z0 z1
            go_wp2_with fail
            refine region_vals [73, 74, 75, 76, 77, 78, 79, 80, 81, 82, 83, 84, 85, 86, 87, 88, 89, 90] [.slice (some ⟨g1, 0, none⟩) n c5, .int .i64 (k : Int), .pointer (some ⟨g1, k * 2, none⟩), .agg (prc d), .slice (some ⟨g2, 0, none⟩) n c6, .int .i64 (k : Int), .pointer (some ⟨g2, k * 2, none⟩), .agg (prc d), .bool false, .bool false, .int .i64 (k : Int), .int .i64 (k : Int), .bool false, .bool false, .bool false, .bool true, .bool false, .bool false] _ (by kernel_rfl) (by kernel_rfl) (by rfl) (by decide) (by kernel_rfl) (by simp only [lay, Act.put, List.setIfInBounds_toArray, List.set_cons_zero, List.set_cons_succ, List.getD_cons_zero, List.getD_cons_succ, Nat.reduceAdd]; rfl) ⟨?_, ?_, ?_, ?_, ?_, ?_, ?_, ?_, ?_, ?_, ?_, ?_, ?_, ?_, ?_, ?_, ?_, ?_, trivial⟩ ?_
            · exact .inl ⟨rfl, fun W hb => yields_move rfl rfl⟩
            · exact .inl ⟨rfl, fun W hb => yields_move rfl rfl⟩
            · exact .inl ⟨rfl, fun W hb => yields_indexAddr rfl rfl rfl (index_P0 W hkm)⟩
            · exact .inl ⟨rfl, fun W hb => yields_load rfl rfl (load_Pm (range_below hr1 hb hl1))⟩
            · exact .inl ⟨rfl, fun W hb => yields_move rfl rfl⟩
            · exact .inl ⟨rfl, fun W hb => yields_move rfl rfl⟩
            · exact .inl ⟨rfl, fun W hb => yields_indexAddr rfl rfl rfl (index_P0 W hkm)⟩
            · exact .inl ⟨rfl, fun W hb => yields_load rfl rfl (load_Pm (range_below hr2 hb hl2))⟩
            · exact .inl ⟨rfl, fun W hb => yields_bin rfl rfl rfl (eqGuard_P W _ _) (neq_P W d)⟩
            · exact .inl ⟨rfl, fun W hb => yields_move rfl rfl⟩
            · exact .inl ⟨rfl, fun W hb => yields_move rfl rfl⟩
            · exact .inl ⟨rfl, fun W hb => yields_move rfl rfl⟩
            · exact .inl ⟨rfl, fun W hb => yields_bin rfl rfl rfl rfl (neq_i W _)⟩
            · exact .inl ⟨rfl, fun W hb => yields_pick (b := false) rfl rfl rfl⟩
            · exact .inl ⟨rfl, fun W hb => yields_move rfl rfl⟩
            · exact .inl ⟨rfl, fun W hb => yields_move rfl rfl⟩
            · exact .inl ⟨rfl, fun W hb => yields_un rfl rfl rfl⟩
            · exact .inl ⟨rfl, fun W hb => yields_pick (b := false) rfl rfl rfl⟩
            intro w8 hb8
            have HB8 : Aside (Below w6.heap.size w6 w8) := HB7.out.trans (hb8.mono HB7.out.size)
            clear hb8 HB7 hr1 hr2 hl1 hl2
            cases k with
            | zero =>
              go_wp2_with fail
              refine region_vals [91, 92, 93, 94, 95, 96, 97, 98, 99, 100, 101, 102, 103, 104, 105, 106, 107, 108, 109, 110, 111, 112, 113, 114, 115, 116, 117, 118, 119, 120, 121, 122, 123, 124, 125, 126, 127, 128, 129, 130, 131, 132, 133, 134] [.int .i64 ((0 : Nat) : Int), .bool false, .bool false, undef, undef, undef, undef, undef, undef, undef, undef, undef, undef, undef, undef, undef, undef, undef, undef, undef, undef, undef, undef, undef, undef, undef, undef, undef, undef, undef, undef, undef, undef, undef, undef, undef, undef, undef, undef, undef, undef, undef, undef, .bool false] _ (by kernel_rfl) (by kernel_rfl) (by rfl) (by decide) (by kernel_rfl) (by simp only [lay, Act.put, List.setIfInBounds_toArray, List.set_cons_zero, List.set_cons_succ, List.getD_cons_zero, List.getD_cons_succ, Nat.reduceAdd]; rfl) ⟨?_, ?_, ?_, ?_, ?_, ?_, ?_, ?_, ?_, ?_, ?_, ?_, ?_, ?_, ?_, ?_, ?_, ?_, ?_, ?_, ?_, ?_, ?_, ?_, ?_, ?_, ?_, ?_, ?_, ?_, ?_, ?_, ?_, ?_, ?_, ?_, ?_, ?_, ?_, ?_, ?_, ?_, ?_, ?_, trivial⟩ ?_
              · exact .inl ⟨rfl, fun W hb => yields_move rfl rfl⟩
              · exact .inl ⟨rfl, fun W hb => yields_bin rfl rfl rfl rfl (gtr_i W _ _ rfl)⟩
              · exact .inl ⟨rfl, fun W hb => yields_move rfl rfl⟩
              · exact .inr ⟨rfl, rfl⟩
              · exact .inr ⟨rfl, rfl⟩
              · exact .inr ⟨rfl, rfl⟩
              · exact .inr ⟨rfl, rfl⟩
              · exact .inr ⟨rfl, rfl⟩
              · exact .inr ⟨rfl, rfl⟩
              · exact .inr ⟨rfl, rfl⟩
              · exact .inr ⟨rfl, rfl⟩
              · exact .inr ⟨rfl, rfl⟩
              · exact .inr ⟨rfl, rfl⟩
              · exact .inr ⟨rfl, rfl⟩
              · exact .inr ⟨rfl, rfl⟩
              · exact .inr ⟨rfl, rfl⟩
              · exact .inr ⟨rfl, rfl⟩
              · exact .inr ⟨rfl, rfl⟩
              · exact .inr ⟨rfl, rfl⟩
              · exact .inr ⟨rfl, rfl⟩
              · exact .inr ⟨rfl, rfl⟩
              · exact .inr ⟨rfl, rfl⟩
              · exact .inr ⟨rfl, rfl⟩
              · exact .inr ⟨rfl, rfl⟩
              · exact .inr ⟨rfl, rfl⟩
              · exact .inr ⟨rfl, rfl⟩
              · exact .inr ⟨rfl, rfl⟩
              · exact .inr ⟨rfl, rfl⟩
              · exact .inr ⟨rfl, rfl⟩
              · exact .inr ⟨rfl, rfl⟩
              · exact .inr ⟨rfl, rfl⟩
              · exact .inr ⟨rfl, rfl⟩
              · exact .inr ⟨rfl, rfl⟩
              · exact .inr ⟨rfl, rfl⟩
              · exact .inr ⟨rfl, rfl⟩
              · exact .inr ⟨rfl, rfl⟩
              · exact .inr ⟨rfl, rfl⟩
              · exact .inr ⟨rfl, rfl⟩
              · exact .inr ⟨rfl, rfl⟩
              · exact .inr ⟨rfl, rfl⟩
              · exact .inr ⟨rfl, rfl⟩
              · exact .inr ⟨rfl, rfl⟩
              · exact .inr ⟨rfl, rfl⟩
              · exact .inl ⟨rfl, fun W hb => yields_pick (b := false) rfl rfl rfl⟩
              intro wz hbz
              have HB9 : Aside (Below w6.heap.size w6 wz) := HB8.out.trans (hbz.mono HB8.out.size)
              clear hbz HB8
              go_wp2
              go_roundg (n - (0 + 1))
              case measure => omega
              case rel => exact ⟨0 + 1, by go_num, by omega, Nat.le_refl _, HB9⟩
            | succ p =>
              have hpn : p < n := by omega
              have hp1 : p ≤ 1048576 := by omega
              have hpz : decide ((0 : Int) < ((p + 1 : Nat) : Int)) = true := decide_eq_true (by omega)
              obtain ⟨d2, hd2⟩ : ∃ d2, S[p]? = some d2 := ⟨_, List.getElem?_eq_getElem (by have := HN.out; omega)⟩
              obtain ⟨g1', hg1', x0, x1⟩ := (H1.out.1.below HB8.out (Nat.le_refl _)) (p + 1) d hd
              obtain rfl : g1 = g1' := by simpa using hg1'
              obtain ⟨g1'', hg1'', y0, y1⟩ := (H1.out.1.below HB8.out (Nat.le_refl _)) p d2 hd2
              obtain rfl : g1 = g1'' := by simpa using hg1''
              have hl1 : g1 < w8.heap.size := World.block_lt_of_cell? w8 _ x0
              have hbf : Bef d2 d := rise_at HSA.out.1 (Nat.lt_succ_self p) hd2 hd
              have hng : decide (d.2 < d2.2) = false := decide_eq_false (by rcases hbf with h | h <;> omega)
              by_cases he : d2.2 = d.2
              · have hee : decide (d2.2 = d.2) = true := decide_eq_true he
                have hll : decide (d2.1 < d.1) = true := decide_eq_true (by
                  rcases hbf with h | h
                  · omega
                  · exact h.2)
                clear hbf hd hd2 he
                go_wp2_with fail
                refine region_vals [91, 92, 93, 94, 95, 96, 97, 98, 99, 100, 101, 102, 103, 104, 105, 106, 107, 108, 109, 110, 111, 112, 113, 114, 115, 116, 117, 118, 119, 120, 121, 122, 123, 124, 125, 126, 127, 128, 129, 130, 131, 132, 133, 134] [.int .i64 ((p + 1 : Nat) : Int), .bool true, .bool true, .slice (some ⟨g1, 0, none⟩) n c5, .int .i64 ((p + 1 : Nat) : Int), .int .i64 (p : Int), .pointer (some ⟨g1, p * 2, none⟩), .pointer (some ⟨g1, p * 2 + 1, none⟩), .int .i64 d2.2, .slice (some ⟨g1, 0, none⟩) n c5, .int .i64 ((p + 1 : Nat) : Int), .pointer (some ⟨g1, (p + 1) * 2, none⟩), .pointer (some ⟨g1, (p + 1) * 2 + 1, none⟩), .int .i64 d.2, .bool false, .bool false, .slice (some ⟨g1, 0, none⟩) n c5, .int .i64 ((p + 1 : Nat) : Int), .int .i64 (p : Int), .pointer (some ⟨g1, p * 2, none⟩), .pointer (some ⟨g1, p * 2 + 1, none⟩), .int .i64 d2.2, .slice (some ⟨g1, 0, none⟩) n c5, .int .i64 ((p + 1 : Nat) : Int), .pointer (some ⟨g1, (p + 1) * 2, none⟩), .pointer (some ⟨g1, (p + 1) * 2 + 1, none⟩), .int .i64 d.2, .bool true, .bool true, .slice (some ⟨g1, 0, none⟩) n c5, .int .i64 ((p + 1 : Nat) : Int), .int .i64 (p : Int), .pointer (some ⟨g1, p * 2, none⟩), .pointer (some ⟨g1, p * 2 + 0, none⟩), .string (sb d2.1), .slice (some ⟨g1, 0, none⟩) n c5, .int .i64 ((p + 1 : Nat) : Int), .pointer (some ⟨g1, (p + 1) * 2, none⟩), .pointer (some ⟨g1, (p + 1) * 2 + 0, none⟩), .string (sb d.1), .bool false, .bool false, .bool false, .bool false] _ (by kernel_rfl) (by kernel_rfl) (by rfl) (by decide) (by kernel_rfl) (by simp only [lay, Act.put, List.setIfInBounds_toArray, List.set_cons_zero, List.set_cons_succ, List.getD_cons_zero, List.getD_cons_succ, Nat.reduceAdd]; rfl) ⟨?_, ?_, ?_, ?_, ?_, ?_, ?_, ?_, ?_, ?_, ?_, ?_, ?_, ?_, ?_, ?_, ?_, ?_, ?_, ?_, ?_, ?_, ?_, ?_, ?_, ?_, ?_, ?_, ?_, ?_, ?_, ?_, ?_, ?_, ?_, ?_, ?_, ?_, ?_, ?_, ?_, ?_, ?_, ?_, trivial⟩ ?_
                · exact .inl ⟨rfl, fun W hb => yields_move rfl rfl⟩
                · exact .inl ⟨rfl, fun W hb => yields_bin rfl rfl rfl rfl (gtr_i W _ _ hpz)⟩
                · exact .inl ⟨rfl, fun W hb => yields_move rfl rfl⟩
                · exact .inl ⟨rfl, fun W hb => yields_move rfl rfl⟩
                · exact .inl ⟨rfl, fun W hb => yields_move rfl rfl⟩
                · exact .inl ⟨rfl, fun W hb => yields_bin rfl rfl rfl rfl (sub_one W p hp1)⟩
                · exact .inl ⟨rfl, fun W hb => yields_indexAddr rfl rfl rfl (index_P0 W hpn)⟩
                · exact .inl ⟨rfl, fun W hb => yields_field rfl rfl (field_P1 W _ _)⟩
                · exact .inl ⟨rfl, fun W hb => yields_load rfl rfl (load_cellI ((hb.cell (p := ⟨g1, p * 2 + 1, none⟩) hl1).trans y1))⟩
                · exact .inl ⟨rfl, fun W hb => yields_move rfl rfl⟩
                · exact .inl ⟨rfl, fun W hb => yields_move rfl rfl⟩
                · exact .inl ⟨rfl, fun W hb => yields_indexAddr rfl rfl rfl (index_P0 W hkm)⟩
                · exact .inl ⟨rfl, fun W hb => yields_field rfl rfl (field_P1 W _ _)⟩
                · exact .inl ⟨rfl, fun W hb => yields_load rfl rfl (load_cellI ((hb.cell (p := ⟨g1, (p + 1) * 2 + 1, none⟩) hl1).trans x1))⟩
                · exact .inl ⟨rfl, fun W hb => yields_bin rfl rfl rfl rfl (gtr_i W _ _ hng)⟩
                · exact .inl ⟨rfl, fun W hb => yields_move rfl rfl⟩
                · exact .inl ⟨rfl, fun W hb => yields_move rfl rfl⟩
                · exact .inl ⟨rfl, fun W hb => yields_move rfl rfl⟩
                · exact .inl ⟨rfl, fun W hb => yields_bin rfl rfl rfl rfl (sub_one W p hp1)⟩
                · exact .inl ⟨rfl, fun W hb => yields_indexAddr rfl rfl rfl (index_P0 W hpn)⟩
                · exact .inl ⟨rfl, fun W hb => yields_field rfl rfl (field_P1 W _ _)⟩
                · exact .inl ⟨rfl, fun W hb => yields_load rfl rfl (load_cellI ((hb.cell (p := ⟨g1, p * 2 + 1, none⟩) hl1).trans y1))⟩
                · exact .inl ⟨rfl, fun W hb => yields_move rfl rfl⟩
                · exact .inl ⟨rfl, fun W hb => yields_move rfl rfl⟩
                · exact .inl ⟨rfl, fun W hb => yields_indexAddr rfl rfl rfl (index_P0 W hkm)⟩
                · exact .inl ⟨rfl, fun W hb => yields_field rfl rfl (field_P1 W _ _)⟩
                · exact .inl ⟨rfl, fun W hb => yields_load rfl rfl (load_cellI ((hb.cell (p := ⟨g1, (p + 1) * 2 + 1, none⟩) hl1).trans x1))⟩
                · exact .inl ⟨rfl, fun W hb => yields_bin rfl rfl rfl rfl (eql_i W _ _ hee)⟩
                · exact .inl ⟨rfl, fun W hb => yields_move rfl rfl⟩
                · exact .inl ⟨rfl, fun W hb => yields_move rfl rfl⟩
                · exact .inl ⟨rfl, fun W hb => yields_move rfl rfl⟩
                · exact .inl ⟨rfl, fun W hb => yields_bin rfl rfl rfl rfl (sub_one W p hp1)⟩
                · exact .inl ⟨rfl, fun W hb => yields_indexAddr rfl rfl rfl (index_P0 W hpn)⟩
                · exact .inl ⟨rfl, fun W hb => yields_field rfl rfl (field_P0 W _ _)⟩
                · exact .inl ⟨rfl, fun W hb => yields_load rfl rfl (load_cellS ((hb.cell (p := ⟨g1, p * 2 + 0, none⟩) hl1).trans y0))⟩
                · exact .inl ⟨rfl, fun W hb => yields_move rfl rfl⟩
                · exact .inl ⟨rfl, fun W hb => yields_move rfl rfl⟩
                · exact .inl ⟨rfl, fun W hb => yields_indexAddr rfl rfl rfl (index_P0 W hkm)⟩
                · exact .inl ⟨rfl, fun W hb => yields_field rfl rfl (field_P0 W _ _)⟩
                · exact .inl ⟨rfl, fun W hb => yields_load rfl rfl (load_cellS ((hb.cell (p := ⟨g1, (p + 1) * 2 + 0, none⟩) hl1).trans x0))⟩
                · exact .inl ⟨rfl, fun W hb => yields_bin rfl rfl rfl rfl (geq_sb d2.1 d.1 hll W)⟩
                · exact .inl ⟨rfl, fun W hb => yields_pick (b := true) rfl rfl rfl⟩
                · exact .inl ⟨rfl, fun W hb => yields_pick (b := false) rfl rfl rfl⟩
                · exact .inl ⟨rfl, fun W hb => yields_pick (b := true) rfl rfl rfl⟩
                intro wz hbz
                have HB9 : Aside (Below w6.heap.size w6 wz) := HB8.out.trans (hbz.mono HB8.out.size)
                clear hbz HB8
                go_wp2
                go_roundg (n - (p + 1 + 1))
                case measure => omega
                case rel => exact ⟨p + 1 + 1, by go_num, by omega, Nat.le_refl _, HB9⟩
              · have hee : decide (d2.2 = d.2) = false := decide_eq_false he
                clear hbf hd hd2 he
                go_wp2_with fail
                refine region_vals [91, 92, 93, 94, 95, 96, 97, 98, 99, 100, 101, 102, 103, 104, 105, 106, 107, 108, 109, 110, 111, 112, 113, 114, 115, 116, 117, 118, 119, 120, 121, 122, 123, 124, 125, 126, 127, 128, 129, 130, 131, 132, 133, 134] [.int .i64 ((p + 1 : Nat) : Int), .bool true, .bool true, .slice (some ⟨g1, 0, none⟩) n c5, .int .i64 ((p + 1 : Nat) : Int), .int .i64 (p : Int), .pointer (some ⟨g1, p * 2, none⟩), .pointer (some ⟨g1, p * 2 + 1, none⟩), .int .i64 d2.2, .slice (some ⟨g1, 0, none⟩) n c5, .int .i64 ((p + 1 : Nat) : Int), .pointer (some ⟨g1, (p + 1) * 2, none⟩), .pointer (some ⟨g1, (p + 1) * 2 + 1, none⟩), .int .i64 d.2, .bool false, .bool false, .slice (some ⟨g1, 0, none⟩) n c5, .int .i64 ((p + 1 : Nat) : Int), .int .i64 (p : Int), .pointer (some ⟨g1, p * 2, none⟩), .pointer (some ⟨g1, p * 2 + 1, none⟩), .int .i64 d2.2, .slice (some ⟨g1, 0, none⟩) n c5, .int .i64 ((p + 1 : Nat) : Int), .pointer (some ⟨g1, (p + 1) * 2, none⟩), .pointer (some ⟨g1, (p + 1) * 2 + 1, none⟩), .int .i64 d.2, .bool false, .bool false, undef, undef, undef, undef, undef, undef, undef, undef, undef, undef, undef, undef, .bool false, .bool false, .bool false] _ (by kernel_rfl) (by kernel_rfl) (by rfl) (by decide) (by kernel_rfl) (by simp only [lay, Act.put, List.setIfInBounds_toArray, List.set_cons_zero, List.set_cons_succ, List.getD_cons_zero, List.getD_cons_succ, Nat.reduceAdd]; rfl) ⟨?_, ?_, ?_, ?_, ?_, ?_, ?_, ?_, ?_, ?_, ?_, ?_, ?_, ?_, ?_, ?_, ?_, ?_, ?_, ?_, ?_, ?_, ?_, ?_, ?_, ?_, ?_, ?_, ?_, ?_, ?_, ?_, ?_, ?_, ?_, ?_, ?_, ?_, ?_, ?_, ?_, ?_, ?_, ?_, trivial⟩ ?_
                · exact .inl ⟨rfl, fun W hb => yields_move rfl rfl⟩
                · exact .inl ⟨rfl, fun W hb => yields_bin rfl rfl rfl rfl (gtr_i W _ _ hpz)⟩
                · exact .inl ⟨rfl, fun W hb => yields_move rfl rfl⟩
                · exact .inl ⟨rfl, fun W hb => yields_move rfl rfl⟩
                · exact .inl ⟨rfl, fun W hb => yields_move rfl rfl⟩
                · exact .inl ⟨rfl, fun W hb => yields_bin rfl rfl rfl rfl (sub_one W p hp1)⟩
                · exact .inl ⟨rfl, fun W hb => yields_indexAddr rfl rfl rfl (index_P0 W hpn)⟩
                · exact .inl ⟨rfl, fun W hb => yields_field rfl rfl (field_P1 W _ _)⟩
                · exact .inl ⟨rfl, fun W hb => yields_load rfl rfl (load_cellI ((hb.cell (p := ⟨g1, p * 2 + 1, none⟩) hl1).trans y1))⟩
                · exact .inl ⟨rfl, fun W hb => yields_move rfl rfl⟩
                · exact .inl ⟨rfl, fun W hb => yields_move rfl rfl⟩
                · exact .inl ⟨rfl, fun W hb => yields_indexAddr rfl rfl rfl (index_P0 W hkm)⟩
                · exact .inl ⟨rfl, fun W hb => yields_field rfl rfl (field_P1 W _ _)⟩
                · exact .inl ⟨rfl, fun W hb => yields_load rfl rfl (load_cellI ((hb.cell (p := ⟨g1, (p + 1) * 2 + 1, none⟩) hl1).trans x1))⟩
                · exact .inl ⟨rfl, fun W hb => yields_bin rfl rfl rfl rfl (gtr_i W _ _ hng)⟩
                · exact .inl ⟨rfl, fun W hb => yields_move rfl rfl⟩
                · exact .inl ⟨rfl, fun W hb => yields_move rfl rfl⟩
                · exact .inl ⟨rfl, fun W hb => yields_move rfl rfl⟩
                · exact .inl ⟨rfl, fun W hb => yields_bin rfl rfl rfl rfl (sub_one W p hp1)⟩
                · exact .inl ⟨rfl, fun W hb => yields_indexAddr rfl rfl rfl (index_P0 W hpn)⟩
                · exact .inl ⟨rfl, fun W hb => yields_field rfl rfl (field_P1 W _ _)⟩
                · exact .inl ⟨rfl, fun W hb => yields_load rfl rfl (load_cellI ((hb.cell (p := ⟨g1, p * 2 + 1, none⟩) hl1).trans y1))⟩
                · exact .inl ⟨rfl, fun W hb => yields_move rfl rfl⟩
                · exact .inl ⟨rfl, fun W hb => yields_move rfl rfl⟩
                · exact .inl ⟨rfl, fun W hb => yields_indexAddr rfl rfl rfl (index_P0 W hkm)⟩
                · exact .inl ⟨rfl, fun W hb => yields_field rfl rfl (field_P1 W _ _)⟩
                · exact .inl ⟨rfl, fun W hb => yields_load rfl rfl (load_cellI ((hb.cell (p := ⟨g1, (p + 1) * 2 + 1, none⟩) hl1).trans x1))⟩
                · exact .inl ⟨rfl, fun W hb => yields_bin rfl rfl rfl rfl (eql_i W _ _ hee)⟩
                · exact .inl ⟨rfl, fun W hb => yields_move rfl rfl⟩
                · exact .inr ⟨rfl, rfl⟩
                · exact .inr ⟨rfl, rfl⟩
                · exact .inr ⟨rfl, rfl⟩
                · exact .inr ⟨rfl, rfl⟩
                · exact .inr ⟨rfl, rfl⟩
                · exact .inr ⟨rfl, rfl⟩
                · exact .inr ⟨rfl, rfl⟩
                · exact .inr ⟨rfl, rfl⟩
                · exact .inr ⟨rfl, rfl⟩
                · exact .inr ⟨rfl, rfl⟩
                · exact .inr ⟨rfl, rfl⟩
                · exact .inr ⟨rfl, rfl⟩
                · exact .inl ⟨rfl, fun W hb => yields_pick (b := false) rfl rfl rfl⟩
                · exact .inl ⟨rfl, fun W hb => yields_pick (b := false) rfl rfl rfl⟩
                · exact .inl ⟨rfl, fun W hb => yields_pick (b := true) rfl rfl rfl⟩
                intro wz hbz
                have HB9 : Aside (Below w6.heap.size w6 wz) := HB8.out.trans (hbz.mono HB8.out.size)
                clear hbz HB8
                go_wp2
                go_roundg (n - (p + 1 + 1))
                case measure => omega
                case rel => exact ⟨p + 1 + 1, by go_num, by omega, Nat.le_refl _, HB9⟩
          · obtain rfl : k = n := by omega
            have HB7 : Hid (Below w.heap.size w wr) := HB6.out.trans (HB.out.mono HB6.out.size)
            clear HB
            go_wp2
            go_ret
            exact ⟨rfl, HB7.out⟩
      · have hj1 : (((i + 1 : Nat) : Int) - 1) = (i : Int) := by omega
        rw [hj1]
        have hlt : i < m := by omega
        have hiz : (0 : Int) ≤ (i : Int) := by omega
        obtain ⟨b1, o1, x, rfl, hx, hwx, -, -⟩ := (HE.out.below HS.out.2.2 (Nat.le_refl _)).at hlt
        obtain ⟨w3, hw3⟩ : ∃ w3, w3 = wr := ⟨_, rfl⟩
        subst hw3
        have HR3 : Aside (Row w3 w.heap.size u3 (backE E (i + 1)) ∧ NoneFrom E (i + 1) ∧ Below w.heap.size w w3) := HS.out
        clear HS
        go_wp2
        go_loopg [5] i (fun kx s5 wr2 => ∃ j : Nat, s5 = .int .i64 j ∧ j ≤ i ∧ i - j ≤ kx ∧ Aside ((∀ q y, q < j → E[q]? = some y → ¬ sameDot x y) ∧ Below w3.heap.size w3 wr2))
        case atStart => exact ⟨0, rfl, Nat.zero_le _, by omega, ⟨fun q y h => by omega, Below.refl _ _⟩⟩
        case round =>
          obtain ⟨j, rfl, hji, hkx2, HJ⟩ := hrel
          have hBw : Hid (Below w.heap.size w wr) := HR3.out.2.2.trans (HJ.out.2.mono HR3.out.2.2.size)
          by_cases hjl : j < i
          · have hjz : (j : Int) < (i : Int) := by omega
            have hjm : j < m := by omega
            obtain ⟨b1', o1', y, hb1', hy, hwy, hr2, hl2⟩ := (HE.out.below hBw.out.drew (Nat.le_refl _)).at hjm
            obtain ⟨b1'', o1'', x', hb1'', hx', -, hr1, hl1⟩ := (HE.out.below hBw.out.drew (Nat.le_refl _)).at hlt
            obtain rfl : x = x' := by rw [hx] at hx'; exact Option.some.inj hx'
            simp only [Option.some.injEq, Addr.mk.injEq, and_true] at hb1' hb1''
            obtain ⟨rfl, rfl⟩ := hb1'
            obtain ⟨rfl, rfl⟩ := hb1''
            by_cases hs : x.r = y.r ∧ x.n = y.n
            · have hd : decide (x.r = y.r ∧ x.n = y.n) = true := decide_eq_true hs
              have HB : Hid (Below w.heap.size w wr.drew) := hBw.out.drew
              go_wp2_with fail
              refine wp_region_noPanic ?_
              refine wp_region_held_drew (S := fun W' : World => W'.rangeAt b1 (o1 + i * 26) (evl x) ∧ W'.rangeAt b1 (o1 + j * 26) (evl y)) (by kernel_rfl) ⟨hr1, hr2⟩ (fun hHeld => ?_)
              refine wpAnyH_take (i := 0) (oi := { dst := some 31, op := _, type := _, pos := _, after := _, guard := _ }) (v := .slice (some ⟨b1, o1, none⟩) m c) rfl (by kernel_rfl) (by kernel_rfl) (by kernel_rfl) (fun _ _ _ h => h) (Or.inl ⟨by rfl, ?_⟩) (by assumption) ?_
              · intro w9 hSw
                exact exec_move rfl rfl
              simp only [Act.put, List.setIfInBounds_toArray, List.set_cons_zero, List.set_cons_succ]
              refine wpAnyH_take (i := 1) (oi := { dst := some 32, op := _, type := _, pos := _, after := _, guard := _ }) (v := .int .i64 (i : Int)) rfl (by kernel_rfl) (by kernel_rfl) (by kernel_rfl) (fun _ _ _ h => h) (Or.inl ⟨by rfl, ?_⟩) (by assumption) ?_
              · intro w9 hSw
                exact exec_move rfl rfl
              simp only [Act.put, List.setIfInBounds_toArray, List.set_cons_zero, List.set_cons_succ]
              refine wpAnyH_take (i := 2) (oi := { dst := some 33, op := _, type := _, pos := _, after := _, guard := _ }) (v := .pointer (some ⟨b1, o1 + i * 26, none⟩)) rfl (by kernel_rfl) (by kernel_rfl) (by kernel_rfl) (fun _ _ _ h => h) (Or.inl ⟨by rfl, ?_⟩) (by assumption) ?_
              · intro w9 hSw
                exact exec_index rfl rfl rfl (index_ev w9 hlt)
              simp only [Act.put, List.setIfInBounds_toArray, List.set_cons_zero, List.set_cons_succ]
              refine wpAnyH_take (i := 3) (oi := { dst := some 34, op := _, type := _, pos := _, after := _, guard := _ }) (v := .pointer (some ⟨b1, o1 + i * 26 + 0, none⟩)) rfl (by kernel_rfl) (by kernel_rfl) (by kernel_rfl) (fun _ _ _ h => h) (Or.inl ⟨by rfl, ?_⟩) (by assumption) ?_
              · intro w9 hSw
                exact exec_field rfl rfl (fun w => field_e0 w _ _)
              simp only [Act.put, List.setIfInBounds_toArray, List.set_cons_zero, List.set_cons_succ]
              refine wpAnyH_take (i := 4) (oi := { dst := some 35, op := _, type := _, pos := _, after := _, guard := _ }) (v := .agg (dotc x.r x.n)) rfl (by kernel_rfl) (by kernel_rfl) (by kernel_rfl) (fun _ _ _ h => h) (Or.inl ⟨by rfl, ?_⟩) (by assumption) ?_
              · intro w9 hSw
                exact exec_load (ad := ⟨b1, o1 + i * 26 + 0, none⟩) rfl rfl (load_dt hSw.1)
              simp only [Act.put, List.setIfInBounds_toArray, List.set_cons_zero, List.set_cons_succ]
              refine wpAnyH_take (i := 5) (oi := { dst := some 36, op := _, type := _, pos := _, after := _, guard := _ }) (v := .slice (some ⟨b1, o1, none⟩) m c) rfl (by kernel_rfl) (by kernel_rfl) (by kernel_rfl) (fun _ _ _ h => h) (Or.inl ⟨by rfl, ?_⟩) (by assumption) ?_
              · intro w9 hSw
                exact exec_move rfl rfl
              simp only [Act.put, List.setIfInBounds_toArray, List.set_cons_zero, List.set_cons_succ]
              refine wpAnyH_take (i := 6) (oi := { dst := some 37, op := _, type := _, pos := _, after := _, guard := _ }) (v := .int .i64 (j : Int)) rfl (by kernel_rfl) (by kernel_rfl) (by kernel_rfl) (fun _ _ _ h => h) (Or.inl ⟨by rfl, ?_⟩) (by assumption) ?_
              · intro w9 hSw
                exact exec_move rfl rfl
              simp only [Act.put, List.setIfInBounds_toArray, List.set_cons_zero, List.set_cons_succ]
              refine wpAnyH_take (i := 7) (oi := { dst := some 38, op := _, type := _, pos := _, after := _, guard := _ }) (v := .pointer (some ⟨b1, o1 + j * 26, none⟩)) rfl (by kernel_rfl) (by kernel_rfl) (by kernel_rfl) (fun _ _ _ h => h) (Or.inl ⟨by rfl, ?_⟩) (by assumption) ?_
              · intro w9 hSw
                exact exec_index rfl rfl rfl (index_ev w9 hjm)
              simp only [Act.put, List.setIfInBounds_toArray, List.set_cons_zero, List.set_cons_succ]
              refine wpAnyH_take (i := 8) (oi := { dst := some 39, op := _, type := _, pos := _, after := _, guard := _ }) (v := .pointer (some ⟨b1, o1 + j * 26 + 0, none⟩)) rfl (by kernel_rfl) (by kernel_rfl) (by kernel_rfl) (fun _ _ _ h => h) (Or.inl ⟨by rfl, ?_⟩) (by assumption) ?_
              · intro w9 hSw
                exact exec_field rfl rfl (fun w => field_e0 w _ _)
              simp only [Act.put, List.setIfInBounds_toArray, List.set_cons_zero, List.set_cons_succ]
              refine wpAnyH_take (i := 9) (oi := { dst := some 40, op := _, type := _, pos := _, after := _, guard := _ }) (v := .agg (dotc y.r y.n)) rfl (by kernel_rfl) (by kernel_rfl) (by kernel_rfl) (fun _ _ _ h => h) (Or.inl ⟨by rfl, ?_⟩) (by assumption) ?_
              · intro w9 hSw
                exact exec_load (ad := ⟨b1, o1 + j * 26 + 0, none⟩) rfl rfl (load_dt hSw.2)
              simp only [Act.put, List.setIfInBounds_toArray, List.set_cons_zero, List.set_cons_succ]
              refine wpAnyH_take (i := 10) (oi := { dst := some 41, op := _, type := _, pos := _, after := _, guard := _ }) (v := .bool true) rfl (by kernel_rfl) (by kernel_rfl) (by kernel_rfl) (fun _ _ _ h => h) (Or.inl ⟨by rfl, ?_⟩) (by assumption) ?_
              · intro w9 hSw
                exact exec_bin rfl rfl rfl (eqGuard_dt w9 _ _ _ _) (eql_dt w9 hd)
              simp only [Act.put, List.setIfInBounds_toArray, List.set_cons_zero, List.set_cons_succ]
              refine wpAnyH_done (by kernel_rfl) ?_ _
              refine NoPanic.normal ?_
              clear hHeld
              clear hr1 hr2 hs hd
              go_wp2
              go_ret
              exact ⟨rfl, HB.out⟩
            · have hd : decide (x.r = y.r ∧ x.n = y.n) = false := decide_eq_false hs
              have HJ2 : Aside ((∀ q y, q < j + 1 → E[q]? = some y → ¬ sameDot x y) ∧ Below w3.heap.size w3 wr.drew) := by
                refine ⟨fun q z hq hz => ?_, HJ.out.2.drew⟩
                by_cases hqj : q < j
                · exact HJ.out.1 q z hqj hz
                · obtain rfl : q = j := by omega
                  rw [hy] at hz
                  obtain rfl := Option.some.inj hz
                  exact hs
              go_wp2_with fail
              refine wp_region_noPanic ?_
              refine wp_region_held_drew (S := fun W' : World => W'.rangeAt b1 (o1 + i * 26) (evl x) ∧ W'.rangeAt b1 (o1 + j * 26) (evl y)) (by kernel_rfl) ⟨hr1, hr2⟩ (fun hHeld => ?_)
              refine wpAnyH_take (i := 0) (oi := { dst := some 31, op := _, type := _, pos := _, after := _, guard := _ }) (v := .slice (some ⟨b1, o1, none⟩) m c) rfl (by kernel_rfl) (by kernel_rfl) (by kernel_rfl) (fun _ _ _ h => h) (Or.inl ⟨by rfl, ?_⟩) (by assumption) ?_
              · intro w9 hSw
                exact exec_move rfl rfl
              simp only [Act.put, List.setIfInBounds_toArray, List.set_cons_zero, List.set_cons_succ]
              refine wpAnyH_take (i := 1) (oi := { dst := some 32, op := _, type := _, pos := _, after := _, guard := _ }) (v := .int .i64 (i : Int)) rfl (by kernel_rfl) (by kernel_rfl) (by kernel_rfl) (fun _ _ _ h => h) (Or.inl ⟨by rfl, ?_⟩) (by assumption) ?_
              · intro w9 hSw
                exact exec_move rfl rfl
              simp only [Act.put, List.setIfInBounds_toArray, List.set_cons_zero, List.set_cons_succ]
              refine wpAnyH_take (i := 2) (oi := { dst := some 33, op := _, type := _, pos := _, after := _, guard := _ }) (v := .pointer (some ⟨b1, o1 + i * 26, none⟩)) rfl (by kernel_rfl) (by kernel_rfl) (by kernel_rfl) (fun _ _ _ h => h) (Or.inl ⟨by rfl, ?_⟩) (by assumption) ?_
              · intro w9 hSw
                exact exec_index rfl rfl rfl (index_ev w9 hlt)
              simp only [Act.put, List.setIfInBounds_toArray, List.set_cons_zero, List.set_cons_succ]
              refine wpAnyH_take (i := 3) (oi := { dst := some 34, op := _, type := _, pos := _, after := _, guard := _ }) (v := .pointer (some ⟨b1, o1 + i * 26 + 0, none⟩)) rfl (by kernel_rfl) (by kernel_rfl) (by kernel_rfl) (fun _ _ _ h => h) (Or.inl ⟨by rfl, ?_⟩) (by assumption) ?_
              · intro w9 hSw
                exact exec_field rfl rfl (fun w => field_e0 w _ _)
              simp only [Act.put, List.setIfInBounds_toArray, List.set_cons_zero, List.set_cons_succ]
              refine wpAnyH_take (i := 4) (oi := { dst := some 35, op := _, type := _, pos := _, after := _, guard := _ }) (v := .agg (dotc x.r x.n)) rfl (by kernel_rfl) (by kernel_rfl) (by kernel_rfl) (fun _ _ _ h => h) (Or.inl ⟨by rfl, ?_⟩) (by assumption) ?_
              · intro w9 hSw
                exact exec_load (ad := ⟨b1, o1 + i * 26 + 0, none⟩) rfl rfl (load_dt hSw.1)
              simp only [Act.put, List.setIfInBounds_toArray, List.set_cons_zero, List.set_cons_succ]
              refine wpAnyH_take (i := 5) (oi := { dst := some 36, op := _, type := _, pos := _, after := _, guard := _ }) (v := .slice (some ⟨b1, o1, none⟩) m c) rfl (by kernel_rfl) (by kernel_rfl) (by kernel_rfl) (fun _ _ _ h => h) (Or.inl ⟨by rfl, ?_⟩) (by assumption) ?_
              · intro w9 hSw
                exact exec_move rfl rfl
              simp only [Act.put, List.setIfInBounds_toArray, List.set_cons_zero, List.set_cons_succ]
              refine wpAnyH_take (i := 6) (oi := { dst := some 37, op := _, type := _, pos := _, after := _, guard := _ }) (v := .int .i64 (j : Int)) rfl (by kernel_rfl) (by kernel_rfl) (by kernel_rfl) (fun _ _ _ h => h) (Or.inl ⟨by rfl, ?_⟩) (by assumption) ?_
              · intro w9 hSw
                exact exec_move rfl rfl
              simp only [Act.put, List.setIfInBounds_toArray, List.set_cons_zero, List.set_cons_succ]
              refine wpAnyH_take (i := 7) (oi := { dst := some 38, op := _, type := _, pos := _, after := _, guard := _ }) (v := .pointer (some ⟨b1, o1 + j * 26, none⟩)) rfl (by kernel_rfl) (by kernel_rfl) (by kernel_rfl) (fun _ _ _ h => h) (Or.inl ⟨by rfl, ?_⟩) (by assumption) ?_
              · intro w9 hSw
                exact exec_index rfl rfl rfl (index_ev w9 hjm)
              simp only [Act.put, List.setIfInBounds_toArray, List.set_cons_zero, List.set_cons_succ]
              refine wpAnyH_take (i := 8) (oi := { dst := some 39, op := _, type := _, pos := _, after := _, guard := _ }) (v := .pointer (some ⟨b1, o1 + j * 26 + 0, none⟩)) rfl (by kernel_rfl) (by kernel_rfl) (by kernel_rfl) (fun _ _ _ h => h) (Or.inl ⟨by rfl, ?_⟩) (by assumption) ?_
              · intro w9 hSw
                exact exec_field rfl rfl (fun w => field_e0 w _ _)
              simp only [Act.put, List.setIfInBounds_toArray, List.set_cons_zero, List.set_cons_succ]
              refine wpAnyH_take (i := 9) (oi := { dst := some 40, op := _, type := _, pos := _, after := _, guard := _ }) (v := .agg (dotc y.r y.n)) rfl (by kernel_rfl) (by kernel_rfl) (by kernel_rfl) (fun _ _ _ h => h) (Or.inl ⟨by rfl, ?_⟩) (by assumption) ?_
              · intro w9 hSw
                exact exec_load (ad := ⟨b1, o1 + j * 26 + 0, none⟩) rfl rfl (load_dt hSw.2)
              simp only [Act.put, List.setIfInBounds_toArray, List.set_cons_zero, List.set_cons_succ]
              refine wpAnyH_take (i := 10) (oi := { dst := some 41, op := _, type := _, pos := _, after := _, guard := _ }) (v := .bool false) rfl (by kernel_rfl) (by kernel_rfl) (by kernel_rfl) (fun _ _ _ h => h) (Or.inl ⟨by rfl, ?_⟩) (by assumption) ?_
              · intro w9 hSw
                exact exec_bin rfl rfl rfl (eqGuard_dt w9 _ _ _ _) (eql_dt w9 hd)
              simp only [Act.put, List.setIfInBounds_toArray, List.set_cons_zero, List.set_cons_succ]
              refine wpAnyH_done (by kernel_rfl) ?_ _
              refine NoPanic.normal ?_
              clear hHeld
              clear hr1 hr2 hs hd HJ
              go_wp2
              go_roundg (i - (j + 1))
              case measure => omega
              case rel => exact ⟨j + 1, by go_num, by omega, Nat.le_refl _, HJ2⟩
          · obtain rfl : j = i := by omega
            obtain ⟨b1', o1', x', hb1', hx', -, hr, hl⟩ := (HE.out.below hBw.out (Nat.le_refl _)).at hlt
            obtain rfl : x = x' := by rw [hx] at hx'; exact Option.some.inj hx'
            simp only [Option.some.injEq, Addr.mk.injEq, and_true] at hb1'
            obtain ⟨rfl, rfl⟩ := hb1'
            have hltz : (j : Int) < (m : Int) := by omega
            have hx16 := hwx.1
            have hix := fun W : World => index_ev W (b := b1) (off := o1) (k := j) (m := m) (c := c) hlt
            have HSN : Hid (backE E j = backE E (j + 1) ++ [x] ∧ NoneFrom E j) := ⟨back_step hx, none_step HR3.out.2.1 hx HJ.out.1⟩
            have hRow : Row (wr.alloc (.cells (evc x) 43)) w.heap.size u3 (backE E (j + 1)) := (HR3.out.1.below HJ.out.2 (Nat.le_refl _)).below ((Below.refl _ _).alloc (Nat.le_refl _) _) (Nat.le_refl _)
            have hF : Evs (wr.alloc (.cells (evc x) 43)) (some ⟨wr.heap.size, 0, none⟩) 1 1 [x] := evs_single _ _ x hwx (liesE_new wr x)
            have hll : (backE E (j + 1)).length ≤ m := by rw [back_len]; omega
            have hle : w.heap.size ≤ (wr.alloc (.cells (evc x) 43)).heap.size := by have := hBw.out.size; simp; omega
            have HB3 : Hid (Below w.heap.size w (wr.alloc (.cells (evc x) 43))) := hBw.out.alloc hBw.out.size _
            clear HJ HR3 hBw hl hx
            generalize backE E (j + 1) = R at *
            go_wp2_with (first | refine load_ev_mid rfl rfl rfl hr hx16 ?_ | refine build_ev1 rfl rfl rfl hx16 ?_ | refine wpList_appE rfl _ _ rfl w.heap.size _ R rfl hRow _ 1 1 [x] rfl hF (by omega) hle ?_)
            intro v4 w4 hR4 hg4 ho4
            have HS4 : Aside (Row w4 w.heap.size v4 (backE E j) ∧ NoneFrom E j ∧ Below w.heap.size w w4) := ⟨by rw [HSN.out.1]; exact hR4, HSN.out.2, HB3.out.grown hg4 hle hRow.own⟩
            clear hR4 hg4 ho4 hRow hF HB3 HSN hll hle hr hix
            go_wp2
            go_roundg j
            case measure => omega
            case rel => exact ⟨j, rfl, by omega, Nat.le_refl _, HS4⟩
end Go.Proofs.Ytmacebekodndjaa
