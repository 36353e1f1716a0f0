/-
  What slices.Compact of dots comes to.
-/
import Derived.Test.YtlbjdokfnammfaaMst
import Derived.Lib.SlicesCompact
import Derived.BigQuiet
import Derived.Deep.RegionWith
namespace Go.Proofs.Ytlbjdokfnammfaa
set_option maxRecDepth 100000
open Go.RowKit Go.Sort Go.Lib

theorem index_less (w : World) {b off k m c : Nat} (hk : k < m) (h0 : 0 < k) : (Instr.indexAt 29 (.slice (some ⟨b, off, none⟩) m c) (.int .i64 ((k : Int) - 1))).run Try.prog w = .ok (.pointer (some ⟨b, off + (k - 1) * 2, none⟩)) w := by
  rw [show (k : Int) - 1 = ((k - 1 : Nat) : Int) by omega]
  exact index_dt w (by omega)
theorem get_list {S : List Dt} {k : Nat} {d : Dt} (h : S[k]? = some d) : S.toArray[k]! = d := by
  obtain ⟨h1, h2⟩ := List.getElem?_eq_some_iff.1 h
  rw [getElem!_pos S.toArray k (by simpa using h1)]
  simpa using h2
set_option maxHeartbeats 2000000 in
theorem compactd_some (base g n cap : Nat) (S : List Dt) (w : World) (hR : DRow w base (.slice (some ⟨g, 0, none⟩) n cap) S) (hn : S.length = n) (hL : n ≤ 1000) (hcap : n ≤ cap) (hbg : base ≤ g) (hb : base ≤ w.heap.size) :
    Calls Try.prog 20 #[.slice (some ⟨g, 0, none⟩) n cap] w fun e w' => ∃ v', e = .returned v' ∧ DRow w' base v' (Lib.compact S) ∧ Below base w w' := by
  have HR : Aside (DRow w base (.slice (some ⟨g, 0, none⟩) n cap) S) := hR
  have HN : Hid (S.length = n) := hn
  have HG : Hid (base ≤ g ∧ base ≤ w.heap.size) := ⟨hbg, hb⟩
  have HC : Hid (∀ wr, (∀ j, j < n → keeps S.toArray j = true) → DRow wr base (.slice (some ⟨g, 0, none⟩) n cap) S → DRow wr base (.slice (some ⟨g, 0, none⟩) n cap) (Lib.compact S)) := by
    intro wr h1 h2
    rw [compact_all S (by rw [hn]; exact h1)]
    exact h2
  clear hR hn hbg hb
  by_cases h2 : n < 2
  · have h2z : (n : Int) < 2 := by omega
    have HF : Hid (DRow w base (.slice (some ⟨g, 0, none⟩) n cap) (Lib.compact S)) := HC.out w (fun j hj => keeps_lt_one _ j (by omega)) HR.out
    clear HC HR
    go_enter Try.func20, Try.ntmps20
    go_wp2
    go_ret
    exact ⟨_, rfl, HF.out, Below.refl _ _⟩
  · have h2z : ¬ (n : Int) < 2 := by omega
    go_enter Try.func20, Try.ntmps20
    go_wp2
    go_loopg [3] n (fun kx s3 wr => ∃ k : Nat, s3 = .int .i64 k ∧ 1 ≤ k ∧ k ≤ n ∧ n - k ≤ kx ∧ Aside ((∀ j, j < k → keeps S.toArray j = true) ∧ Below w.heap.size w wr))
    case atStart => exact ⟨1, rfl, Nat.le_refl _, by omega, by omega, keeps_lt_one _, Below.refl _ _⟩
    case round =>
      obtain ⟨k, rfl, hk1, hk, hkx, HS⟩ := hrel
      by_cases hlt : k < n
      · have hltz : (k : Int) < (n : Int) := by omega
        obtain ⟨x, hx⟩ : ∃ x, S[k]? = some x := ⟨_, List.getElem?_eq_getElem (by have := HN.out; omega)⟩
        obtain ⟨y, hy⟩ : ∃ y, S[k - 1]? = some y := ⟨_, List.getElem?_eq_getElem (by have := HN.out; omega)⟩
        have HX : Hid (S.toArray[k]! = x ∧ S.toArray[k - 1]! = y) := ⟨get_list hx, get_list hy⟩
        have hRr := HR.out.below HS.out.2 (Nat.le_refl _)
        have cx0 := hRr.range hx 0 _ rfl
        have cx1 := hRr.range hx 1 _ rfl
        have cy0 := hRr.range hy 0 _ rfl
        have cy1 := hRr.range hy 1 _ rfl
        rw [Nat.add_zero] at cx0 cy0
        have hix := fun W : World => index_dt W (b := g) (off := 0) (k := k) (m := n) (c := cap) hlt
        have hiy := fun W : World => index_less W (b := g) (off := 0) (k := k) (m := n) (c := cap) hlt hk1
        simp only [Nat.zero_add] at hix hiy
        have hpl := plain_dot
        have heq : ∀ W, (Op.equalIn 10000 34 (.agg #[.int .i64 x.1, .int .i64 x.2]) (.agg #[.int .i64 y.1, .int .i64 y.2])).run Try.prog W = .ok (decide (x.1 = y.1 ∧ x.2 = y.2)) W := fun W => run_equalIn_dot W 9998 x.1 x.2 y.1 y.2
        clear hRr hx hy
        by_cases hxy : x = y
        · subst hxy
          rw [decide_eq_true ⟨rfl, rfl⟩] at heq
          have hs1 := fun W : World => dslice_from W (g := g) hlt hcap
          have H0 : Aside (DRow wr.drew base (.slice (some ⟨g, 0, none⟩) n cap) S ∧ CompInv S.toArray (k + 1) k S.toArray ∧ Below base w wr.drew) :=
            ⟨(HR.out.below HS.out.2 (Nat.le_refl _)).keep (fun _ _ => rfl), CompInv.start HS.out.1 (keeps_neg hk1 (by rw [HX.out.1, HX.out.2])), (HS.out.2.mono HG.out.2).drew⟩
          clear HS HX HC
          go_wp2_with fail
          go_region
          go_wp2_with fail
          clear cx0 cx1 cy0 cy1 hix hiy heq
          go_loopg [3, 5] n (fun kx s3 s5 wr => ∃ (q k2 : Nat) (R : List Dt), s3 = .int .i64 q ∧ s5 = .int .i64 k2 ∧ 1 ≤ k2 ∧ k + k2 ≤ n ∧ n - (k + k2) ≤ kx ∧ R.length = n ∧ q < k + k2 ∧ Aside (DRow wr base (.slice (some ⟨g, 0, none⟩) n cap) R ∧ CompInv S.toArray (k + k2) q R.toArray ∧ Below base w wr))
          case atStart => exact ⟨k, 1, S, rfl, rfl, Nat.le_refl _, by omega, by omega, HN.out, by omega, H0⟩
          case round =>
            clear H0
            obtain ⟨q, k2, R, rfl, rfl, hk21, hk2, hkx2, hRl, hq, HS⟩ := hrel
            by_cases hlt2 : k + k2 < n
            · have hl2 : k2 < n - k := by omega
              have hltz2 : (k2 : Int) < ((n - k : Nat) : Int) := by omega
              have hqn : q < n := by omega
              have hqz : (q : Int) < (n : Int) := by omega
              obtain ⟨x, hx⟩ : ∃ x, R[k + k2]? = some x := ⟨_, List.getElem?_eq_getElem (by omega)⟩
              obtain ⟨y, hy⟩ : ∃ y, R[k + k2 - 1]? = some y := ⟨_, List.getElem?_eq_getElem (by omega)⟩
              have HX : Hid (S.toArray[k + k2]! = x ∧ S.toArray[k + k2 - 1]! = y) := ⟨by rw [← HS.out.2.1.high _ (by omega)]; exact get_list hx, by rw [← HS.out.2.1.high _ (by omega)]; exact get_list hy⟩
              have hrx := HS.out.1.range hx
              have hry := HS.out.1.range hy
              rw [show (k + k2) * 2 = k * 2 + k2 * 2 by omega] at hrx
              rw [show (k + k2 - 1) * 2 = k * 2 + (k2 - 1) * 2 by omega] at hry
              have cx0 := hrx 0 _ rfl
              have cx1 := hrx 1 _ rfl
              have cy0 := hry 0 _ rfl
              have cy1 := hry 1 _ rfl
              rw [Nat.add_zero] at cx0 cy0
              have hix := fun W : World => index_dt W (b := g) (off := k * 2) (k := k2) (m := n - k) (c := cap - k) hl2
              have hiy := fun W : World => index_less W (b := g) (off := k * 2) (k := k2) (m := n - k) (c := cap - k) hl2 hk21
              have hiq := fun W : World => index_dt W (b := g) (off := 0) (k := q) (m := n) (c := cap) hqn
              simp only [Nat.zero_add] at hiq
              have heq : ∀ W, (Op.equalIn 10000 34 (.agg #[.int .i64 x.1, .int .i64 x.2]) (.agg #[.int .i64 y.1, .int .i64 y.2])).run Try.prog W = .ok (decide (x.1 = y.1 ∧ x.2 = y.2)) W := fun W => run_equalIn_dot W 9998 x.1 x.2 y.1 y.2
              clear hry hx hy
              by_cases hxy : x = y
              · subst hxy
                rw [decide_eq_true ⟨rfl, rfl⟩] at heq
                have HS2 : Aside (DRow wr.drew base (.slice (some ⟨g, 0, none⟩) n cap) R ∧ CompInv S.toArray (k + (k2 + 1)) q R.toArray ∧ Below base w wr.drew) := ⟨HS.out.1.keep (fun _ _ => rfl), HS.out.2.1.skip (keeps_neg (by omega) (by rw [HX.out.1, HX.out.2])), HS.out.2.2.drew⟩
                clear HS HX hrx
                go_wp2_with fail
                go_region
                go_wp2
                go_roundg (n - (k + (k2 + 1)))
                case measure => omega
                case rel => exact ⟨q, k2 + 1, R, rfl, by go_num, by omega, by omega, Nat.le_refl _, hRl, by omega, HS2⟩
              · rw [decide_eq_false (fun h => hxy (Prod.ext h.1 h.2))] at heq
                have hrx2 : wr.drew.rangeAt g (k * 2 + k2 * 2) (dtl x) := hrx
                have hth : wr.drew.there g (q * 2) 2 := HS.out.1.there hRl hqn
                have HS2 : Aside (DRow (wr.drew.setCells g (q * 2) (dtl x)) base (.slice (some ⟨g, 0, none⟩) n cap) (R.set q x) ∧ CompInv S.toArray (k + (k2 + 1)) (q + 1) (R.set q x).toArray ∧ Below base w (wr.drew.setCells g (q * 2) (dtl x))) := by
                  refine ⟨DRow.put (HS.out.1.keep (w' := wr.drew) (fun _ _ => rfl)) hRl, ?_, below_puts HG.out.1 _ _ _ HS.out.2.2.drew⟩
                  have := HS.out.2.1.keep (by rw [List.size_toArray, HN.out]; exact hlt2) (keeps_pos (by rw [HX.out.1, HX.out.2]; exact hxy))
                  rw [HX.out.1, List.setIfInBounds_toArray] at this
                  exact this
                have hRl2 : (R.set q x).length = n := by rw [List.length_set]; exact hRl
                clear HS HX hrx hxy
                go_wp2_with fail
                go_region
                go_wp2_with (first | refine load_dt_mid rfl rfl rfl hrx2 ?_ | refine store_dt_at rfl rfl rfl rfl hth ?_)
                go_roundg (n - (k + (k2 + 1)))
                case measure => omega
                case rel => exact ⟨q + 1, k2 + 1, R.set q x, by go_num, by go_num, by omega, by omega, Nat.le_refl _, hRl2, by omega, HS2⟩
            · have hl2 : ¬ (k2 : Int) < ((n - k : Nat) : Int) := by omega
              have hend : k + k2 = n := by omega
              have hqn : q < n := by omega
              have hqc : q ≤ cap := by omega
              have hqz : (q : Int) < (n : Int) := by omega
              have hcl := HS.out.1.clear hRl hqn
              have hs2 := fun W : World => dslice_from W (g := g) hqn hcap
              have hs3 := fun W : World => dslice_to W (ao := some ⟨g, 0, none⟩) (m := n) hqc
              have HF : Hid (DRow (wr.setCells g (q * 2) (Builtin.zeroCells (dotc 0 0) (n - q)).toList) base (.slice (some ⟨g, 0, none⟩) q cap) (Lib.compact S) ∧ Below base w (wr.setCells g (q * 2) (Builtin.zeroCells (dotc 0 0) (n - q)).toList)) := by
                refine ⟨?_, below_puts HG.out.1 _ _ _ HS.out.2.2⟩
                have e : R.take q = Lib.compact S := by
                  have hI := HS.out.2.1
                  rw [hend] at hI
                  have e0 : Lib.compact S = compactUpTo S.toArray n := by rw [Lib.compact, HN.out]
                  rw [e0]
                  apply List.ext_getElem?
                  intro j
                  by_cases hj : j < q
                  · rw [List.getElem?_take_of_lt hj, hI.low j hj, getElem!_pos R.toArray j (by simp; omega), List.getElem?_eq_getElem (by omega)]
                    simp
                  · rw [List.getElem?_eq_none (by rw [List.length_take]; omega), List.getElem?_eq_none (by rw [hI.len]; omega)]
                rw [← e]
                exact HS.out.1.cut hRl (by omega)
              clear HS
              go_wp2
              go_ret
              exact ⟨_, rfl, HF.out⟩
        · rw [decide_eq_false (fun h => hxy (Prod.ext h.1 h.2))] at heq
          have HS2 : Aside ((∀ j, j < k + 1 → keeps S.toArray j = true) ∧ Below w.heap.size w wr.drew) := by
            refine ⟨fun j hj => ?_, HS.out.2.drew⟩
            by_cases e : j = k
            · subst e
              exact keeps_pos (by rw [HX.out.1, HX.out.2]; exact hxy)
            · exact HS.out.1 j (by omega)
          clear HS HX hxy
          go_wp2_with fail
          go_region
          go_wp2
          go_roundg (n - (k + 1))
          case measure => omega
          case rel => exact ⟨k + 1, by go_num, by omega, by omega, Nat.le_refl _, HS2⟩
      · obtain rfl : n = k := by omega
        have HF : Hid (DRow wr base (.slice (some ⟨g, 0, none⟩) n cap) (Lib.compact S) ∧ Below base w wr) := ⟨HC.out wr HS.out.1 (HR.out.below HS.out.2 (Nat.le_refl _)), HS.out.2.mono HG.out.2⟩
        clear HS HC HR
        go_wp2
        go_ret
        exact ⟨_, rfl, HF.out⟩
theorem compactd_any (base : Nat) (v : Value) (S : List Dt) (w : World) (hR : DRow w base v S) (hL : S.length ≤ 1000) (hb : base ≤ w.heap.size) :
    Calls Try.prog 20 #[v] w fun e w' => ∃ v', e = .returned v' ∧ DRow w' base v' (Lib.compact S) ∧ Below base w w' := by
  rcases hR.head with ⟨rfl, rfl⟩ | ⟨g, cap, rfl, hbg, hg, hcap⟩
  · have HF : Hid (DRow w base (.slice none 0 0) (Lib.compact ([] : List Dt))) := hR
    clear hR
    go_enter Try.func20, Try.ntmps20
    go_wp2
    go_ret
    exact ⟨_, rfl, HF.out, Below.refl _ _⟩
  · exact compactd_some base g _ cap S w hR rfl hL hcap hbg hb
end Go.Proofs.Ytlbjdokfnammfaa
