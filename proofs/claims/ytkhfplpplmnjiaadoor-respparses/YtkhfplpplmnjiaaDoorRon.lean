/-
  What the reference's one comes to: the command at a place, as a new list of texts.
-/
import Derived.Test.YtkhfplpplmnjiaaDoorRct
import Derived.Test.YtkhfplpplmnjiaaDoorCmd
namespace Go.Proofs.YtkhfplpplmnjiaaDoor
set_option maxRecDepth 100000
open Go.RowKit

theorem rx_ne {E : Nat} (h : E ≠ 0) : rx E ≠ 0 := by unfold rx; split <;> omega
theorem rcount_yes (l : List UInt8) (n : Nat) (hz : (tx l).size = n) (a q k j : Nat) (sg : UInt8) (S : Int) (hS : (sg.toNat : Int) = S) (lo hi : Nat) (Lo Hi : Int) (hLo : (lo : Int) = Lo) (hHi : (hi : Int) = Hi) (w : World) (ha : a ≤ n) (hm : n ≤ 1048576) (h : Rs.cntR sg lo hi (l.drop a) = .ok (k, j)) (hq : a + j = q) :
    Calls Tryd.prog 31 #[.string (tx l), .int .i64 (a : Int), .int .u8 S, .int .i64 Lo, .int .i64 Hi] w fun e w' => e = .returned (.tuple #[.int .i64 (k : Int), .int .i64 (q : Int), .int .i64 0]) ∧ Below w.heap.size w w' := by
  have := rcount_any (tx l) l (tx_list l) n hz a sg lo hi w ha hm
  rw [h, rN, rP, rE] at this
  dsimp only at this
  rw [hq, hS, hLo, hHi] at this
  exact this
theorem rcount_not (l : List UInt8) (n : Nat) (hz : (tx l).size = n) (a E : Nat) (sg : UInt8) (S : Int) (hS : (sg.toNat : Int) = S) (lo hi : Nat) (Lo Hi : Int) (hLo : (lo : Int) = Lo) (hHi : (hi : Int) = Hi) (w : World) (ha : a ≤ n) (hm : n ≤ 1048576) (h : Rs.cntR sg lo hi (l.drop a) = .error E) :
    Calls Tryd.prog 31 #[.string (tx l), .int .i64 (a : Int), .int .u8 S, .int .i64 Lo, .int .i64 Hi] w fun e w' => e = .returned (.tuple #[.int .i64 0, .int .i64 0, .int .i64 (rx E : Int)]) ∧ Below w.heap.size w w' := by
  have := rcount_any (tx l) l (tx_list l) n hz a sg lo hi w ha hm
  rw [h, hS, hLo, hHi] at this
  exact this

def OneOut (d : List UInt8) (a base : Nat) (e : Ending) (w' : World) : Prop :=
  (∃ E : Nat, Rs.cmdR d = .error E ∧ e = .returned (.tuple #[.slice none 0 0, .int .i64 0, .int .i64 (rx E : Int)])) ∨ ∃ L k v, Rs.cmdR d = .ok (L, k) ∧ e = .returned (.tuple #[v, .int .i64 ((a + k : Nat) : Int), .int .i64 0]) ∧ OwnT w' base v (L.map tx)

set_option maxHeartbeats 4000000 in
theorem one_any (l : List UInt8) (n : Nat) (hz : (tx l).size = n) (a : Nat) (w : World) (ha : a ≤ n) (hm : n ≤ 1048576) :
    Calls Tryd.prog 28 #[.string (tx l), .int .i64 (a : Int)] w fun e w' => OneOut (l.drop a) a w.heap.size e w' ∧ Below w.heap.size w w' := by
  obtain ⟨i0, hi, hz0, hz1, hz2⟩ := info_parts infoT
  have Hlen : Hid (l.length = n) := by rw [Hid, ← hz, tx_size]
  cases h1 : Rs.cntR 42 1 8 (l.drop a) with
  | error E =>
    have hE := bad_pos (Rs.bad_cnt _ _ _ _) h1
    have HE : Hid _ := cmd_one h1
    have C1 : Hid _ := rcount_not l n hz a E 42 42 rfl 1 8 1 8 rfl rfl w ha hm h1
    have hE0 := ne_zero (rx_ne hE.1)
    clear h1
    go_enter Tryd.func28, Tryd.ntmps28
    go_wp2_with fail
    refine Calls.mono C1.out ?_
    rintro e w1 ⟨rfl, hb1⟩
    go_wp2
    go_ret3
    exact ⟨.inl ⟨E, HE.out, rfl⟩, hb1⟩
  | ok r =>
    obtain ⟨N, k⟩ := r
    obtain ⟨hk3, hkl, hn1, hn⟩ := Rs.cnt_len h1
    rw [List.length_drop, Hlen.out] at hkl
    dsimp only at hk3 hkl hn1 hn
    obtain ⟨q, hq⟩ : ∃ q, q = a + k := ⟨_, rfl⟩
    have C1 : Hid _ := rcount_yes l n hz a q N k 42 42 rfl 1 8 1 8 rfl rfl w ha hm h1 hq.symm
    have hqn : q ≤ n := by omega
    have hdq : (l.drop a).drop k = l.drop q := by rw [List.drop_drop, hq]
    have H1 : Hid (∀ E, Rs.argsR N (l.drop q) = .error E → Rs.cmdR (l.drop a) = .error E) := fun E h => cmd_two h1 (by rw [hdq]; exact h)
    have H2 : Hid (∀ L j, Rs.argsR N (l.drop q) = .ok (L, j) → Rs.cmdR (l.drop a) = .ok (L, k + j)) := fun L j h => cmd_three h1 (by rw [hdq]; exact h)
    have Hq : Hid (q = a + k) := hq
    clear h1 hq hdq hkl hk3
    go_enter Tryd.func28, Tryd.ntmps28
    go_wp2_with fail
    refine Calls.mono C1.out ?_
    rintro e w1 ⟨rfl, hb1⟩
    go_wp2_with fail
    go_loopw [1, 9, 10] (fun t v i wr => ∃ (p j u : Nat) (P : List (List UInt8)), p ≤ n ∧ u ≤ N ∧ P.length = u ∧ t = .int .i64 (p : Int) ∧ i = .int .i64 (u : Int) ∧ Hid (p = q + j ∧ Rs.argsR N (l.drop q) = Rs.pre P j (Rs.argsR (N - u) ((l.drop q).drop j))) ∧ wr.ownsRow w.heap.size 9 1 v P.length ((P.map tx).map Value.string) ∧ Below w.heap.size w wr) (fun _ _ i _ => N - (intOf i).toNat)
    case atStart => exact ⟨q, 0, 0, [], hqn, Nat.zero_le _, rfl, rfl, rfl, ⟨rfl, Rs.args_zero _ _⟩, World.ownsRow_nil _ _ _ _, hb1⟩
    case round =>
      obtain ⟨p, j, u, P, hpn, huN, hPl, rfl, rfl, HR, hown, hbel⟩ := hrel
      by_cases hlt : u < N
      · have hdj : (l.drop q).drop j = l.drop p := by rw [List.drop_drop, HR.out.1]
        have hR := HR.out.2
        rw [show N - u = (N - u - 1) + 1 by omega] at hR
        have HF : Hid (∀ E, Rs.argR (l.drop p) = .error E → Rs.cmdR (l.drop a) = .error E) := fun E h => H1.out E (Rs.args_fail hR (by rw [hdj]; exact h))
        have HN : Hid (∀ t k2, Rs.argR (l.drop p) = .ok (t, k2) → Rs.argsR N (l.drop q) = Rs.pre (P ++ [t]) (j + k2) (Rs.argsR (N - (u + 1)) ((l.drop q).drop (j + k2)))) := fun t k2 h => by
          rw [show N - (u + 1) = N - u - 1 by omega]
          exact Rs.args_next hR (by rw [hdj]; exact h)
        clear hR hdj
        cases h36 : Rs.cntR 36 0 64 (l.drop p) with
        | error E =>
          have hE := bad_pos (Rs.bad_cnt _ _ _ _) h36
          have HE : Hid _ := HF.out E (arg_one h36)
          have C2 : Hid _ := rcount_not l n hz p E 36 36 rfl 0 64 0 64 rfl rfl wr hpn hm h36
          have hE0 := ne_zero (rx_ne hE.1)
          clear h36
          go_wp2_with fail
          refine Calls.mono C2.out ?_
          rintro e w3 ⟨rfl, hb3⟩
          go_wp2
          go_ret3
          exact ⟨.inl ⟨E, HE.out, rfl⟩, hbel.trans (hb3.mono hbel.size)⟩
        | ok x =>
          obtain ⟨b, jj⟩ := x
          obtain ⟨hj3, hjl, -, hb64⟩ := Rs.cnt_len h36
          rw [List.length_drop, Hlen.out] at hjl
          dsimp only at hj3 hjl hb64
          obtain ⟨z, hzz⟩ : ∃ z, z = p + jj := ⟨_, rfl⟩
          obtain ⟨y, hy⟩ : ∃ y, y = z + b := ⟨_, rfl⟩
          have hzn : z ≤ n := by omega
          have C2 : Hid _ := rcount_yes l n hz p z b jj 36 36 rfl 0 64 0 64 rfl rfl wr hpn hm h36 hzz.symm
          have hdy : (l.drop p).drop (jj + b) = l.drop y := by rw [List.drop_drop, hy, hzz, Nat.add_assoc]
          have HA1 : Hid (n < y → Rs.argR (l.drop p) = .error 2) := fun h => arg_two h36 (by rw [List.length_drop, Hlen.out]; omega)
          have HA2 : Hid (∀ E, y ≤ n → Rs.passE Rs.crlf (l.drop y) = E → E ≠ 0 → Rs.argR (l.drop p) = .error E) := fun E h h2 h3 => arg_three h36 (by rw [List.length_drop, Hlen.out]; omega) (by rw [hdy]; exact h2) h3
          have HA3 : Hid (y ≤ n → Rs.passE Rs.crlf (l.drop y) = 0 → Rs.argR (l.drop p) = .ok ((l.drop z).take b, jj + b + 2)) := fun h h2 => by
            rw [arg_four h36 (by rw [List.length_drop, Hlen.out]; omega) (by rw [hdy]; exact h2), List.drop_drop, ← hzz]
          have Hy : Hid (y = z + b ∧ z = p + jj ∧ 3 ≤ jj) := ⟨hy, hzz, hj3⟩
          clear h36 hdy hjl hj3 hzz
          go_wp2_with fail
          refine Calls.mono C2.out ?_
          rintro e w3 ⟨rfl, hb3⟩
          have hown3 := row_below hown hb3
          have hbel3 := hbel.trans (hb3.mono hbel.size)
          clear hown hbel hb3
          go_wp2_with fail
          go_loopw [14] (fun v wr => ∃ c : Nat, y ≤ c ∧ c ≤ y + 2 ∧ (c ≤ n ∨ c = y) ∧ v = .int .i64 (c : Int) ∧ Hid (Rs.passE Rs.crlf (l.drop y) = Rs.passE (Rs.crlf.drop (c - y)) (l.drop c)) ∧ wr.ownsRow w.heap.size 9 1 u9 P.length ((P.map tx).map Value.string) ∧ Below w.heap.size w wr) (fun v _ => y + 2 - (intOf v).toNat)
          case atStart => exact ⟨y, Nat.le_refl _, by omega, .inr rfl, by rw [hy]; go_num, by rw [Nat.sub_self]; rfl, hown3, hbel3⟩
          case round =>
            obtain ⟨c, hyc, hc2, hcn, rfl, HC, hownc, hbelc⟩ := hrel
            clear hown3 hbel3
            by_cases hcy : c < y + 2
            · have hc1' : (c : Int) < (z : Int) + (b : Int) + 2 := by omega
              by_cases hcl : c < n
              · have hcl' : (c : Int) < (n : Int) := by omega
                have hcs : c < (tx l).size := by omega
                have hgc := tx_get l c hcs
                have hld := drop_cons l c (by rw [Hlen.out]; exact hcl)
                rcases (show c = y ∨ c = y + 1 by omega) with h | h
                · have hsub : (c : Int) - (z : Int) - (b : Int) = 0 := by omega
                  have hcd : Rs.crlf.drop (c - y) = 13 :: Rs.crlf.drop (c + 1 - y) := by rw [show c - y = 0 by omega, show c + 1 - y = 1 by omega]; rfl
                  by_cases hx : l.getD c 0 = 13
                  · have hx' : ((((tx l)[c]'hcs).toNat : Int) == ((({ data := #[13, 10] } : ByteArray)[0]'(by decide)).toNat : Int)) = true := by rw [hgc, hx]; rfl
                    have HN2 : Hid (Rs.passE Rs.crlf (l.drop y) = Rs.passE (Rs.crlf.drop (c + 1 - y)) (l.drop (c + 1))) := by rw [Hid, HC.out, hcd, hld, Rs.passE, if_pos hx]
                    clear HC hcd hld hgc h hx
                    go_wp2_with fail
                    go_quiet (fail)
                    go_wp2
                    go_roundw
                    case rel => exact ⟨c + 1, by omega, by omega, .inl hcl, by go_num, HN2, row_below hownc (drawn _ _), hbelc.trans ((drawn _ _).mono hbelc.size)⟩
                    case measure => simp [intOf]; omega
                  · have hx' : ((((tx l)[c]'hcs).toNat : Int) == ((({ data := #[13, 10] } : ByteArray)[0]'(by decide)).toNat : Int)) = false := by rw [hgc]; exact u8_ne hx
                    have HE : Hid _ := HF.out 3 (HA2.out 3 (by omega) (by rw [HC.out, hcd, hld, Rs.passE, if_neg hx]) (by decide))
                    clear HC hcd hld hgc h hx
                    go_wp2_with fail
                    go_quiet (fail)
                    go_wp2
                    go_ret3
                    exact ⟨.inl ⟨3, HE.out, rfl⟩, hbelc.trans ((drawn _ _).mono hbelc.size)⟩
                · have hsub : (c : Int) - (z : Int) - (b : Int) = 1 := by omega
                  have hcd : Rs.crlf.drop (c - y) = 10 :: Rs.crlf.drop (c + 1 - y) := by rw [show c - y = 1 by omega, show c + 1 - y = 2 by omega]; rfl
                  by_cases hx : l.getD c 0 = 10
                  · have hx' : ((((tx l)[c]'hcs).toNat : Int) == ((({ data := #[13, 10] } : ByteArray)[1]'(by decide)).toNat : Int)) = true := by rw [hgc, hx]; rfl
                    have HN2 : Hid (Rs.passE Rs.crlf (l.drop y) = Rs.passE (Rs.crlf.drop (c + 1 - y)) (l.drop (c + 1))) := by rw [Hid, HC.out, hcd, hld, Rs.passE, if_pos hx]
                    clear HC hcd hld hgc h hx
                    go_wp2_with fail
                    go_quiet (fail)
                    go_wp2
                    go_roundw
                    case rel => exact ⟨c + 1, by omega, by omega, .inl hcl, by go_num, HN2, row_below hownc (drawn _ _), hbelc.trans ((drawn _ _).mono hbelc.size)⟩
                    case measure => simp [intOf]; omega
                  · have hx' : ((((tx l)[c]'hcs).toNat : Int) == ((({ data := #[13, 10] } : ByteArray)[1]'(by decide)).toNat : Int)) = false := by rw [hgc]; exact u8_ne hx
                    have HE : Hid _ := HF.out 3 (HA2.out 3 (by omega) (by rw [HC.out, hcd, hld, Rs.passE, if_neg hx]) (by decide))
                    clear HC hcd hld hgc h hx
                    go_wp2_with fail
                    go_quiet (fail)
                    go_wp2
                    go_ret3
                    exact ⟨.inl ⟨3, HE.out, rfl⟩, hbelc.trans ((drawn _ _).mono hbelc.size)⟩
              · have hcl' : ¬ (c : Int) < (n : Int) := by omega
                have hrest : (n : Int) - (z : Int) < (b : Int) + 2 := by omega
                have HE : Hid (Rs.cmdR (l.drop a) = .error 2) := HF.out 2 (by
                  by_cases hny : n < y
                  · exact HA1.out hny
                  · refine HA2.out 2 (by omega) ?_ (by decide)
                    rw [HC.out, List.drop_eq_nil_of_le (show l.length ≤ c by rw [Hlen.out]; omega)]
                    rcases (show c - y = 0 ∨ c - y = 1 by omega) with h | h <;> rw [h] <;> rfl)
                clear HC
                go_wp2
                go_ret3
                exact ⟨.inl ⟨2, HE.out, rfl⟩, hbelc⟩
            · have hc1' : ¬ (c : Int) < (z : Int) + (b : Int) + 2 := by omega
              have hrest : ¬ (n : Int) - (z : Int) < (b : Int) + 2 := by omega
              have HA := HA3.out (by omega) (by rw [HC.out, show c - y = 2 by omega]; rfl)
              have HT : Hid _ := HN.out _ _ HA
              have hsl : ∀ W, (Instr.slice 9 (.string (tx l)) (some (.int .i64 (z : Int))) (some (.int .i64 ((z : Int) + (b : Int)))) none).run Tryd.prog W = .ok (.string (tx ((l.drop z).take b))) W := fun W => by
                have := slice_tx (tx l) z (z + b) (z : Int) ((z : Int) + (b : Int)) rfl rfl (by omega) (by rw [hz]; omega) W
                rwa [tx_list, Nat.add_sub_cancel_left] at this
              obtain ⟨T, hT⟩ : ∃ T, T = (l.drop z).take b := ⟨_, rfl⟩
              rw [← hT] at HT hsl
              have hbelc' := hbelc.alloc hbelc.size (Obj.cells #[Value.string (tx T)] 9)
              have hownc' := row_below hownc ((Below.refl wr.heap.size wr).alloc (Nat.le_refl _) (Obj.cells #[Value.string (tx T)] 9))
              have hnew := new_one wr (Value.string (tx T)) 9
              have hPN : P.length ≤ 8 := by omega
              clear HC HA hT hownc
              go_wp2_with (first
                | (at_builtin; refine wpList_append_own _ rfl (.tmp 74) (.tmp 81) 22 rfl w.heap.size 9 i0 (.string ByteArray.empty) 1 16 Tryd.underlying22 hi hz0 hz1 hz2 rfl (by omega) u9 P.length ((P.map tx).map Value.string) rfl hownc' ⟨wr.heap.size, 0, none⟩ 1 1 [Value.string (tx T)] rfl rfl hnew (by simp [Value.oneCell']) (by unfold maxLen; omega) (by omega) hbelc'.size ?_))
              rintro v' w5 hown5 hgrow5 -
              have hbel5 := hbelc'.grown hgrow5 hbelc'.size (fun k hk => (hownc'.lt k hk).1)
              go_wp2
              go_roundw
              case rel => exact ⟨z + b + 2, j + (jj + b + 2), u + 1, P ++ [T], by omega, by omega, by simp [hPl], by go_num, by go_num, ⟨by have := Hy.out; have := HR.out.1; omega, HT.out⟩, by rw [show (P ++ [T]).length = u + 1 by simp [hPl], show ((P ++ [T]).map tx).map Value.string = List.map (Value.string ∘ tx) P ++ [Value.string (tx T)] by simp]; exact hown5, hbel5⟩
              case measure => simp [intOf]; omega
      · obtain rfl : u = N := by omega
        have hR := HR.out.2
        rw [Nat.sub_self] at hR
        have HF : Hid (Rs.cmdR (l.drop a) = .ok (P, k + j) ∧ p = a + (k + j)) := ⟨H2.out P j (Rs.args_done hR), by rw [HR.out.1, Hq.out]; omega⟩
        have HO : Hid (OwnT wr w.heap.size u9 (P.map tx)) := by rw [Hid, OwnT, List.length_map]; exact hown
        clear hR hown HR
        go_wp2
        go_ret3
        have ev := HF.out.2
        refine ⟨.inr ⟨P, k + j, u9, HF.out.1, ?_, HO.out⟩, hbel⟩
        rw [← ev]
        rfl
end Go.Proofs.YtkhfplpplmnjiaaDoor
