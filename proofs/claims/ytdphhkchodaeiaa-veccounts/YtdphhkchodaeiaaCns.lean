/-
  VecCounts, the walk.
-/
import Derived.Test.YtdphhkchodaeiaaCnt
namespace Go.Proofs.Ytdphhkchodaeiaa
open Go.RowKit

set_option maxHeartbeats 1000000 in
theorem counts_not (v : List Int) (r m : Int) (hv : v.length = 16) (h : ¬ (fine v = true ∧ 0 ≤ r ∧ r < 16)) (w : World) :
    Calls Try.prog 8 #[.agg (vals v), .int .i64 r, .int .u8 m] w fun e w' => e = .returned (.bool true) ∧ Below w.heap.size w w' := by
  have hV := lies_new w v
  have hb0 : Below w.heap.size w (w.alloc (.cells (vals v) 23)) := (Below.refl _ _).alloc (Nat.le_refl _) _
  rcases Bool.eq_false_or_eq_true (fine v) with hf | hf
  · by_cases h0 : r < 0
    · clear h
      go_enter Try.func8, Try.ntmps8
      go_wp2_with fail
      refine (awake_any _).mono ?_
      rintro e w1 ⟨rfl, hb1⟩
      have hV1 := hV.below hb1 hV.lt
      have B1 : Hid (Below w.heap.size w w1) := hb0.trans (hb1.mono hb0.size)
      clear hV hb0 hb1
      go_wp2_with (refine load_vec_w rfl rfl rfl hV1 hv ?_)
      refine (right_any v hv _).mono ?_
      rintro e w2 ⟨rfl, hb2⟩
      have B2 : Hid (Below w.heap.size w w2) := B1.out.trans (hb2.mono B1.out.size)
      clear hV1 hb2 B1
      rw [hf]
      go_wp2_with fail
      refine (awake_any _).mono ?_
      rintro e w3 ⟨rfl, hb3⟩
      go_wp2
      go_ret
      exact ⟨rfl, B2.out.trans (hb3.mono B2.out.size)⟩
    · have h1 : 16 ≤ r := by
        apply Classical.byContradiction
        intro hn
        exact h ⟨hf, by omega, by omega⟩
      clear h
      go_enter Try.func8, Try.ntmps8
      go_wp2_with fail
      refine (awake_any _).mono ?_
      rintro e w1 ⟨rfl, hb1⟩
      have hV1 := hV.below hb1 hV.lt
      have B1 : Hid (Below w.heap.size w w1) := hb0.trans (hb1.mono hb0.size)
      clear hV hb0 hb1
      go_wp2_with (refine load_vec_w rfl rfl rfl hV1 hv ?_)
      refine (right_any v hv _).mono ?_
      rintro e w2 ⟨rfl, hb2⟩
      have B2 : Hid (Below w.heap.size w w2) := B1.out.trans (hb2.mono B1.out.size)
      clear hV1 hb2 B1
      rw [hf]
      go_wp2_with fail
      refine (awake_any _).mono ?_
      rintro e w3 ⟨rfl, hb3⟩
      go_wp2
      go_ret
      exact ⟨rfl, B2.out.trans (hb3.mono B2.out.size)⟩
  · clear h
    go_enter Try.func8, Try.ntmps8
    go_wp2_with fail
    refine (awake_any _).mono ?_
    rintro e w1 ⟨rfl, hb1⟩
    have hV1 := hV.below hb1 hV.lt
    have B1 : Hid (Below w.heap.size w w1) := hb0.trans (hb1.mono hb0.size)
    clear hV hb0 hb1
    go_wp2_with (refine load_vec_w rfl rfl rfl hV1 hv ?_)
    refine (right_any v hv _).mono ?_
    rintro e w2 ⟨rfl, hb2⟩
    have B2 : Hid (Below w.heap.size w w2) := B1.out.trans (hb2.mono B1.out.size)
    clear hV1 hb2 B1
    rw [hf]
    go_wp2_with fail
    refine (awake_any _).mono ?_
    rintro e w3 ⟨rfl, hb3⟩
    go_wp2
    go_ret
    exact ⟨rfl, B2.out.trans (hb3.mono B2.out.size)⟩

set_option maxHeartbeats 1000000 in
theorem counts_big (v : List Int) (k : Nat) (m x : Int) (hv : v.length = 16) (hk : k < 16) (hm0 : 0 ≤ m) (hm1 : m ≤ 255) (hf : fine v = true) (hx : v.getD k 0 = x) (hc : 1048576 < x + m) (w : World) :
    Calls Try.prog 8 #[.agg (vals v), .int .i64 (k : Int), .int .u8 m] w fun e w' => e = .returned (.bool true) ∧ Below w.heap.size w w' := by
  have hV := lies_new w v
  have hb0 : Below w.heap.size w (w.alloc (.cells (vals v) 23)) := (Below.refl _ _).alloc (Nat.le_refl _) _
  obtain ⟨x0, x1⟩ := fine_get v k hv hk hf
  rw [hx] at x0 x1
  have Hx : Hid (v.getD k 0 = x) := hx
  clear hx
  have hge : ¬ (16 : Int) ≤ (k : Int) := by omega
  have hia := fun (W : World) (g : Nat) => run_indexAt_vec W g k hk
  go_enter Try.func8, Try.ntmps8
  go_wp2_with fail
  refine (awake_any _).mono ?_
  rintro e w1 ⟨rfl, hb1⟩
  have hV1 := hV.below hb1 hV.lt
  have B1 : Hid (Below w.heap.size w w1) := hb0.trans (hb1.mono hb0.size)
  clear hV hb0 hb1
  go_wp2_with (refine load_vec_w rfl rfl rfl hV1 hv ?_)
  refine (right_any v hv _).mono ?_
  rintro e w2 ⟨rfl, hb2⟩
  have hV2 := hV1.below hb2 hV1.lt
  have hT3 := laidV w2 v
  have hV3 := hV2.past (.cells (vals zeros) 23) (vals v)
  have hT4 := hT3.set (k := k) (1048576)
  have hV4 := hV3.other (ad := ⟨w2.heap.size, k, none⟩) (.int .i64 (1048576)) (Nat.ne_of_lt hV2.lt)
  have B2 : Hid (Below w.heap.size w w2) := B1.out.trans (hb2.mono B1.out.size)
  have hcx := hT3.cell (k := k) (by omega)
  rw [Hx.out] at hcx
  have hfz := hT3.frozen (k := k)
  have hcT := hT4.cell (k := k) (by rw [List.length_set]; omega)
  rw [show (v.set k (1048576)).getD k 0 = 1048576 from put_same v k _ (by omega)] at hcT
  have hcV := hV4.cell (k := k) (by omega)
  rw [Hx.out] at hcV
  rw [zeros_vals] at hcx hfz hcT hcV
  clear hV1 hb2 B1 hT3 hV3
  rw [hf]
  go_wp2_with (first | refine load_vec rfl rfl rfl hV2 hv ?_ | refine store_vec rfl rfl rfl rfl (lies_new _ zeros) hv rfl ?_)
  clear hcx hfz hV2
  go_quiet (fail)
  clear hcT hcV
  have hT5 := hT4.drewN nq
  have hV5 := hV4.drewN nq
  have B5 : Below w.heap.size w _ := Below.drewN ((Below.past B2.out B2.out.size (.cells (vals zeros) 23) (vals v)).setCell (p := ⟨w2.heap.size, k, none⟩) B2.out.size (.int .i64 (1048576))) nq
  have g5 : w2.heap.size < (World.drewN (((w2.alloc (.cells (vals zeros) 23)).setRow w2.heap.size (vals v)).setCell ⟨w2.heap.size, k, none⟩ (.int .i64 (1048576))) nq).heap.size := hT5.lt
  clear hT4 hV4
  rw [zeros_vals] at hT5 hV5 B5 g5
  have g2 := B2.out.size
  generalize World.drewN (((w2.alloc (.cells #[Value.int .i64 0, Value.int .i64 0, Value.int .i64 0, Value.int .i64 0, Value.int .i64 0, Value.int .i64 0, Value.int .i64 0, Value.int .i64 0, Value.int .i64 0, Value.int .i64 0, Value.int .i64 0, Value.int .i64 0, Value.int .i64 0, Value.int .i64 0, Value.int .i64 0, Value.int .i64 0] 23)).setRow w2.heap.size (vals v)).setCell ⟨w2.heap.size, k, none⟩ (.int .i64 (1048576))) nq = w3 at *
  have hT6 := hT5.past (.cells (vals zeros) 23) (vals v)
  have hA6 := laidV w3 v
  have B6 : Hid _ := Below.past B5 (Nat.le_trans g2 (Nat.le_of_lt g5)) (.cells (vals zeros) 23) (vals v)
  have hTp : v.set k (1048576) = put v k (1048576) := rfl
  rw [hTp] at hT6
  have hxp := put_self v k (by omega)
  rw [Hx.out] at hxp
  have hA7 : Lies ((w3.alloc (.cells (vals zeros) 23)).setRow w3.heap.size (vals v)) w3.heap.size (put v k x) := by rw [hxp]; exact hA6
  clear hTp hT5 B5 hxp hA6
  go_wp2_with (first | refine load_vec rfl rfl rfl hV5 hv ?_ | refine store_vec rfl rfl rfl rfl (lies_new _ zeros) hv rfl ?_)
  clear hV5
  go_loopw [10] (fun i wr => ∃ y n : Int, x ≤ y ∧ 0 ≤ n ∧ y + n = 1048576 ∧ i = .int .i64 n ∧ Lies wr w2.heap.size (put v k (1048576)) ∧ Lies wr w3.heap.size (put v k y) ∧ Below w.heap.size w wr) (fun i _ => (intOf i).toNat)
  case atStart => exact ⟨x, 1048576 - x, Int.le_refl _, by omega, by omega, by first | rfl | go_num, hT6, hA7, B6.out⟩
  case round =>
    obtain ⟨y, n, y0, n0, hn, rfl, hT, hA, hB⟩ := hrel
    clear hT6 hA7 B6
    have B : Hid (Below w.heap.size w wr) := hB
    clear hB
    by_cases hp : 0 < n
    · have R := round_ok v k y n (1048576) hv hk hf (by omega) hp hn (by omega)
      have l1 := put_length v k y hv
      have l2 := put_length v k (1048576) hv
      have l3 := put_length v k (y + 1) hv
      go_wp2_with (first | refine load_vec rfl rfl rfl hA l1 ?_ | refine load_vec rfl rfl rfl hT l2 ?_)
      refine (R.lack _).mono ?_
      rintro e wa ⟨rfl, ba⟩
      have hTa := hT.below ba hT.lt
      have hAa := hA.below ba hA.lt
      have Ba : Hid (Below w.heap.size w wa) := B.out.trans (ba.mono B.out.size)
      clear hT hA ba B
      go_wp2_with (refine load_vec rfl rfl rfl hAa l1 ?_)
      refine (R.next _).mono ?_
      rintro e wb ⟨rfl, bb⟩
      have hTb := (hTa.below bb hTa.lt).past (.cells (dotc 0 0) 25) (dotc (k : Int) (y + 1))
      have hAb := (hAa.below bb hAa.lt).past (.cells (dotc 0 0) 25) (dotc (k : Int) (y + 1))
      have hDb := laidD wb (k : Int) (y + 1)
      have Bb : Hid _ := Below.past (Ba.out.trans (bb.mono Ba.out.size)) (Nat.le_trans Ba.out.size bb.size) (.cells (dotc 0 0) 25) (dotc (k : Int) (y + 1))
      clear hTa hAa bb Ba
      go_wp2_with (first | refine store_dot rfl rfl rfl rfl (liesD_new _ 0 0) ?_ | refine load_vec rfl rfl rfl hAb l1 ?_ | refine load_dot rfl rfl rfl hDb ?_)
      refine (R.more _).mono ?_
      rintro e wc ⟨rfl, bc⟩
      have hTc := (hTb.below bc hTb.lt).past (.cells (vals zeros) 23) (vals (put v k (y + 1)))
      have hAc := (hAb.below bc hAb.lt).past (.cells (vals zeros) 23) (vals (put v k (y + 1)))
      have hDc := (hDb.below bc hDb.lt).past (.cells (vals zeros) 23) (vals (put v k (y + 1)))
      have hXc := laidV wc (put v k (y + 1))
      have Bc : Hid _ := Below.past (Bb.out.trans (bc.mono Bb.out.size)) (Nat.le_trans Bb.out.size bc.size) (.cells (vals zeros) 23) (vals (put v k (y + 1)))
      clear hTb hAb hDb bc Bb
      go_wp2_with (first | refine store_vec rfl rfl rfl rfl (lies_new _ zeros) l3 rfl ?_ | refine load_vec_w rfl rfl rfl hXc l3 ?_ | refine load_dot_w rfl rfl rfl hDc ?_)
      refine (R.has _).mono ?_
      rintro e wd ⟨rfl, bd⟩
      have hTd := hTc.below bd hTc.lt
      have hAd := hAc.below bd hAc.lt
      have hDd := hDc.below bd hDc.lt
      have hXd := hXc.below bd hXc.lt
      have Bd : Hid (Below w.heap.size w wd) := Bc.out.trans (bd.mono Bc.out.size)
      clear hTc hAc hDc hXc bd Bc
      go_wp2_with (first | refine load_vec_w rfl rfl rfl hAd l1 ?_ | refine load_dot_w rfl rfl rfl hDd ?_)
      refine (R.not _).mono ?_
      rintro e we ⟨rfl, be⟩
      have hTe := hTd.below be hTd.lt
      have hAe := hAd.below be hAd.lt
      have hXe := hXd.below be hXd.lt
      have Be : Hid (Below w.heap.size w we) := Bd.out.trans (be.mono Bd.out.size)
      clear hTd hAd hDd hXd be Bd
      go_wp2_with (first | refine load_vec_w rfl rfl rfl hAe l1 ?_ | refine load_vec_w rfl rfl rfl hXe l3 ?_)
      refine (R.comp _).mono ?_
      rintro e wf ⟨rfl, bf⟩
      have hTf := hTe.below bf hTe.lt
      have hAf := hAe.below bf hAe.lt
      have hXf := hXe.below bf hXe.lt
      have Bf : Hid (Below w.heap.size w wf) := Be.out.trans (bf.mono Be.out.size)
      clear hTe hAe hXe bf Be
      go_wp2_with (first | refine load_vec rfl rfl rfl hXf l3 ?_ | refine store_vec rfl rfl rfl rfl hAf l3 l1 ?_)
      go_roundw
      case rel => exact ⟨y + 1, n - 1, by omega, by omega, by omega, by first | rfl | go_num, hTf.rowOther _ (Nat.ne_of_lt g5), hAf.row _, below_setRow Bf.out (by omega) _⟩
      case measure => simp [intOf]; omega
    · obtain rfl : n = 0 := by omega
      obtain rfl : y = 1048576 := by omega
      have l2 := put_length v k (1048576) hv
      have f2 := put_fine v k (1048576) hv hk hf (by omega) (by omega)
      have pv := plain_vec
      have q := fun W => run_equalIn_vec W 9998 (put v k (1048576)) (put v k (1048576)) l2 l2
      rw [decide_eq_true rfl] at q
      have Hl : Hid (∀ W, Calls Try.prog 24 #[.agg (vals (put v k (1048576))), .agg (vals (put v k (1048576)))] W fun e w' => e = .returned (.int .i64 0) ∧ Below W.heap.size W w') := fun W => by
        have h := lacks_any _ _ l2 l2 (small_fine _ l2 f2) (small_fine _ l2 f2) W
        rw [lacks_put v k (1048576) (1048576) hv hk (Int.le_refl _) (by omega), Int.sub_self] at h
        exact h
      go_wp2_with (first | refine load_vec_w rfl rfl rfl hA l2 ?_ | refine load_vec_w rfl rfl rfl hT l2 ?_)
      refine Calls.mono (Hl.out _) ?_
      rintro e wa ⟨rfl, ba⟩
      go_wp2
      go_ret
      exact ⟨rfl, B.out.trans (ba.mono B.out.size)⟩

set_option maxHeartbeats 1000000 in
theorem counts_small (v : List Int) (k : Nat) (m x : Int) (hv : v.length = 16) (hk : k < 16) (hm0 : 0 ≤ m) (hm1 : m ≤ 255) (hf : fine v = true) (hx : v.getD k 0 = x) (hc : x + m ≤ 1048576) (w : World) :
    Calls Try.prog 8 #[.agg (vals v), .int .i64 (k : Int), .int .u8 m] w fun e w' => e = .returned (.bool true) ∧ Below w.heap.size w w' := by
  have hV := lies_new w v
  have hb0 : Below w.heap.size w (w.alloc (.cells (vals v) 23)) := (Below.refl _ _).alloc (Nat.le_refl _) _
  obtain ⟨x0, x1⟩ := fine_get v k hv hk hf
  rw [hx] at x0 x1
  have Hx : Hid (v.getD k 0 = x) := hx
  clear hx
  have hge : ¬ (16 : Int) ≤ (k : Int) := by omega
  have hia := fun (W : World) (g : Nat) => run_indexAt_vec W g k hk
  go_enter Try.func8, Try.ntmps8
  go_wp2_with fail
  refine (awake_any _).mono ?_
  rintro e w1 ⟨rfl, hb1⟩
  have hV1 := hV.below hb1 hV.lt
  have B1 : Hid (Below w.heap.size w w1) := hb0.trans (hb1.mono hb0.size)
  clear hV hb0 hb1
  go_wp2_with (refine load_vec_w rfl rfl rfl hV1 hv ?_)
  refine (right_any v hv _).mono ?_
  rintro e w2 ⟨rfl, hb2⟩
  have hV2 := hV1.below hb2 hV1.lt
  have hT3 := laidV w2 v
  have hV3 := hV2.past (.cells (vals zeros) 23) (vals v)
  have hT4 := hT3.set (k := k) (x + m)
  have hV4 := hV3.other (ad := ⟨w2.heap.size, k, none⟩) (.int .i64 (x + m)) (Nat.ne_of_lt hV2.lt)
  have B2 : Hid (Below w.heap.size w w2) := B1.out.trans (hb2.mono B1.out.size)
  have hcx := hT3.cell (k := k) (by omega)
  rw [Hx.out] at hcx
  have hfz := hT3.frozen (k := k)
  have hcT := hT4.cell (k := k) (by rw [List.length_set]; omega)
  rw [show (v.set k (x + m)).getD k 0 = x + m from put_same v k _ (by omega)] at hcT
  have hcV := hV4.cell (k := k) (by omega)
  rw [Hx.out] at hcV
  rw [zeros_vals] at hcx hfz hcT hcV
  clear hV1 hb2 B1 hT3 hV3
  rw [hf]
  go_wp2_with (first | refine load_vec rfl rfl rfl hV2 hv ?_ | refine store_vec rfl rfl rfl rfl (lies_new _ zeros) hv rfl ?_)
  clear hcx hfz hV2
  go_quiet (fail)
  clear hcT hcV
  have hT5 := hT4.drewN nq
  have hV5 := hV4.drewN nq
  have B5 : Below w.heap.size w _ := Below.drewN ((Below.past B2.out B2.out.size (.cells (vals zeros) 23) (vals v)).setCell (p := ⟨w2.heap.size, k, none⟩) B2.out.size (.int .i64 (x + m))) nq
  have g5 : w2.heap.size < (World.drewN (((w2.alloc (.cells (vals zeros) 23)).setRow w2.heap.size (vals v)).setCell ⟨w2.heap.size, k, none⟩ (.int .i64 (x + m))) nq).heap.size := hT5.lt
  clear hT4 hV4
  rw [zeros_vals] at hT5 hV5 B5 g5
  have g2 := B2.out.size
  generalize World.drewN (((w2.alloc (.cells #[Value.int .i64 0, Value.int .i64 0, Value.int .i64 0, Value.int .i64 0, Value.int .i64 0, Value.int .i64 0, Value.int .i64 0, Value.int .i64 0, Value.int .i64 0, Value.int .i64 0, Value.int .i64 0, Value.int .i64 0, Value.int .i64 0, Value.int .i64 0, Value.int .i64 0, Value.int .i64 0] 23)).setRow w2.heap.size (vals v)).setCell ⟨w2.heap.size, k, none⟩ (.int .i64 (x + m))) nq = w3 at *
  have hT6 := hT5.past (.cells (vals zeros) 23) (vals v)
  have hA6 := laidV w3 v
  have B6 : Hid _ := Below.past B5 (Nat.le_trans g2 (Nat.le_of_lt g5)) (.cells (vals zeros) 23) (vals v)
  have hTp : v.set k (x + m) = put v k (x + m) := rfl
  rw [hTp] at hT6
  have hxp := put_self v k (by omega)
  rw [Hx.out] at hxp
  have hA7 : Lies ((w3.alloc (.cells (vals zeros) 23)).setRow w3.heap.size (vals v)) w3.heap.size (put v k x) := by rw [hxp]; exact hA6
  clear hTp hT5 B5 hxp hA6
  go_wp2_with (first | refine load_vec rfl rfl rfl hV5 hv ?_ | refine store_vec rfl rfl rfl rfl (lies_new _ zeros) hv rfl ?_)
  clear hV5
  go_loopw [10] (fun i wr => ∃ y n : Int, x ≤ y ∧ 0 ≤ n ∧ y + n = x + m ∧ i = .int .i64 n ∧ Lies wr w2.heap.size (put v k (x + m)) ∧ Lies wr w3.heap.size (put v k y) ∧ Below w.heap.size w wr) (fun i _ => (intOf i).toNat)
  case atStart => exact ⟨x, x + m - x, Int.le_refl _, by omega, by omega, by first | rfl | go_num, hT6, hA7, B6.out⟩
  case round =>
    obtain ⟨y, n, y0, n0, hn, rfl, hT, hA, hB⟩ := hrel
    clear hT6 hA7 B6
    have B : Hid (Below w.heap.size w wr) := hB
    clear hB
    by_cases hp : 0 < n
    · have R := round_ok v k y n (x + m) hv hk hf (by omega) hp hn (by omega)
      have l1 := put_length v k y hv
      have l2 := put_length v k (x + m) hv
      have l3 := put_length v k (y + 1) hv
      go_wp2_with (first | refine load_vec rfl rfl rfl hA l1 ?_ | refine load_vec rfl rfl rfl hT l2 ?_)
      refine (R.lack _).mono ?_
      rintro e wa ⟨rfl, ba⟩
      have hTa := hT.below ba hT.lt
      have hAa := hA.below ba hA.lt
      have Ba : Hid (Below w.heap.size w wa) := B.out.trans (ba.mono B.out.size)
      clear hT hA ba B
      go_wp2_with (refine load_vec rfl rfl rfl hAa l1 ?_)
      refine (R.next _).mono ?_
      rintro e wb ⟨rfl, bb⟩
      have hTb := (hTa.below bb hTa.lt).past (.cells (dotc 0 0) 25) (dotc (k : Int) (y + 1))
      have hAb := (hAa.below bb hAa.lt).past (.cells (dotc 0 0) 25) (dotc (k : Int) (y + 1))
      have hDb := laidD wb (k : Int) (y + 1)
      have Bb : Hid _ := Below.past (Ba.out.trans (bb.mono Ba.out.size)) (Nat.le_trans Ba.out.size bb.size) (.cells (dotc 0 0) 25) (dotc (k : Int) (y + 1))
      clear hTa hAa bb Ba
      go_wp2_with (first | refine store_dot rfl rfl rfl rfl (liesD_new _ 0 0) ?_ | refine load_vec rfl rfl rfl hAb l1 ?_ | refine load_dot rfl rfl rfl hDb ?_)
      refine (R.more _).mono ?_
      rintro e wc ⟨rfl, bc⟩
      have hTc := (hTb.below bc hTb.lt).past (.cells (vals zeros) 23) (vals (put v k (y + 1)))
      have hAc := (hAb.below bc hAb.lt).past (.cells (vals zeros) 23) (vals (put v k (y + 1)))
      have hDc := (hDb.below bc hDb.lt).past (.cells (vals zeros) 23) (vals (put v k (y + 1)))
      have hXc := laidV wc (put v k (y + 1))
      have Bc : Hid _ := Below.past (Bb.out.trans (bc.mono Bb.out.size)) (Nat.le_trans Bb.out.size bc.size) (.cells (vals zeros) 23) (vals (put v k (y + 1)))
      clear hTb hAb hDb bc Bb
      go_wp2_with (first | refine store_vec rfl rfl rfl rfl (lies_new _ zeros) l3 rfl ?_ | refine load_vec_w rfl rfl rfl hXc l3 ?_ | refine load_dot_w rfl rfl rfl hDc ?_)
      refine (R.has _).mono ?_
      rintro e wd ⟨rfl, bd⟩
      have hTd := hTc.below bd hTc.lt
      have hAd := hAc.below bd hAc.lt
      have hDd := hDc.below bd hDc.lt
      have hXd := hXc.below bd hXc.lt
      have Bd : Hid (Below w.heap.size w wd) := Bc.out.trans (bd.mono Bc.out.size)
      clear hTc hAc hDc hXc bd Bc
      go_wp2_with (first | refine load_vec_w rfl rfl rfl hAd l1 ?_ | refine load_dot_w rfl rfl rfl hDd ?_)
      refine (R.not _).mono ?_
      rintro e we ⟨rfl, be⟩
      have hTe := hTd.below be hTd.lt
      have hAe := hAd.below be hAd.lt
      have hXe := hXd.below be hXd.lt
      have Be : Hid (Below w.heap.size w we) := Bd.out.trans (be.mono Bd.out.size)
      clear hTd hAd hDd hXd be Bd
      go_wp2_with (first | refine load_vec_w rfl rfl rfl hAe l1 ?_ | refine load_vec_w rfl rfl rfl hXe l3 ?_)
      refine (R.comp _).mono ?_
      rintro e wf ⟨rfl, bf⟩
      have hTf := hTe.below bf hTe.lt
      have hAf := hAe.below bf hAe.lt
      have hXf := hXe.below bf hXe.lt
      have Bf : Hid (Below w.heap.size w wf) := Be.out.trans (bf.mono Be.out.size)
      clear hTe hAe hXe bf Be
      go_wp2_with (first | refine load_vec rfl rfl rfl hXf l3 ?_ | refine store_vec rfl rfl rfl rfl hAf l3 l1 ?_)
      go_roundw
      case rel => exact ⟨y + 1, n - 1, by omega, by omega, by omega, by first | rfl | go_num, hTf.rowOther _ (Nat.ne_of_lt g5), hAf.row _, below_setRow Bf.out (by omega) _⟩
      case measure => simp [intOf]; omega
    · obtain rfl : n = 0 := by omega
      obtain rfl : y = x + m := by omega
      have l2 := put_length v k (x + m) hv
      have f2 := put_fine v k (x + m) hv hk hf (by omega) (by omega)
      have pv := plain_vec
      have q := fun W => run_equalIn_vec W 9998 (put v k (x + m)) (put v k (x + m)) l2 l2
      rw [decide_eq_true rfl] at q
      have Hl : Hid (∀ W, Calls Try.prog 24 #[.agg (vals (put v k (x + m))), .agg (vals (put v k (x + m)))] W fun e w' => e = .returned (.int .i64 0) ∧ Below W.heap.size W w') := fun W => by
        have h := lacks_any _ _ l2 l2 (small_fine _ l2 f2) (small_fine _ l2 f2) W
        rw [lacks_put v k (x + m) (x + m) hv hk (Int.le_refl _) (by omega), Int.sub_self] at h
        exact h
      go_wp2_with (first | refine load_vec_w rfl rfl rfl hA l2 ?_ | refine load_vec_w rfl rfl rfl hT l2 ?_)
      refine Calls.mono (Hl.out _) ?_
      rintro e wa ⟨rfl, ba⟩
      go_wp2
      go_ret
      exact ⟨rfl, B.out.trans (ba.mono B.out.size)⟩

theorem counts_walk (v : List Int) (r m : Int) (hv : v.length = 16) (hm0 : 0 ≤ m) (hm1 : m ≤ 255) (w : World) :
    Calls Try.prog 8 #[.agg (vals v), .int .i64 r, .int .u8 m] w fun e w' => e = .returned (.bool true) ∧ Below w.heap.size w w' := by
  by_cases h : fine v = true ∧ 0 ≤ r ∧ r < 16
  · obtain ⟨hf, h0, h1⟩ := h
    obtain ⟨k, rfl⟩ : ∃ k : Nat, r = (k : Int) := ⟨r.toNat, by omega⟩
    by_cases hb : 1048576 < v.getD k 0 + m
    · exact counts_big v k m _ hv (by omega) hm0 hm1 hf rfl hb w
    · exact counts_small v k m _ hv (by omega) hm0 hm1 hf rfl (by omega) w
  · exact counts_not v r m hv h w
end Go.Proofs.Ytdphhkchodaeiaa
