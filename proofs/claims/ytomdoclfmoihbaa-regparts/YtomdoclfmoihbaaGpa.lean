/-
  RegParts: the walk.
-/
import Derived.Test.YtomdoclfmoihbaaGte
namespace Go.Proofs.Ytomdoclfmoihbaa
set_option maxRecDepth 100000
open Go.RowKit

theorem wide_one {x : Ev} (hx : Wide x) : ∀ e ∈ [x], Wide e := fun e he => by rw [List.mem_singleton.1 he]; exact hx
theorem wide_two {x y : Ev} (hx : Wide x) (hy : Wide y) : ∀ e ∈ [x, y], Wide e := fun e he => by
  rcases List.mem_cons.1 he with rfl | he
  · exact hx
  · exact wide_one hy e he
theorem run_build0 (w : World) : (Instr.buildSlice 22 0 #[]).run Try.prog w = .ok (.slice (some ⟨w.heap.size, 0, none⟩) 0 0) (w.alloc (.cells #[] 31)) := by
  obtain ⟨i0, hi, hz0, hz1, hz2⟩ := info_parts infoE
  have ht : Try.prog.underlying 22 = some (.slice 31) := Try.underlying22
  simp [Instr.buildSlice, run_underlying ht, sizeOf, typeInfo, hi, Instr.fill, newRow]
  have h0 : Array.range 0 = #[] := by apply Array.eq_empty_of_size_eq_zero; simp
  rw [h0, Array.map_empty]
theorem build_ev0 {ops : Array Oper} {rest : List Oper} {o : Oper} {a : Act} {w : World} {Q : Exit → Act → World → Prop} (hw : Region.wanted o (yielded ops a.tmps) = true) (ho : o.op = .buildSlice 22 0 #[])
    (h : wpList Try.prog ops Q rest (a.put o.dst (.slice (some ⟨w.heap.size, 0, none⟩) 0 0)) (w.alloc (.cells #[] 31))) : wpList Try.prog ops Q (o :: rest) a w :=
  wpList_step fun K hK => by
    rw [if_pos hw]
    unfold Oper.wp execOp
    simp only [ho, List.map_toArray, List.map_nil, Sem.run_bind, Sem.run_pure, Result.andThen_ok, run_build0 w]
    exact hK _ _ h
set_option maxHeartbeats 4000000 in
theorem gparts_walk (ao : Option Addr) (m c : Nat) (A : List Ev) (bo : Option Addr) (n d : Nat) (B : List Ev) (w : World) (hA : Evs w ao m c A) (hB : Evs w bo n d B) :
    Calls Try.prog 5 #[.slice ao m c, .slice bo n d] w fun e w' => e = .returned (.bool true) ∧ Below w.heap.size w w' := by
  go_enter Try.func5, Try.ntmps5
  go_wp2_with fail
  refine (awake_any w).mono ?_
  rintro e w1 ⟨rfl, hb1⟩
  have HS1 : Aside (Evs w1 ao m c A ∧ Evs w1 bo n d B ∧ Below w.heap.size w w1) := ⟨hA.below hb1 (Nat.le_refl _), hB.below hb1 (Nat.le_refl _), hb1⟩
  clear hb1 hA hB
  by_cases hbig : 300 < m ∨ 300 < n
  · have HB1 : Hid (Below w.heap.size w w1) := HS1.out.2.2
    have key : Calls Try.prog 7 #[] w1 fun e w' => e = .returned (.bool true) ∧ Below w.heap.size w w' := (awake_any w1).mono fun e w' ⟨h1, h2⟩ => ⟨h1, HB1.out.trans (h2.mono HB1.out.size)⟩
    have HK : Hid (Calls Try.prog 7 #[] w1 fun e w' => e = .returned (.bool true) ∧ Below w.heap.size w w') := key
    clear key HS1 HB1
    by_cases h1 : 300 < m
    · have hz : (300 : Int) < (m : Int) := by omega
      go_wp2_with fail
      refine Calls.mono HK.out ?_
      rintro e w2 ⟨rfl, hb2⟩
      have HB2 : Hid (Below w.heap.size w w2) := hb2
      clear hb2
      go_wp2
      go_ret
      exact ⟨rfl, HB2.out⟩
    · have hz : ¬ (300 : Int) < (m : Int) := by omega
      have hz2 : (300 : Int) < (n : Int) := by omega
      go_wp2_with fail
      refine Calls.mono HK.out ?_
      rintro e w2 ⟨rfl, hb2⟩
      have HB2 : Hid (Below w.heap.size w w2) := hb2
      clear hb2
      go_wp2
      go_ret
      exact ⟨rfl, HB2.out⟩
  · have hm : m ≤ 300 := by omega
    have hn : n ≤ 300 := by omega
    have hz : ¬ (300 : Int) < (m : Int) := by omega
    have hz2 : ¬ (300 : Int) < (n : Int) := by omega
    clear hbig
    have hlA := HS1.out.1.len
    have hlB := HS1.out.2.1.len
    have hwA : Hid (∀ e ∈ A, Wide e) := HS1.out.1.wide
    have hwB : Hid (∀ e ∈ B, Wide e) := HS1.out.2.1.wide
    have hwx : Wide (orz (latL anyE A)) := orz_wide hwA.out
    have hwy : Wide (orz (latL anyE B)) := orz_wide hwB.out
    have hwAB : Hid (∀ e ∈ A ++ B, Wide e) := show ∀ e ∈ A ++ B, Wide e from fun e he => (List.mem_append.1 he).elim (hwA.out e) (hwB.out e)
    have hwz : Wide (orz (latL anyE (A ++ B))) := orz_wide hwAB.out
    obtain ⟨x, HX⟩ : ∃ x, Hid (orz (latL anyE A) = x) := ⟨_, show _ = _ from rfl⟩
    obtain ⟨y, HY⟩ : ∃ y, Hid (orz (latL anyE B) = y) := ⟨_, show _ = _ from rfl⟩
    obtain ⟨z, HZ⟩ : ∃ z, Hid (orz (latL anyE (A ++ B)) = z) := ⟨_, show _ = _ from rfl⟩
    obtain ⟨p, HPx⟩ : ∃ p, Hid ((latL anyE A).isSome = p) := ⟨_, show _ = _ from rfl⟩
    obtain ⟨q, HQy⟩ : ∃ q, Hid ((latL anyE B).isSome = q) := ⟨_, show _ = _ from rfl⟩
    obtain ⟨r, HR⟩ : ∃ r, Hid ((latL anyE (A ++ B)).isSome = r) := ⟨_, show _ = _ from rfl⟩
    rw [HX.out] at hwx
    rw [HY.out] at hwy
    rw [HZ.out] at hwz
    have hx16 := hwx.1
    have hy16 := hwy.1
    have hz16 := hwz.1
    have HJ0 : Hid (latL anyE (A ++ B) = latL anyE ((latL anyE A).toList ++ (latL anyE B).toList)) := lat_append A B
    have HP0 : Hid (r = (p || q)) := by show _ = _; rw [← HR.out, ← HPx.out, ← HQy.out]; exact lat_some_iff A B
    have HA1 : Hid (latL anyE A = if p then some x else none) := by
      show _ = _
      rw [← HX.out, ← HPx.out]
      cases latL anyE A <;> rfl
    have HB1 : Hid (latL anyE B = if q then some y else none) := by
      show _ = _
      rw [← HY.out, ← HQy.out]
      cases latL anyE B <;> rfl
    go_wp2_with fail
    refine (glatest_any ao m c A w1 HS1.out.1 (by omega)).mono ?_
    rintro e w2 ⟨rfl, hb2⟩
    have HS2 : Aside (Evs w2 ao m c A ∧ Evs w2 bo n d B ∧ Below w.heap.size w w2) := ⟨HS1.out.1.below hb2 (Nat.le_refl _), HS1.out.2.1.below hb2 (Nat.le_refl _), HS1.out.2.2.trans (hb2.mono HS1.out.2.2.size)⟩
    clear hb2 HS1
    rw [HX.out, HPx.out]
    have hzc := liesE_new w2 zv
    have hBc : Below w2.heap.size w2 ((w2.alloc (.cells (evc zv) 31)).setRow w2.heap.size (evc x)) := below_setRow ((Below.refl _ _).alloc (Nat.le_refl _) _) (Nat.le_refl _) _
    have HSc : Aside (LiesE ((w2.alloc (.cells (evc zv) 31)).setRow w2.heap.size (evc x)) w2.heap.size x ∧ Evs ((w2.alloc (.cells (evc zv) 31)).setRow w2.heap.size (evc x)) ao m c A ∧ Evs ((w2.alloc (.cells (evc zv) 31)).setRow w2.heap.size (evc x)) bo n d B ∧ Below w.heap.size w ((w2.alloc (.cells (evc zv) 31)).setRow w2.heap.size (evc x))) := ⟨hzc.row x, HS2.out.1.below hBc (Nat.le_refl _), HS2.out.2.1.below hBc (Nat.le_refl _), HS2.out.2.2.trans (hBc.mono HS2.out.2.2.size)⟩
    clear hBc
    go_upto_region 4 with (refine store_ev rfl rfl rfl rfl hzc hx16 rfl ?_)
    change Code.wp _ _ _ _ ((w2.alloc (.cells (evc zv) 31)).setRow w2.heap.size (evc x))
    clear hzc
    generalize ((w2.alloc (.cells (evc zv) 31)).setRow w2.heap.size (evc x)) = Wx at *
    generalize w2.heap.size = D at *
    have hbA := HSc.out.2.2.1
    go_wp2_with fail
    refine (glatest_any bo n d B Wx hbA (by omega)).mono ?_
    rintro e w3 ⟨rfl, hb3⟩
    have HS3 : Aside (LiesE w3 D x ∧ Evs w3 ao m c A ∧ Evs w3 bo n d B ∧ Below w.heap.size w w3) := ⟨HSc.out.1.below hb3 HSc.out.1.lt, HSc.out.2.1.below hb3 (Nat.le_refl _), HSc.out.2.2.1.below hb3 (Nat.le_refl _), HSc.out.2.2.2.trans (hb3.mono HSc.out.2.2.2.size)⟩
    clear hb3 HSc hbA
    rw [HY.out, HQy.out]
    have hzc := liesE_new w3 zv
    have hBc : Below w3.heap.size w3 ((w3.alloc (.cells (evc zv) 31)).setRow w3.heap.size (evc y)) := below_setRow ((Below.refl _ _).alloc (Nat.le_refl _) _) (Nat.le_refl _) _
    have HSc : Aside (LiesE ((w3.alloc (.cells (evc zv) 31)).setRow w3.heap.size (evc y)) w3.heap.size y ∧ LiesE ((w3.alloc (.cells (evc zv) 31)).setRow w3.heap.size (evc y)) D x ∧ Evs ((w3.alloc (.cells (evc zv) 31)).setRow w3.heap.size (evc y)) ao m c A ∧ Evs ((w3.alloc (.cells (evc zv) 31)).setRow w3.heap.size (evc y)) bo n d B ∧ Below w.heap.size w ((w3.alloc (.cells (evc zv) 31)).setRow w3.heap.size (evc y))) := ⟨hzc.row y, HS3.out.1.below hBc HS3.out.1.lt, HS3.out.2.1.below hBc (Nat.le_refl _), HS3.out.2.2.1.below hBc (Nat.le_refl _), HS3.out.2.2.2.trans (hBc.mono HS3.out.2.2.2.size)⟩
    clear hBc
    go_upto_region 5 with (refine store_ev rfl rfl rfl rfl hzc hy16 rfl ?_)
    change Code.wp _ _ _ _ ((w3.alloc (.cells (evc zv) 31)).setRow w3.heap.size (evc y))
    clear hzc
    generalize ((w3.alloc (.cells (evc zv) 31)).setRow w3.heap.size (evc y)) = Wy at *
    generalize w3.heap.size = G at *
    have HS5 := HSc
    clear HSc
    have hN := row_empty Wy Wy.heap.size (Nat.le_refl _)
    have hBe : Below Wy.heap.size Wy (Wy.alloc (.cells #[] 31)) := (Below.refl _ _).alloc (Nat.le_refl _) _
    have hA5 := HS5.out.2.2.1.below hBe (Nat.le_refl _)
    have HBe : Hid (Below Wy.heap.size Wy (Wy.alloc (.cells #[] 31))) := hBe
    have hle5 : Wy.heap.size ≤ (Wy.alloc (.cells #[] 31)).heap.size := by simp
    clear hBe
    go_wp2_with (first | refine build_ev0 rfl rfl ?_ | refine wpList_appE rfl _ _ rfl Wy.heap.size _ [] rfl hN _ m c A rfl hA5 (by simp only [List.length_nil]; omega) hle5 ?_)
    intro v4 w4 hR4 hg4 ho4
    have hR4a : Row w4 Wy.heap.size v4 A := hR4
    have hB4 : Below Wy.heap.size Wy w4 := HBe.out.grown hg4 hle5 hN.own
    have hB4a := HS5.out.2.2.2.1.below hB4 (Nat.le_refl _)
    have hle4 : Wy.heap.size ≤ w4.heap.size := hB4.size
    have HB4 : Hid (Below Wy.heap.size Wy w4) := hB4
    clear hR4 hg4 ho4 hN hA5 HBe hle5 hB4
    go_wp2_with (refine wpList_appE rfl _ _ rfl Wy.heap.size _ A rfl hR4a _ n d B rfl hB4a (by omega) hle4 ?_)
    intro v5 w5 hR5 hg5 ho5
    have hB5 : Below Wy.heap.size Wy w5 := HB4.out.grown hg5 hle4 hR4a.own
    have HL : Aside (LiesE w5 D x ∧ LiesE w5 G y ∧ Below w.heap.size w w5) := ⟨HS5.out.2.1.below hB5 HS5.out.2.1.lt, HS5.out.1.below hB5 HS5.out.1.lt, HS5.out.2.2.2.2.trans (hB5.mono HS5.out.2.2.2.2.size)⟩
    obtain ⟨va, vc, hv5, hE5⟩ := hR5.evs hwAB.out
    have hlAB : (A ++ B).length ≤ 1000 := by rw [List.length_append]; omega
    subst hv5
    clear hR5 hg5 ho5 hB5 HS5 HB4 hR4a hB4a hle4
    generalize A ++ B = AB at *
    go_wp2_with fail
    refine (glatest_any va AB.length vc AB w5 hE5 hlAB).mono ?_
    rintro e w6 ⟨rfl, hb6⟩
    have HS6 : Aside (LiesE w6 D x ∧ LiesE w6 G y ∧ Below w.heap.size w w6) := ⟨HL.out.1.below hb6 HL.out.1.lt, HL.out.2.1.below hb6 HL.out.2.1.lt, HL.out.2.2.trans (hb6.mono HL.out.2.2.size)⟩
    clear hb6 HL hE5
    rw [HZ.out, HR.out]
    have hzc := liesE_new w6 zv
    have hBc : Below w6.heap.size w6 ((w6.alloc (.cells (evc zv) 31)).setRow w6.heap.size (evc z)) := below_setRow ((Below.refl _ _).alloc (Nat.le_refl _) _) (Nat.le_refl _) _
    have HSc : Aside (LiesE ((w6.alloc (.cells (evc zv) 31)).setRow w6.heap.size (evc z)) w6.heap.size z ∧ LiesE ((w6.alloc (.cells (evc zv) 31)).setRow w6.heap.size (evc z)) D x ∧ LiesE ((w6.alloc (.cells (evc zv) 31)).setRow w6.heap.size (evc z)) G y ∧ Below w.heap.size w ((w6.alloc (.cells (evc zv) 31)).setRow w6.heap.size (evc z))) := ⟨hzc.row z, HS6.out.1.below hBc HS6.out.1.lt, HS6.out.2.1.below hBc HS6.out.2.1.lt, HS6.out.2.2.trans (hBc.mono HS6.out.2.2.size)⟩
    clear hBc
    go_upto_region 6 with (refine store_ev rfl rfl rfl rfl hzc hz16 rfl ?_)
    change Code.wp _ _ _ _ ((w6.alloc (.cells (evc zv) 31)).setRow w6.heap.size (evc z))
    clear hzc
    generalize ((w6.alloc (.cells (evc zv) 31)).setRow w6.heap.size (evc z)) = Wz at *
    generalize w6.heap.size = J at *
    have HS7 := HSc
    clear HSc
    rcases Bool.eq_false_or_eq_true p with hp | hp <;> rcases Bool.eq_false_or_eq_true q with hq0 | hq0
    all_goals
      subst hp
      subst hq0
    · have HJ : Hid (latL anyE AB = latL anyE [x, y]) := by show _ = _; rw [HJ0.out, HA1.out, HB1.out]; rfl
      have HP : Hid (r = true) := HP0.out
      have hLx0 : Hid (LiesE Wz D x) := HS7.out.2.1
      have hLy0 : Hid (LiesE Wz G y) := HS7.out.2.2.1
      have hLx : LiesE Wz D x := HS7.out.2.1
      have hLy : LiesE Wz G y := HS7.out.2.2.1
      have hLz : LiesE Wz J z := HS7.out.1
      have HB7 : Hid (Below w.heap.size w Wz) := HS7.out.2.2.2
      clear HS7
      have HR0 : Aside (Row Wz Wz.heap.size (.slice none 0 0) []) := row_nil _ _
      have HBB : Hid (Below Wz.heap.size Wz Wz) := Below.refl _ _
      have hRow : Row (Wz.alloc (.cells (evc x) 31)) Wz.heap.size (.slice none 0 0) [] := (HR0.out).below ((Below.refl _ _).alloc (Nat.le_refl _) _) (Nat.le_refl _)
      have hF : Evs (Wz.alloc (.cells (evc x) 31)) (some ⟨Wz.heap.size, 0, none⟩) 1 1 [x] := evs_single _ _ x hwx (liesE_new Wz x)
      have hle : Wz.heap.size ≤ (Wz.alloc (.cells (evc x) 31)).heap.size := Nat.le_trans HBB.out.size (by simp)
      have HB8 : Hid (Below Wz.heap.size Wz (Wz.alloc (.cells (evc x) 31))) := HBB.out.alloc HBB.out.size _
      have hLc := hLx
      go_wp2_with (first | refine load_ev rfl rfl rfl hLc hwx.1 ?_ | refine build_ev1 rfl rfl rfl hwx.1 ?_ | refine wpList_appE rfl _ _ rfl Wz.heap.size _ [] rfl hRow _ 1 1 [x] rfl hF (by simp) hle ?_)
      intro v1 wt1 hR hg ho
      have hBt : Below Wz.heap.size Wz wt1 := HB8.out.grown hg hle hRow.own
      have HR1 : Aside (Row wt1 Wz.heap.size v1 ([] ++ [x])) := hR
      have hLx2 : LiesE wt1 D x := hLx0.out.below hBt hLx0.out.lt
      have hLy2 : LiesE wt1 G y := hLy0.out.below hBt hLy0.out.lt
      replace HBB : Hid (Below Wz.heap.size Wz wt1) := hBt
      clear hRow hF hle HB8 hLc hR hg ho hBt hLx hLy HR0
      have hLx := hLx2
      have hLy := hLy2
      clear hLx2 hLy2
      have hRow : Row (wt1.alloc (.cells (evc y) 31)) Wz.heap.size (v1) ([] ++ [x]) := (HR1.out).below ((Below.refl _ _).alloc (Nat.le_refl _) _) (Nat.le_refl _)
      have hF : Evs (wt1.alloc (.cells (evc y) 31)) (some ⟨wt1.heap.size, 0, none⟩) 1 1 [y] := evs_single _ _ y hwy (liesE_new wt1 y)
      have hle : Wz.heap.size ≤ (wt1.alloc (.cells (evc y) 31)).heap.size := Nat.le_trans HBB.out.size (by simp)
      have HB8 : Hid (Below Wz.heap.size Wz (wt1.alloc (.cells (evc y) 31))) := HBB.out.alloc HBB.out.size _
      have hLc := hLy
      go_wp2_with (first | refine load_ev rfl rfl rfl hLc hwy.1 ?_ | refine build_ev1 rfl rfl rfl hwy.1 ?_ | refine wpList_appE rfl _ _ rfl Wz.heap.size _ ([] ++ [x]) rfl hRow _ 1 1 [y] rfl hF (by simp) hle ?_)
      intro v2 wt2 hR hg ho
      have hBt : Below Wz.heap.size Wz wt2 := HB8.out.grown hg hle hRow.own
      have HR2 : Aside (Row wt2 Wz.heap.size v2 (([] ++ [x]) ++ [y])) := hR
      have hLx2 : LiesE wt2 D x := hLx0.out.below hBt hLx0.out.lt
      have hLy2 : LiesE wt2 G y := hLy0.out.below hBt hLy0.out.lt
      replace HBB : Hid (Below Wz.heap.size Wz wt2) := hBt
      clear hRow hF hle HB8 hLc hR hg ho hBt hLx hLy HR1
      have hLx := hLx2
      have hLy := hLy2
      clear hLx2 hLy2
      obtain ⟨ta, tc, htv, hEt⟩ := HR2.out.evs (wide_two hwx hwy)
      subst htv
      have hEt2 : Evs wt2 ta 2 tc [x, y] := hEt
      clear hEt
      simp only [List.nil_append, List.singleton_append, List.length_cons, List.length_nil, Nat.zero_add]
      clear HR2 hLx hLy hLx0 hLy0
      go_wp2_with fail
      refine (glatest_any ta 2 tc [x, y] wt2 hEt2 (by omega)).mono ?_
      rintro e w9 ⟨rfl, hb9⟩
      have hLz9 : LiesE w9 J z := (hLz.below HBB.out hLz.lt).below hb9 (Nat.lt_of_lt_of_le hLz.lt HBB.out.size)
      have HB9 : Hid (Below w.heap.size w w9) := (HB7.out.trans (HBB.out.mono HB7.out.size)).trans (hb9.mono (Nat.le_trans HB7.out.size HBB.out.size))
      rw [show latL anyE [x, y] = latL anyE AB from HJ.out.symm, HZ.out, HR.out]
      clear hb9 hEt2 HBB HB7 hLz
      have hzq := liesE_new w9 zv
      have hL9 := hLz9.alloc (.cells (evc zv) 31)
      have hLz10 := hL9.rowOther (evc z) (g := w9.heap.size) (Nat.ne_of_lt hLz9.lt)
      have hLq := hzq.row z
      have HBq : Hid (Below w.heap.size w ((w9.alloc (.cells (evc zv) 31)).setRow w9.heap.size (evc z))) := below_setRow (HB9.out.alloc HB9.out.size _) HB9.out.size _
      clear hL9 hLz9 HB9
      go_upto_region 12 with (refine store_ev rfl rfl rfl rfl hzq hz16 rfl ?_)
      change Code.wp _ _ _ _ ((w9.alloc (.cells (evc zv) 31)).setRow w9.heap.size (evc z))
      clear hzq
      generalize (w9.alloc (.cells (evc zv) 31)).setRow w9.heap.size (evc z) = Wq at *
      generalize w9.heap.size = Q at *
      have hq := eql_same z hz16
      have hpl := plain_ev
      have hrb : r = true := HP.out
      subst hrb
      go_wp2_with (first | refine load_ev rfl rfl rfl hLz10 hz16 ?_ | refine load_ev rfl rfl rfl hLq hz16 ?_)
      go_ret
      exact ⟨rfl, HBq.out⟩
    · have HJ : Hid (latL anyE AB = latL anyE [x]) := by show _ = _; rw [HJ0.out, HA1.out, HB1.out]; rfl
      have HP : Hid (r = true) := HP0.out
      have hLx0 : Hid (LiesE Wz D x) := HS7.out.2.1
      have hLy0 : Hid (LiesE Wz G y) := HS7.out.2.2.1
      have hLx : LiesE Wz D x := HS7.out.2.1
      have hLy : LiesE Wz G y := HS7.out.2.2.1
      have hLz : LiesE Wz J z := HS7.out.1
      have HB7 : Hid (Below w.heap.size w Wz) := HS7.out.2.2.2
      clear HS7
      have HR0 : Aside (Row Wz Wz.heap.size (.slice none 0 0) []) := row_nil _ _
      have HBB : Hid (Below Wz.heap.size Wz Wz) := Below.refl _ _
      have hRow : Row (Wz.alloc (.cells (evc x) 31)) Wz.heap.size (.slice none 0 0) [] := (HR0.out).below ((Below.refl _ _).alloc (Nat.le_refl _) _) (Nat.le_refl _)
      have hF : Evs (Wz.alloc (.cells (evc x) 31)) (some ⟨Wz.heap.size, 0, none⟩) 1 1 [x] := evs_single _ _ x hwx (liesE_new Wz x)
      have hle : Wz.heap.size ≤ (Wz.alloc (.cells (evc x) 31)).heap.size := Nat.le_trans HBB.out.size (by simp)
      have HB8 : Hid (Below Wz.heap.size Wz (Wz.alloc (.cells (evc x) 31))) := HBB.out.alloc HBB.out.size _
      have hLc := hLx
      go_wp2_with (first | refine load_ev rfl rfl rfl hLc hwx.1 ?_ | refine build_ev1 rfl rfl rfl hwx.1 ?_ | refine wpList_appE rfl _ _ rfl Wz.heap.size _ [] rfl hRow _ 1 1 [x] rfl hF (by simp) hle ?_)
      intro v1 wt1 hR hg ho
      have hBt : Below Wz.heap.size Wz wt1 := HB8.out.grown hg hle hRow.own
      have HR1 : Aside (Row wt1 Wz.heap.size v1 ([] ++ [x])) := hR
      have hLx2 : LiesE wt1 D x := hLx0.out.below hBt hLx0.out.lt
      have hLy2 : LiesE wt1 G y := hLy0.out.below hBt hLy0.out.lt
      replace HBB : Hid (Below Wz.heap.size Wz wt1) := hBt
      clear hRow hF hle HB8 hLc hR hg ho hBt hLx hLy HR0
      have hLx := hLx2
      have hLy := hLy2
      clear hLx2 hLy2
      obtain ⟨ta, tc, htv, hEt⟩ := HR1.out.evs (wide_one hwx)
      subst htv
      have hEt2 : Evs wt1 ta 1 tc [x] := hEt
      clear hEt
      simp only [List.nil_append, List.length_cons, List.length_nil, Nat.zero_add]
      clear HR1 hLx hLy hLx0 hLy0
      go_wp2_with fail
      refine (glatest_any ta 1 tc [x] wt1 hEt2 (by omega)).mono ?_
      rintro e w9 ⟨rfl, hb9⟩
      have hLz9 : LiesE w9 J z := (hLz.below HBB.out hLz.lt).below hb9 (Nat.lt_of_lt_of_le hLz.lt HBB.out.size)
      have HB9 : Hid (Below w.heap.size w w9) := (HB7.out.trans (HBB.out.mono HB7.out.size)).trans (hb9.mono (Nat.le_trans HB7.out.size HBB.out.size))
      rw [show latL anyE [x] = latL anyE AB from HJ.out.symm, HZ.out, HR.out]
      clear hb9 hEt2 HBB HB7 hLz
      have hzq := liesE_new w9 zv
      have hL9 := hLz9.alloc (.cells (evc zv) 31)
      have hLz10 := hL9.rowOther (evc z) (g := w9.heap.size) (Nat.ne_of_lt hLz9.lt)
      have hLq := hzq.row z
      have HBq : Hid (Below w.heap.size w ((w9.alloc (.cells (evc zv) 31)).setRow w9.heap.size (evc z))) := below_setRow (HB9.out.alloc HB9.out.size _) HB9.out.size _
      clear hL9 hLz9 HB9
      go_upto_region 12 with (refine store_ev rfl rfl rfl rfl hzq hz16 rfl ?_)
      change Code.wp _ _ _ _ ((w9.alloc (.cells (evc zv) 31)).setRow w9.heap.size (evc z))
      clear hzq
      generalize (w9.alloc (.cells (evc zv) 31)).setRow w9.heap.size (evc z) = Wq at *
      generalize w9.heap.size = Q at *
      have hq := eql_same z hz16
      have hpl := plain_ev
      have hrb : r = true := HP.out
      subst hrb
      go_wp2_with (first | refine load_ev rfl rfl rfl hLz10 hz16 ?_ | refine load_ev rfl rfl rfl hLq hz16 ?_)
      go_ret
      exact ⟨rfl, HBq.out⟩
    · have HJ : Hid (latL anyE AB = latL anyE [y]) := by show _ = _; rw [HJ0.out, HA1.out, HB1.out]; rfl
      have HP : Hid (r = true) := HP0.out
      have hLx0 : Hid (LiesE Wz D x) := HS7.out.2.1
      have hLy0 : Hid (LiesE Wz G y) := HS7.out.2.2.1
      have hLx : LiesE Wz D x := HS7.out.2.1
      have hLy : LiesE Wz G y := HS7.out.2.2.1
      have hLz : LiesE Wz J z := HS7.out.1
      have HB7 : Hid (Below w.heap.size w Wz) := HS7.out.2.2.2
      clear HS7
      have HR0 : Aside (Row Wz Wz.heap.size (.slice none 0 0) []) := row_nil _ _
      have HBB : Hid (Below Wz.heap.size Wz Wz) := Below.refl _ _
      have hRow : Row (Wz.alloc (.cells (evc y) 31)) Wz.heap.size (.slice none 0 0) [] := (HR0.out).below ((Below.refl _ _).alloc (Nat.le_refl _) _) (Nat.le_refl _)
      have hF : Evs (Wz.alloc (.cells (evc y) 31)) (some ⟨Wz.heap.size, 0, none⟩) 1 1 [y] := evs_single _ _ y hwy (liesE_new Wz y)
      have hle : Wz.heap.size ≤ (Wz.alloc (.cells (evc y) 31)).heap.size := Nat.le_trans HBB.out.size (by simp)
      have HB8 : Hid (Below Wz.heap.size Wz (Wz.alloc (.cells (evc y) 31))) := HBB.out.alloc HBB.out.size _
      have hLc := hLy
      go_wp2_with (first | refine load_ev rfl rfl rfl hLc hwy.1 ?_ | refine build_ev1 rfl rfl rfl hwy.1 ?_ | refine wpList_appE rfl _ _ rfl Wz.heap.size _ [] rfl hRow _ 1 1 [y] rfl hF (by simp) hle ?_)
      intro v1 wt1 hR hg ho
      have hBt : Below Wz.heap.size Wz wt1 := HB8.out.grown hg hle hRow.own
      have HR1 : Aside (Row wt1 Wz.heap.size v1 ([] ++ [y])) := hR
      have hLx2 : LiesE wt1 D x := hLx0.out.below hBt hLx0.out.lt
      have hLy2 : LiesE wt1 G y := hLy0.out.below hBt hLy0.out.lt
      replace HBB : Hid (Below Wz.heap.size Wz wt1) := hBt
      clear hRow hF hle HB8 hLc hR hg ho hBt hLx hLy HR0
      have hLx := hLx2
      have hLy := hLy2
      clear hLx2 hLy2
      obtain ⟨ta, tc, htv, hEt⟩ := HR1.out.evs (wide_one hwy)
      subst htv
      have hEt2 : Evs wt1 ta 1 tc [y] := hEt
      clear hEt
      simp only [List.nil_append, List.length_cons, List.length_nil, Nat.zero_add]
      clear HR1 hLx hLy hLx0 hLy0
      go_wp2_with fail
      refine (glatest_any ta 1 tc [y] wt1 hEt2 (by omega)).mono ?_
      rintro e w9 ⟨rfl, hb9⟩
      have hLz9 : LiesE w9 J z := (hLz.below HBB.out hLz.lt).below hb9 (Nat.lt_of_lt_of_le hLz.lt HBB.out.size)
      have HB9 : Hid (Below w.heap.size w w9) := (HB7.out.trans (HBB.out.mono HB7.out.size)).trans (hb9.mono (Nat.le_trans HB7.out.size HBB.out.size))
      rw [show latL anyE [y] = latL anyE AB from HJ.out.symm, HZ.out, HR.out]
      clear hb9 hEt2 HBB HB7 hLz
      have hzq := liesE_new w9 zv
      have hL9 := hLz9.alloc (.cells (evc zv) 31)
      have hLz10 := hL9.rowOther (evc z) (g := w9.heap.size) (Nat.ne_of_lt hLz9.lt)
      have hLq := hzq.row z
      have HBq : Hid (Below w.heap.size w ((w9.alloc (.cells (evc zv) 31)).setRow w9.heap.size (evc z))) := below_setRow (HB9.out.alloc HB9.out.size _) HB9.out.size _
      clear hL9 hLz9 HB9
      go_upto_region 12 with (refine store_ev rfl rfl rfl rfl hzq hz16 rfl ?_)
      change Code.wp _ _ _ _ ((w9.alloc (.cells (evc zv) 31)).setRow w9.heap.size (evc z))
      clear hzq
      generalize (w9.alloc (.cells (evc zv) 31)).setRow w9.heap.size (evc z) = Wq at *
      generalize w9.heap.size = Q at *
      have hq := eql_same z hz16
      have hpl := plain_ev
      have hrb : r = true := HP.out
      subst hrb
      go_wp2_with (first | refine load_ev rfl rfl rfl hLz10 hz16 ?_ | refine load_ev rfl rfl rfl hLq hz16 ?_)
      go_ret
      exact ⟨rfl, HBq.out⟩
    · have HJ : Hid (latL anyE AB = latL anyE []) := by show _ = _; rw [HJ0.out, HA1.out, HB1.out]; rfl
      have HP : Hid (r = false) := HP0.out
      have hLx0 : Hid (LiesE Wz D x) := HS7.out.2.1
      have hLy0 : Hid (LiesE Wz G y) := HS7.out.2.2.1
      have hLx : LiesE Wz D x := HS7.out.2.1
      have hLy : LiesE Wz G y := HS7.out.2.2.1
      have hLz : LiesE Wz J z := HS7.out.1
      have HB7 : Hid (Below w.heap.size w Wz) := HS7.out.2.2.2
      clear HS7
      have HR0 : Aside (Row Wz Wz.heap.size (.slice none 0 0) []) := row_nil _ _
      have HBB : Hid (Below Wz.heap.size Wz Wz) := Below.refl _ _
      have hEt2 : Evs Wz none 0 0 [] := Evs.nil _
      clear HR0 hLx hLy hLx0 hLy0
      go_wp2_with fail
      refine (glatest_any none 0 0 [] Wz hEt2 (by omega)).mono ?_
      rintro e w9 ⟨rfl, hb9⟩
      have hLz9 : LiesE w9 J z := (hLz.below HBB.out hLz.lt).below hb9 (Nat.lt_of_lt_of_le hLz.lt HBB.out.size)
      have HB9 : Hid (Below w.heap.size w w9) := (HB7.out.trans (HBB.out.mono HB7.out.size)).trans (hb9.mono (Nat.le_trans HB7.out.size HBB.out.size))
      rw [show latL anyE [] = latL anyE AB from HJ.out.symm, HZ.out, HR.out]
      clear hb9 hEt2 HBB HB7 hLz
      have hzq := liesE_new w9 zv
      have hL9 := hLz9.alloc (.cells (evc zv) 31)
      have hLz10 := hL9.rowOther (evc z) (g := w9.heap.size) (Nat.ne_of_lt hLz9.lt)
      have hLq := hzq.row z
      have HBq : Hid (Below w.heap.size w ((w9.alloc (.cells (evc zv) 31)).setRow w9.heap.size (evc z))) := below_setRow (HB9.out.alloc HB9.out.size _) HB9.out.size _
      clear hL9 hLz9 HB9
      go_upto_region 12 with (refine store_ev rfl rfl rfl rfl hzq hz16 rfl ?_)
      change Code.wp _ _ _ _ ((w9.alloc (.cells (evc zv) 31)).setRow w9.heap.size (evc z))
      clear hzq
      generalize (w9.alloc (.cells (evc zv) 31)).setRow w9.heap.size (evc z) = Wq at *
      generalize w9.heap.size = Q at *
      have hq := eql_same z hz16
      have hpl := plain_ev
      have hrb : r = false := HP.out
      subst hrb
      go_wp2_with (first | refine load_ev rfl rfl rfl hLz10 hz16 ?_ | refine load_ev rfl rfl rfl hLq hz16 ?_)
      go_ret
      exact ⟨rfl, HBq.out⟩
end Go.Proofs.Ytomdoclfmoihbaa
