/-
  RegTells: the walk.
-/
import Derived.Test.YtomdoclfmoihbaaGwk
namespace Go.Proofs.Ytomdoclfmoihbaa
set_option maxRecDepth 100000
open Go.RowKit

theorem eql_same (f : Ev) (hf : f.deps.length = 16) (W : World) : (binOp .eql 31 (.agg (evc f)) (.agg (evc f))).run Try.prog W = .ok (.bool true) W := by
  rw [eql_evd W hf hf]; simp
set_option maxHeartbeats 2000000 in
theorem gtells_walk (ao : Option Addr) (m c : Nat) (E : List Ev) (w : World) (hE : Evs w ao m c E) :
    Calls Try.prog 3 #[.slice ao m c] w fun e w' => e = .returned (.bool true) ∧ Below w.heap.size w w' := by
  go_enter Try.func3, Try.ntmps3
  go_wp2_with fail
  refine (awake_any w).mono ?_
  rintro e w1 ⟨rfl, hb1⟩
  have HB1 : Hid (Below w.heap.size w w1) := hb1
  have hE1 := hE.below hb1 (Nat.le_refl _)
  clear hb1 hE
  by_cases hbig : 300 < m
  · have hz : (300 : Int) < (m : Int) := by omega
    clear hE1
    go_wp2_with fail
    refine (awake_any w1).mono ?_
    rintro e w2 ⟨rfl, hb2⟩
    have HB2 : Hid (Below w.heap.size w w2) := HB1.out.trans (hb2.mono HB1.out.size)
    clear hb2 HB1
    go_wp2
    go_ret
    exact ⟨rfl, HB2.out⟩
  · have hz : ¬ (300 : Int) < (m : Int) := by omega
    have hf : (orz (latL anyE E)).deps.length = 16 := (orz_wide hE1.wide).1
    have HR : Hid (rlat E = latL anyE E) := rlat_eq E
    have HV : Hid (rlat (E.filter setE) = latL setE E) := by show _ = _; rw [rlat_eq, ← latL_filter]
    go_wp2_with fail
    refine (glatest_any ao m c E w1 hE1 (by omega)).mono ?_
    rintro e w2 ⟨rfl, hb2⟩
    have hE2 := hE1.below hb2 (Nat.le_refl _)
    have HB2 : Hid (Below w.heap.size w w2) := HB1.out.trans (hb2.mono HB1.out.size)
    clear hb2 HB1 hE1
    obtain ⟨f, HF⟩ : ∃ f, Hid (orz (latL anyE E) = f) := ⟨_, show _ = _ from rfl⟩
    obtain ⟨t, HT⟩ : ∃ t, Hid ((latL anyE E).isSome = t) := ⟨_, show _ = _ from rfl⟩
    rw [HF.out] at hf ⊢
    rw [HT.out]
    have hz2 := liesE_new w2 zv
    have hB3 : Below w2.heap.size w2 ((w2.alloc (.cells (evc zv) 31)).setRow w2.heap.size (evc f)) := below_setRow ((Below.refl _ _).alloc (Nat.le_refl _) _) (Nat.le_refl _) _
    have HS3 : Aside (LiesE ((w2.alloc (.cells (evc zv) 31)).setRow w2.heap.size (evc f)) w2.heap.size f ∧ Evs ((w2.alloc (.cells (evc zv) 31)).setRow w2.heap.size (evc f)) ao m c E ∧ Below w.heap.size w ((w2.alloc (.cells (evc zv) 31)).setRow w2.heap.size (evc f))) := ⟨hz2.row f, hE2.below hB3 (Nat.le_refl _), HB2.out.trans (hB3.mono HB2.out.size)⟩
    clear hB3 HB2 hE2
    go_upto_region 4 with (refine store_ev rfl rfl rfl rfl hz2 hf rfl ?_)
    change Code.wp _ _ _ _ ((w2.alloc (.cells (evc zv) 31)).setRow w2.heap.size (evc f))
    clear hz2
    generalize (w2.alloc (.cells (evc zv) 31)).setRow w2.heap.size (evc f) = W at *
    generalize w2.heap.size = D at *
    go_wp2_with fail
    refine (rglatest_any ao m c E W HS3.out.2.1 (by omega)).mono ?_
    rintro e w4 ⟨rfl, hb4⟩
    have HS4 : Aside (LiesE w4 D f ∧ Evs w4 ao m c E ∧ Below w.heap.size w w4) := ⟨HS3.out.1.below hb4 HS3.out.1.lt, HS3.out.2.1.below hb4 (Nat.le_refl _), HS3.out.2.2.trans (hb4.mono HS3.out.2.2.size)⟩
    clear hb4 HS3
    rw [HR.out, HF.out, HT.out]
    have hz4 := liesE_new w4 zv
    have hB5 : Below w4.heap.size w4 ((w4.alloc (.cells (evc zv) 31)).setRow w4.heap.size (evc f)) := below_setRow ((Below.refl _ _).alloc (Nat.le_refl _) _) (Nat.le_refl _) _
    have HS5 : Aside (LiesE ((w4.alloc (.cells (evc zv) 31)).setRow w4.heap.size (evc f)) w4.heap.size f ∧ LiesE ((w4.alloc (.cells (evc zv) 31)).setRow w4.heap.size (evc f)) D f ∧ Evs ((w4.alloc (.cells (evc zv) 31)).setRow w4.heap.size (evc f)) ao m c E ∧ Below w.heap.size w ((w4.alloc (.cells (evc zv) 31)).setRow w4.heap.size (evc f))) := ⟨hz4.row f, HS4.out.1.below hB5 HS4.out.1.lt, HS4.out.2.1.below hB5 (Nat.le_refl _), HS4.out.2.2.trans (hB5.mono HS4.out.2.2.size)⟩
    clear hB5 HS4
    go_upto_region 5 with (refine store_ev rfl rfl rfl rfl hz4 hf rfl ?_)
    change Code.wp _ _ _ _ ((w4.alloc (.cells (evc zv) 31)).setRow w4.heap.size (evc f))
    clear hz4
    generalize (w4.alloc (.cells (evc zv) 31)).setRow w4.heap.size (evc f) = V at *
    generalize w4.heap.size = G at *
    go_wp2_with fail
    refine (gvalue_any ao m c E V HS5.out.2.2.1 (by omega)).mono ?_
    rintro e w6 ⟨rfl, hb6⟩
    have HS6 : Aside (LiesE w6 G f ∧ LiesE w6 D f ∧ Evs w6 ao m c E ∧ Below w.heap.size w w6) := ⟨HS5.out.1.below hb6 HS5.out.1.lt, HS5.out.2.1.below hb6 HS5.out.2.1.lt, HS5.out.2.2.1.below hb6 (Nat.le_refl _), HS5.out.2.2.2.trans (hb6.mono HS5.out.2.2.2.size)⟩
    clear hb6 HS5
    obtain ⟨g, HG⟩ : ∃ g, Hid (orz (latL setE E) = g) := ⟨_, show _ = _ from rfl⟩
    obtain ⟨s, HU⟩ : ∃ s, Hid ((latL setE E).isSome = s) := ⟨_, show _ = _ from rfl⟩
    rw [HG.out, HU.out]
    go_wp2_with fail
    refine (rgvalue_any ao m c E w6 HS6.out.2.2.1 (by omega)).mono ?_
    rintro e w7 ⟨rfl, hb7⟩
    have L1 := HS6.out.1.below hb7 HS6.out.1.lt
    have L2 := HS6.out.2.1.below hb7 HS6.out.2.1.lt
    have HB7 : Hid (Below w.heap.size w w7) := HS6.out.2.2.2.trans (hb7.mono HS6.out.2.2.2.size)
    clear hb7 HS6
    rw [HV.out, HG.out, HU.out]
    have hq := eql_same f hf
    have hpl := plain_ev
    generalize g.value = v at *
    go_wp2_with (first | refine load_ev rfl rfl rfl L1 hf ?_ | refine load_ev rfl rfl rfl L2 hf ?_)
    go_ret
    exact ⟨rfl, HB7.out⟩
end Go.Proofs.Ytomdoclfmoihbaa
