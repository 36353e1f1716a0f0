/-
  What event.Right comes to; and Covers.
-/
import Derived.Test.YthpkpmcccpfabaaEcv
import Derived.Test.YthpkpmcccpfabaaRop
import Derived.Test.YthpkpmcccpfabaaWth
namespace Go.Proofs.Ythpkpmcccpfabaa
set_option maxRecDepth 100000
open Go.RowKit

def placeE (e : Ev) : Bool := decide (withE e.deps e.r e.n = 0)
def isrefE (e : Ev) : Bool := decide (e.rr = 0 ∧ e.rn = 0)
def refE (e : Ev) : Bool := if e.kind = 10 then hasv e.deps e.rr e.rn else if e.kind = 9 then isrefE e || hasv e.deps e.rr e.rn else true
/-- Can the event be? -/
def okev (e : Ev) : Bool := placeE e && (decide (0 ≤ e.t) && (decide (e.t ≤ 1152921504606846975) && (opE e && refE e)))
theorem run_isref (w : World) {e : Ev} {b : Bool} (h : isrefE e = b) : (Op.equalIn 10000 38 (.agg (dotc e.rr e.rn)) (.agg #[.int .i64 0, .int .i64 0])).run Try.prog w = .ok b w := by
  rw [← h]; exact run_equalIn_dot w 9998 e.rr e.rn 0 0
theorem boxedE (w : World) (e : Ev) : LiesE (w.alloc (.cells (evc e) 44)) w.heap.size e ∧ Below w.heap.size w (w.alloc (.cells (evc e) 44)) :=
  ⟨liesE_new w e, (Below.refl _ _).alloc (Nat.le_refl _) _⟩

set_option maxHeartbeats 400000 in
theorem rightplace_any (e : Ev) (hl : e.deps.length = 16) (w : World) : Calls Try.prog 48 #[.agg (evc e)] w fun e' w' => e' = .returned (.bool (placeE e)) ∧ Below w.heap.size w w' := by
  obtain ⟨hE, hB⟩ := boxedE w e
  have HB : Hid (Below w.heap.size w (w.alloc (.cells (evc e) 44))) := hB
  clear hB
  have hd := hE.deps hl
  have hr := hE.dot
  clear hE
  have hw : Hid _ := withV_length e.deps e.r e.n hl
  go_enter Try.func48, Try.ntmps48
  go_wp2_with (first | refine load_vec_at rfl rfl rfl hd hl ?_ | refine load_dot_at rfl rfl rfl hr ?_)
  refine (with_any e.deps e.r e.n hl _).mono ?_
  rintro e1 w1 ⟨rfl, hb1⟩
  have H1 : Hid (Below w.heap.size w w1) := HB.out.trans (hb1.mono HB.out.size)
  clear hd hr hb1 HB
  have hz := lies_new w1 zeros
  have HP : Hid (∀ b : Bool, b = (withE e.deps e.r e.n == 0) → b = placeE e) := fun b hb => by rw [hb, placeE, Bool.eq_iff_iff]; simp
  generalize withE e.deps e.r e.n = x at *
  generalize withV e.deps e.r e.n = v at *
  go_wp2_with (refine store_vec rfl rfl rfl rfl hz hw.out rfl ?_)
  go_ret
  refine ⟨congrArg (fun b => Ending.returned (.bool b)) (HP.out _ rfl), below_setRow (H1.out.alloc H1.out.size _) H1.out.size _⟩

set_option maxHeartbeats 400000 in
theorem rightref_any (e : Ev) (hl : e.deps.length = 16) (w : World) : Calls Try.prog 50 #[.agg (evc e)] w fun e' w' => e' = .returned (.bool (refE e)) ∧ Below w.heap.size w w' := by
  obtain ⟨hE, hB⟩ := boxedE w e
  have HB : Hid (Below w.heap.size w (w.alloc (.cells (evc e) 44))) := hB
  clear hB
  have hd := hE.deps hl
  have hr := hE.ref hl
  have c19 := hE.c19 hl
  clear hE
  unfold refE
  by_cases h10 : e.kind = 10
  · rw [if_pos h10]
    rw [h10] at c19
    clear h10
    go_enter Try.func50, Try.ntmps50
    go_wp2_with (first | refine load_vec_at rfl rfl rfl hd hl ?_ | refine load_dot_at rfl rfl rfl hr ?_)
    refine (has_any e.deps e.rr e.rn hl _).mono ?_
    rintro e1 w1 ⟨rfl, hb1⟩
    clear hd hr c19
    go_wp2
    go_ret
    exact ⟨rfl, HB.out.trans (hb1.mono HB.out.size)⟩
  · rw [if_neg h10]
    by_cases h9 : e.kind = 9
    · rw [if_pos h9]
      rw [h9] at c19
      clear h9 h10
      have hp := plain_dot
      rcases Bool.eq_false_or_eq_true (isrefE e) with hi | hi
      · rw [hi, Bool.true_or]
        have he := fun W : World => run_isref W hi
        clear hi
        go_enter Try.func50, Try.ntmps50
        go_wp2_with (first | refine load_vec_at rfl rfl rfl hd hl ?_ | refine load_dot_at rfl rfl rfl hr ?_)
        go_ret
        exact ⟨rfl, HB.out⟩
      · rw [hi, Bool.false_or]
        have he := fun W : World => run_isref W hi
        clear hi
        go_enter Try.func50, Try.ntmps50
        go_wp2_with (first | refine load_vec_at rfl rfl rfl hd hl ?_ | refine load_dot_at rfl rfl rfl hr ?_)
        refine (has_any e.deps e.rr e.rn hl _).mono ?_
        rintro e1 w1 ⟨rfl, hb1⟩
        clear hd hr c19
        go_wp2
        go_ret
        exact ⟨rfl, HB.out.trans (hb1.mono HB.out.size)⟩
    · rw [if_neg h9]
      have k10 : (e.kind == 10) = false := by simpa using h10
      have k9 : (e.kind == 9) = false := by simpa using h9
      go_enter Try.func50, Try.ntmps50
      go_wp2_with (first | refine load_vec_at rfl rfl rfl hd hl ?_ | refine load_dot_at rfl rfl rfl hr ?_)
      go_ret
      exact ⟨rfl, HB.out⟩

theorem okev_place {e : Ev} (h : placeE e = false) : okev e = false := by rw [okev, h]; rfl

set_option maxHeartbeats 1000000 in
theorem eright_any (e : Ev) (hl : e.deps.length = 16) (lk : Room e) (w : World) : Calls Try.prog 29 #[.agg (evc e)] w fun e' w' => e' = .returned (.bool (okev e)) ∧ Below w.heap.size w w' := by
  obtain ⟨hE, hB⟩ := boxedE w e
  have H0 : Hid (Below w.heap.size w (w.alloc (.cells (evc e) 44))) := hB
  clear hB
  rcases Bool.eq_false_or_eq_true (placeE e) with hp | hp
  · by_cases t0 : 0 ≤ e.t
    · by_cases t1 : e.t ≤ 1152921504606846975
      · rcases Bool.eq_false_or_eq_true (opE e) with ho | ho
        · rw [okev, hp, ho, decide_eq_true t0, decide_eq_true t1, Bool.true_and, Bool.true_and, Bool.true_and, Bool.true_and]
          have HP : Hid _ := hp
          have HO : Hid _ := ho
          clear hp ho
          go_enter Try.func29, Try.ntmps29
          go_wp2_with (refine load_ev rfl rfl rfl hE hl ?_)
          refine (rightplace_any e hl _).mono ?_
          rintro e1 w1 ⟨rfl, hb1⟩
          have hE1 := hE.below hb1 hE.lt
          have H1 : Hid (Below w.heap.size w w1) := H0.out.trans (hb1.mono H0.out.size)
          clear hE hb1 H0
          rw [HP.out]
          have c2 := hE1.c2
          have ho := hE1.op hl
          go_wp2_with (refine load_op_at rfl rfl rfl ho ?_)
          refine (rightop_any e _ lk).mono ?_
          rintro e2 w2 ⟨rfl, hb2⟩
          have hE2 := hE1.below hb2 hE1.lt
          have H2 : Hid (Below w.heap.size w w2) := H1.out.trans (hb2.mono H1.out.size)
          clear hE1 hb2 H1 c2 ho
          rw [HO.out]
          go_wp2_with (refine load_ev rfl rfl rfl hE2 hl ?_)
          refine (rightref_any e hl _).mono ?_
          rintro e3 w3 ⟨rfl, hb3⟩
          have H3 : Hid (Below w.heap.size w w3) := H2.out.trans (hb3.mono H2.out.size)
          clear hE2 hb3 H2
          go_wp2
          go_ret
          exact ⟨rfl, H3.out⟩
        · rw [okev, hp, ho, decide_eq_true t0, decide_eq_true t1]
          have HP : Hid _ := hp
          have HO : Hid _ := ho
          clear hp ho
          go_enter Try.func29, Try.ntmps29
          go_wp2_with (refine load_ev rfl rfl rfl hE hl ?_)
          refine (rightplace_any e hl _).mono ?_
          rintro e1 w1 ⟨rfl, hb1⟩
          have hE1 := hE.below hb1 hE.lt
          have H1 : Hid (Below w.heap.size w w1) := H0.out.trans (hb1.mono H0.out.size)
          clear hE hb1 H0
          rw [HP.out]
          have c2 := hE1.c2
          have ho := hE1.op hl
          go_wp2_with (refine load_op_at rfl rfl rfl ho ?_)
          refine (rightop_any e _ lk).mono ?_
          rintro e2 w2 ⟨rfl, hb2⟩
          have H2 : Hid (Below w.heap.size w w2) := H1.out.trans (hb2.mono H1.out.size)
          clear hE1 hb2 H1 c2 ho
          rw [HO.out]
          go_wp2
          go_ret
          exact ⟨rfl, H2.out⟩
      · rw [okev, hp, decide_eq_true t0, decide_eq_false t1]
        have HP : Hid _ := hp
        clear hp
        go_enter Try.func29, Try.ntmps29
        go_wp2_with (refine load_ev rfl rfl rfl hE hl ?_)
        refine (rightplace_any e hl _).mono ?_
        rintro e1 w1 ⟨rfl, hb1⟩
        have hE1 := hE.below hb1 hE.lt
        have H1 : Hid (Below w.heap.size w w1) := H0.out.trans (hb1.mono H0.out.size)
        clear hE hb1 H0
        rw [HP.out]
        have c2 := hE1.c2
        have ho := hE1.op hl
        go_wp2
        go_ret
        exact ⟨rfl, H1.out⟩
    · rw [okev, hp, decide_eq_false t0]
      have HP : Hid _ := hp
      clear hp
      go_enter Try.func29, Try.ntmps29
      go_wp2_with (refine load_ev rfl rfl rfl hE hl ?_)
      refine (rightplace_any e hl _).mono ?_
      rintro e1 w1 ⟨rfl, hb1⟩
      have hE1 := hE.below hb1 hE.lt
      have H1 : Hid (Below w.heap.size w w1) := H0.out.trans (hb1.mono H0.out.size)
      clear hE hb1 H0
      rw [HP.out]
      have c2 := hE1.c2
      go_wp2
      go_ret
      exact ⟨rfl, H1.out⟩
  · rw [okev_place hp]
    have HP : Hid _ := hp
    clear hp
    go_enter Try.func29, Try.ntmps29
    go_wp2_with (refine load_ev rfl rfl rfl hE hl ?_)
    refine (rightplace_any e hl _).mono ?_
    rintro e1 w1 ⟨rfl, hb1⟩
    have H1 : Hid (Below w.heap.size w w1) := H0.out.trans (hb1.mono H0.out.size)
    clear hE hb1 H0
    rw [HP.out]
    go_wp2
    go_ret
    exact ⟨rfl, H1.out⟩
end Go.Proofs.Ythpkpmcccpfabaa
