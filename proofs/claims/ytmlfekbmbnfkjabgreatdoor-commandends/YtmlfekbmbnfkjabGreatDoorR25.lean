/-
  What vec.With and the reference's With come to.
-/
import Derived.Test.YtmlfekbmbnfkjabGreatDoorR03
import Derived.Test.YtmlfekbmbnfkjabGreatDoorR24
import Derived.BigQuiet
import Derived.Test.YtmlfekbmbnfkjabGreatDoorR01
namespace Go.Proofs.YtmlfekbmbnfkjabGreatDoor
set_option maxRecDepth 100000
open Go.RowKit

/-- A vector and one dot more, and the error. -/
def withV (v : List Int) (r n : Int) : List Int := if fine v && okdot r n && decide (n = v.getD r.toNat 0 + 1) then v.set r.toNat n else zeros
def withE (v : List Int) (r n : Int) : Int := if fine v && okdot r n then (if n = v.getD r.toNat 0 + 1 then 0 else 11) else 1
theorem withV_length (v : List Int) (r n : Int) (hv : v.length = 16) : (withV v r n).length = 16 := by
  unfold withV
  split
  · rw [List.length_set, hv]
  · rfl

theorem boxedVDZ (w : World) (v : List Int) (r n : Int) :
    Lies (((w.alloc (.cells (vals v) 41)).alloc (.cells (dotc r n) 32)).alloc (.cells (vals zeros) 41)) w.heap.size v ∧
    LiesD (((w.alloc (.cells (vals v) 41)).alloc (.cells (dotc r n) 32)).alloc (.cells (vals zeros) 41)) (w.heap.size + 1) r n ∧
    Lies (((w.alloc (.cells (vals v) 41)).alloc (.cells (dotc r n) 32)).alloc (.cells (vals zeros) 41)) (w.heap.size + 1 + 1) zeros ∧
    Below w.heap.size w (((w.alloc (.cells (vals v) 41)).alloc (.cells (dotc r n) 32)).alloc (.cells (vals zeros) 41)) := by
  refine ⟨((lies_new w v).alloc _).alloc _, ?_, ?_, (((Below.refl _ _).alloc (Nat.le_refl _) _).alloc (by simp) _).alloc (by simp; omega) _⟩
  · have := (liesD_new (w.alloc (.cells (vals v) 41)) r n).alloc (.cells (vals zeros) 41)
    simpa using this
  · have := lies_new ((w.alloc (.cells (vals v) 41)).alloc (.cells (dotc r n) 32)) zeros
    simpa using this

set_option maxHeartbeats 1000000 in
theorem with_any (v : List Int) (r n : Int) (hv : v.length = 16) (w : World) :
    Calls Tryz.prog 32 #[.agg (vals v), .agg (dotc r n)] w fun e w' => e = .returned (.tuple #[.agg (vals (withV v r n)), .int .i64 (withE v r n)]) ∧ Below w.heap.size w w' := by
  obtain ⟨hV, hD, hZ, hb0⟩ := boxedVDZ w v r n
  have H0 : Hid (Below w.heap.size w (((w.alloc (.cells (vals v) 41)).alloc (.cells (dotc r n) 32)).alloc (.cells (vals zeros) 41))) := hb0
  clear hb0
  rcases Bool.eq_false_or_eq_true (fine v) with hf | hf
  · rcases Bool.eq_false_or_eq_true (okdot r n) with hk | hk
    · obtain ⟨r0, r1, n0, n1⟩ := of_decide_eq_true hk
      obtain ⟨k, rfl⟩ : ∃ k : Nat, r = (k : Int) := ⟨r.toNat, by omega⟩
      have hk16 : k < 16 := by omega
      obtain ⟨f0, f1⟩ := fine_get v k hv hk16 hf
      by_cases hm : n = v.getD k 0 + 1
      · have e1 : withV v (k : Int) n = v.set k n := by rw [withV, Int.toNat_natCast, hf, hk, decide_eq_true hm]; rfl
        have e2 : withE v (k : Int) n = 0 := by rw [withE, Int.toNat_natCast, if_pos hm, hf, hk]; rfl
        rw [e1, e2]
        clear e1 e2
        obtain ⟨x, Hx⟩ : ∃ x, Hid (v.getD k 0 = x) := ⟨_, rfl⟩
        have hx := Hx.out
        rw [hx] at hm f0 f1
        clear hx
        have Hm : Hid (n = x + 1) := hm
        clear hm
        go_enter Tryz.func32, Tryz.ntmps32
        go_wp2_with (refine load_vec rfl rfl rfl hV hv ?_)
        refine (right_any v hv _).mono ?_
        rintro e w1 ⟨rfl, hb1⟩
        have hV1 := hV.below hb1 hV.lt
        have hD1 := hD.below hb1 hD.lt
        have hZ1 := hZ.below hb1 hZ.lt
        have H1 : Hid (Below w.heap.size w w1) := H0.out.trans (hb1.mono H0.out.size)
        clear hV hD hZ hb1 H0
        rw [hf]
        go_wp2_with (refine load_dot_w rfl rfl rfl hD1 ?_)
        refine (rightdot_any (k : Int) n _).mono ?_
        rintro e w2 ⟨rfl, hb2⟩
        have hV2 := hV1.below hb2 hV1.lt
        have hD2 := hD1.below hb2 hD1.lt
        have hZ2 := hZ1.below hb2 hZ1.lt
        have H2 : Hid (Below w.heap.size w w2) := H1.out.trans (hb2.mono H1.out.size)
        clear hV1 hD1 hZ1 hb2 H1
        rw [hk]
        have hc := hV2.cell (k := k) (by omega)
        rw [Hx.out] at hc
        have c0 := hD2.cell0
        have c1 := hD2.cell1
        have hfz := hV2.frozen (k := k)
        have hia := fun (W : World) (g : Nat) => run_indexAt_vec W g k hk16
        have hm : n = x + 1 := Hm.out
        have hVs : Hid _ := fun q : Nat => (hV2.drewN q).set (k := k) n
        have hZs : Hid _ := fun q : Nat => (hZ2.drewN q).other (ad := ⟨w.heap.size, k, none⟩) (.int .i64 n) (by simp; omega)
        clear hV2 hD2 hZ2
        go_wp2_with fail
        go_quiet (fail)
        clear hm
        go_wp2_with (first | refine load_vec rfl rfl rfl (hVs.out _) (by rw [List.length_set]; exact hv) ?_ | refine store_vec rfl rfl rfl rfl (hZs.out _) (by rw [List.length_set]; exact hv) rfl ?_)
        exact ret_vec2 rfl rfl rfl rfl ((hZs.out _).row _) (by rw [List.length_set]; exact hv) ⟨rfl, below_setRow ((Below.drewN H2.out _).setCell (Nat.le_refl _) _) (by omega) _⟩
      · have e1 : withV v (k : Int) n = zeros := by rw [withV, Int.toNat_natCast, hf, hk, decide_eq_false hm]; rfl
        have e2 : withE v (k : Int) n = 11 := by rw [withE, Int.toNat_natCast, if_neg hm, hf, hk]; rfl
        rw [e1, e2]
        clear e1 e2
        obtain ⟨x, Hx⟩ : ∃ x, Hid (v.getD k 0 = x) := ⟨_, rfl⟩
        have hx := Hx.out
        rw [hx] at hm f0 f1
        clear hx
        go_enter Tryz.func32, Tryz.ntmps32
        go_wp2_with (refine load_vec rfl rfl rfl hV hv ?_)
        refine (right_any v hv _).mono ?_
        rintro e w1 ⟨rfl, hb1⟩
        have hV1 := hV.below hb1 hV.lt
        have hD1 := hD.below hb1 hD.lt
        have hZ1 := hZ.below hb1 hZ.lt
        have H1 : Hid (Below w.heap.size w w1) := H0.out.trans (hb1.mono H0.out.size)
        clear hV hD hZ hb1 H0
        rw [hf]
        go_wp2_with (refine load_dot_w rfl rfl rfl hD1 ?_)
        refine (rightdot_any (k : Int) n _).mono ?_
        rintro e w2 ⟨rfl, hb2⟩
        have hV2 := hV1.below hb2 hV1.lt
        have hD2 := hD1.below hb2 hD1.lt
        have hZ2 := hZ1.below hb2 hZ1.lt
        have H2 : Hid (Below w.heap.size w w2) := H1.out.trans (hb2.mono H1.out.size)
        clear hV1 hD1 hZ1 hb2 H1
        rw [hk]
        have hc := hV2.cell (k := k) (by omega)
        rw [Hx.out] at hc
        have c0 := hD2.cell0
        have c1 := hD2.cell1
        have hia := fun (W : World) (g : Nat) => run_indexAt_vec W g k hk16
        have hZs : Hid _ := fun q : Nat => hZ2.drewN q
        clear hV2 hD2 hZ2
        go_wp2_with fail
        go_quiet (fail)
        go_wp2_with (refine store_vec (l := zeros) rfl rfl rfl rfl (hZs.out _) rfl rfl ?_)
        exact ret_vec2 rfl rfl rfl rfl ((hZs.out _).row zeros) rfl ⟨rfl, below_setRow (Below.drewN H2.out _) (by omega) _⟩
    · have e1 : withV v r n = zeros := by rw [withV, hf, hk]; rfl
      have e2 : withE v r n = 1 := by rw [withE, hf, hk]; rfl
      rw [e1, e2]
      clear e1 e2
      go_enter Tryz.func32, Tryz.ntmps32
      go_wp2_with (refine load_vec rfl rfl rfl hV hv ?_)
      refine (right_any v hv _).mono ?_
      rintro e w1 ⟨rfl, hb1⟩
      have hV1 := hV.below hb1 hV.lt
      have hD1 := hD.below hb1 hD.lt
      have hZ1 := hZ.below hb1 hZ.lt
      have H1 : Hid (Below w.heap.size w w1) := H0.out.trans (hb1.mono H0.out.size)
      clear hV hD hZ hb1 H0
      rw [hf]
      go_wp2_with (refine load_dot_w rfl rfl rfl hD1 ?_)
      refine (rightdot_any r n _).mono ?_
      rintro e w2 ⟨rfl, hb2⟩
      have hV2 := hV1.below hb2 hV1.lt
      have hD2 := hD1.below hb2 hD1.lt
      have hZ2 := hZ1.below hb2 hZ1.lt
      have H2 : Hid (Below w.heap.size w w2) := H1.out.trans (hb2.mono H1.out.size)
      clear hV1 hD1 hZ1 hb2 H1
      rw [hk]
      go_wp2_with (refine store_vec (l := zeros) rfl rfl rfl rfl hZ2 rfl rfl ?_)
      exact ret_vec2 rfl rfl rfl rfl (hZ2.row zeros) rfl ⟨rfl, below_setRow H2.out (by omega) _⟩
  · have e1 : withV v r n = zeros := by rw [withV, hf]; rfl
    have e2 : withE v r n = 1 := by rw [withE, hf]; rfl
    rw [e1, e2]
    clear e1 e2
    go_enter Tryz.func32, Tryz.ntmps32
    go_wp2_with (refine load_vec rfl rfl rfl hV hv ?_)
    refine (right_any v hv _).mono ?_
    rintro e w1 ⟨rfl, hb1⟩
    have hV1 := hV.below hb1 hV.lt
    have hD1 := hD.below hb1 hD.lt
    have hZ1 := hZ.below hb1 hZ.lt
    have H1 : Hid (Below w.heap.size w w1) := H0.out.trans (hb1.mono H0.out.size)
    clear hV hD hZ hb1 H0
    rw [hf]
    go_wp2_with (refine store_vec (l := zeros) rfl rfl rfl rfl hZ1 rfl rfl ?_)
    exact ret_vec2 rfl rfl rfl rfl (hZ1.row zeros) rfl ⟨rfl, below_setRow H1.out (by omega) _⟩

end Go.Proofs.YtmlfekbmbnfkjabGreatDoor

/-
  What event.Right comes to; and Covers.
-/
namespace Go.Proofs.YtmlfekbmbnfkjabGreatDoor
set_option maxRecDepth 100000
open Go.RowKit

def placeE (e : Ev) : Bool := decide (withE e.deps e.r e.n = 0)
def isrefE (e : Ev) : Bool := decide (e.rr = 0 ∧ e.rn = 0)
def refE (e : Ev) : Bool := if e.kind = 10 then hasv e.deps e.rr e.rn else if e.kind = 9 then isrefE e || hasv e.deps e.rr e.rn else true
/-- Can the event be? -/
def okev (e : Ev) : Bool := placeE e && (decide (0 ≤ e.t) && (decide (e.t ≤ 1152921504606846975) && (opE e && refE e)))
theorem run_isref (w : World) {e : Ev} {b : Bool} (h : isrefE e = b) : (Op.equalIn 10000 32 (.agg (dotc e.rr e.rn)) (.agg #[.int .i64 0, .int .i64 0])).run Tryz.prog w = .ok b w := by
  rw [← h]; exact run_equalIn_dot w 9998 e.rr e.rn 0 0
theorem boxedE (w : World) (e : Ev) : LiesE (w.alloc (.cells (evc e) 47)) w.heap.size e ∧ Below w.heap.size w (w.alloc (.cells (evc e) 47)) :=
  ⟨liesE_new w e, (Below.refl _ _).alloc (Nat.le_refl _) _⟩

set_option maxHeartbeats 400000 in
theorem rightplace_any (e : Ev) (hl : e.deps.length = 16) (w : World) : Calls Tryz.prog 29 #[.agg (evc e)] w fun e' w' => e' = .returned (.bool (placeE e)) ∧ Below w.heap.size w w' := by
  obtain ⟨hE, hB⟩ := boxedE w e
  have HB : Hid (Below w.heap.size w (w.alloc (.cells (evc e) 47))) := hB
  clear hB
  have hd := hE.deps hl
  have hr := hE.dot
  clear hE
  have hw : Hid _ := withV_length e.deps e.r e.n hl
  go_enter Tryz.func29, Tryz.ntmps29
  go_wp2_with (first | refine load_vec_at rfl rfl rfl hd hl ?_ | refine load_dot_at rfl rfl rfl hr ?_)
  refine (with_any e.deps e.r e.n hl _).mono ?_
  rintro e1 w1 ⟨rfl, hb1⟩
  have H1 : Hid (Below w.heap.size w w1) := HB.out.trans (hb1.mono HB.out.size)
  clear hd hr hb1 HB
  have hz := lies_new w1 zeros
  have HP : Hid (∀ b : Bool, b = (withE e.deps e.r e.n == 0) → b = placeE e) := fun b hb => by rw [hb, placeE, Bool.eq_iff_iff]; simp
  generalize withE e.deps e.r e.n = x at *
  generalize withV e.deps e.r e.n = v at *
  go_wp2_with (refine store_vec rfl rfl rfl rfl hz hw.out rfl ?_)
  go_ret
  refine ⟨congrArg (fun b => Ending.returned (.bool b)) (HP.out _ rfl), below_setRow (H1.out.alloc H1.out.size _) H1.out.size _⟩

set_option maxHeartbeats 400000 in
theorem rightref_any (e : Ev) (hl : e.deps.length = 16) (w : World) : Calls Tryz.prog 31 #[.agg (evc e)] w fun e' w' => e' = .returned (.bool (refE e)) ∧ Below w.heap.size w w' := by
  obtain ⟨hE, hB⟩ := boxedE w e
  have HB : Hid (Below w.heap.size w (w.alloc (.cells (evc e) 47))) := hB
  clear hB
  have hd := hE.deps hl
  have hr := hE.ref hl
  have c19 := hE.c19 hl
  clear hE
  unfold refE
  by_cases h10 : e.kind = 10
  · rw [if_pos h10]
    rw [h10] at c19
    clear h10
    go_enter Tryz.func31, Tryz.ntmps31
    go_wp2_with (first | refine load_vec_at rfl rfl rfl hd hl ?_ | refine load_dot_at rfl rfl rfl hr ?_)
    refine (has_any e.deps e.rr e.rn hl _).mono ?_
    rintro e1 w1 ⟨rfl, hb1⟩
    clear hd hr c19
    go_wp2
    go_ret
    exact ⟨rfl, HB.out.trans (hb1.mono HB.out.size)⟩
  · rw [if_neg h10]
    by_cases h9 : e.kind = 9
    · rw [if_pos h9]
      rw [h9] at c19
      clear h9 h10
      have hp := plain_dot
      rcases Bool.eq_false_or_eq_true (isrefE e) with hi | hi
      · rw [hi, Bool.true_or]
        have he := fun W : World => run_isref W hi
        clear hi
        go_enter Tryz.func31, Tryz.ntmps31
        go_wp2_with (first | refine load_vec_at rfl rfl rfl hd hl ?_ | refine load_dot_at rfl rfl rfl hr ?_)
        go_ret
        exact ⟨rfl, HB.out⟩
      · rw [hi, Bool.false_or]
        have he := fun W : World => run_isref W hi
        clear hi
        go_enter Tryz.func31, Tryz.ntmps31
        go_wp2_with (first | refine load_vec_at rfl rfl rfl hd hl ?_ | refine load_dot_at rfl rfl rfl hr ?_)
        refine (has_any e.deps e.rr e.rn hl _).mono ?_
        rintro e1 w1 ⟨rfl, hb1⟩
        clear hd hr c19
        go_wp2
        go_ret
        exact ⟨rfl, HB.out.trans (hb1.mono HB.out.size)⟩
    · rw [if_neg h9]
      have k10 : (e.kind == 10) = false := by simpa using h10
      have k9 : (e.kind == 9) = false := by simpa using h9
      go_enter Tryz.func31, Tryz.ntmps31
      go_wp2_with (first | refine load_vec_at rfl rfl rfl hd hl ?_ | refine load_dot_at rfl rfl rfl hr ?_)
      go_ret
      exact ⟨rfl, HB.out⟩

theorem okev_place {e : Ev} (h : placeE e = false) : okev e = false := by rw [okev, h]; rfl

set_option maxHeartbeats 1000000 in
theorem eright_any (e : Ev) (hl : e.deps.length = 16) (lk : Room e) (w : World) : Calls Tryz.prog 18 #[.agg (evc e)] w fun e' w' => e' = .returned (.bool (okev e)) ∧ Below w.heap.size w w' := by
  obtain ⟨hE, hB⟩ := boxedE w e
  have H0 : Hid (Below w.heap.size w (w.alloc (.cells (evc e) 47))) := hB
  clear hB
  rcases Bool.eq_false_or_eq_true (placeE e) with hp | hp
  · by_cases t0 : 0 ≤ e.t
    · by_cases t1 : e.t ≤ 1152921504606846975
      · rcases Bool.eq_false_or_eq_true (opE e) with ho | ho
        · rw [okev, hp, ho, decide_eq_true t0, decide_eq_true t1, Bool.true_and, Bool.true_and, Bool.true_and, Bool.true_and]
          have HP : Hid _ := hp
          have HO : Hid _ := ho
          clear hp ho
          go_enter Tryz.func18, Tryz.ntmps18
          go_wp2_with (refine load_ev rfl rfl rfl hE hl ?_)
          refine (rightplace_any e hl _).mono ?_
          rintro e1 w1 ⟨rfl, hb1⟩
          have hE1 := hE.below hb1 hE.lt
          have H1 : Hid (Below w.heap.size w w1) := H0.out.trans (hb1.mono H0.out.size)
          clear hE hb1 H0
          rw [HP.out]
          have c2 := hE1.c2
          have ho := hE1.op hl
          go_wp2_with (refine load_op_at rfl rfl rfl ho ?_)
          refine (rightop_any e _ lk).mono ?_
          rintro e2 w2 ⟨rfl, hb2⟩
          have hE2 := hE1.below hb2 hE1.lt
          have H2 : Hid (Below w.heap.size w w2) := H1.out.trans (hb2.mono H1.out.size)
          clear hE1 hb2 H1 c2 ho
          rw [HO.out]
          go_wp2_with (refine load_ev rfl rfl rfl hE2 hl ?_)
          refine (rightref_any e hl _).mono ?_
          rintro e3 w3 ⟨rfl, hb3⟩
          have H3 : Hid (Below w.heap.size w w3) := H2.out.trans (hb3.mono H2.out.size)
          clear hE2 hb3 H2
          go_wp2
          go_ret
          exact ⟨rfl, H3.out⟩
        · rw [okev, hp, ho, decide_eq_true t0, decide_eq_true t1]
          have HP : Hid _ := hp
          have HO : Hid _ := ho
          clear hp ho
          go_enter Tryz.func18, Tryz.ntmps18
          go_wp2_with (refine load_ev rfl rfl rfl hE hl ?_)
          refine (rightplace_any e hl _).mono ?_
          rintro e1 w1 ⟨rfl, hb1⟩
          have hE1 := hE.below hb1 hE.lt
          have H1 : Hid (Below w.heap.size w w1) := H0.out.trans (hb1.mono H0.out.size)
          clear hE hb1 H0
          rw [HP.out]
          have c2 := hE1.c2
          have ho := hE1.op hl
          go_wp2_with (refine load_op_at rfl rfl rfl ho ?_)
          refine (rightop_any e _ lk).mono ?_
          rintro e2 w2 ⟨rfl, hb2⟩
          have H2 : Hid (Below w.heap.size w w2) := H1.out.trans (hb2.mono H1.out.size)
          clear hE1 hb2 H1 c2 ho
          rw [HO.out]
          go_wp2
          go_ret
          exact ⟨rfl, H2.out⟩
      · rw [okev, hp, decide_eq_true t0, decide_eq_false t1]
        have HP : Hid _ := hp
        clear hp
        go_enter Tryz.func18, Tryz.ntmps18
        go_wp2_with (refine load_ev rfl rfl rfl hE hl ?_)
        refine (rightplace_any e hl _).mono ?_
        rintro e1 w1 ⟨rfl, hb1⟩
        have hE1 := hE.below hb1 hE.lt
        have H1 : Hid (Below w.heap.size w w1) := H0.out.trans (hb1.mono H0.out.size)
        clear hE hb1 H0
        rw [HP.out]
        have c2 := hE1.c2
        have ho := hE1.op hl
        go_wp2
        go_ret
        exact ⟨rfl, H1.out⟩
    · rw [okev, hp, decide_eq_false t0]
      have HP : Hid _ := hp
      clear hp
      go_enter Tryz.func18, Tryz.ntmps18
      go_wp2_with (refine load_ev rfl rfl rfl hE hl ?_)
      refine (rightplace_any e hl _).mono ?_
      rintro e1 w1 ⟨rfl, hb1⟩
      have hE1 := hE.below hb1 hE.lt
      have H1 : Hid (Below w.heap.size w w1) := H0.out.trans (hb1.mono H0.out.size)
      clear hE hb1 H0
      rw [HP.out]
      have c2 := hE1.c2
      go_wp2
      go_ret
      exact ⟨rfl, H1.out⟩
  · rw [okev_place hp]
    have HP : Hid _ := hp
    clear hp
    go_enter Tryz.func18, Tryz.ntmps18
    go_wp2_with (refine load_ev rfl rfl rfl hE hl ?_)
    refine (rightplace_any e hl _).mono ?_
    rintro e1 w1 ⟨rfl, hb1⟩
    have H1 : Hid (Below w.heap.size w w1) := H0.out.trans (hb1.mono H0.out.size)
    clear hE hb1 H0
    rw [HP.out]
    go_wp2
    go_ret
    exact ⟨rfl, H1.out⟩
end Go.Proofs.YtmlfekbmbnfkjabGreatDoor

/-
  What vec.Join and vec.Meet come to: the greater, the smaller one of each number.
-/
namespace Go.Proofs.YtmlfekbmbnfkjabGreatDoor
set_option maxRecDepth 100000
open Go.RowKit

/-- Number by number. -/
def each (f : Int → Int → Int) (a b : List Int) : List Int := List.zipWith f a b
theorem each_length (f : Int → Int → Int) (a b : List Int) (la : a.length = 16) (lb : b.length = 16) : (each f a b).length = 16 := by
  rw [each, List.length_zipWith]; omega
/-- What the loop has laid behind k rounds. -/
def mixed (f : Int → Int → Int) (a b : List Int) (k : Nat) : List Int := (each f a b).take k ++ a.drop k
theorem mixed_zero (f : Int → Int → Int) (a b : List Int) : mixed f a b 0 = a := by simp [mixed]
theorem mixed_end (f : Int → Int → Int) (a b : List Int) (la : a.length = 16) (lb : b.length = 16) : mixed f a b 16 = each f a b := by
  have := each_length f a b la lb
  rw [mixed, List.take_of_length_le (by omega), List.drop_of_length_le (by omega), List.append_nil]
theorem mixed_length (f : Int → Int → Int) (a b : List Int) (k : Nat) (la : a.length = 16) (lb : b.length = 16) (hk : k ≤ 16) : (mixed f a b k).length = 16 := by
  have := each_length f a b la lb
  rw [mixed, List.length_append, List.length_take, List.length_drop]; omega
theorem mixed_get (f : Int → Int → Int) (a b : List Int) (k : Nat) (la : a.length = 16) (lb : b.length = 16) (hk : k < 16) : (mixed f a b k).getD k 0 = a.getD k 0 := by
  have := each_length f a b la lb
  rw [mixed, List.getD, List.getElem?_append_right (by rw [List.length_take]; omega), List.length_take, List.getElem?_drop, List.getD]
  congr 2
  omega
theorem mixed_step (f : Int → Int → Int) (a b : List Int) (k : Nat) (la : a.length = 16) (lb : b.length = 16) (hk : k < 16) :
    (mixed f a b k).set k (f (a.getD k 0) (b.getD k 0)) = mixed f a b (k + 1) := by
  have h := each_length f a b la lb
  have hka : k < a.length := by omega
  have hkb : k < b.length := by omega
  have hl : ((each f a b).take k).length = k := by rw [List.length_take]; omega
  have hg : (each f a b)[k]? = some (f (a.getD k 0) (b.getD k 0)) := by
    rw [each, List.getElem?_zipWith, List.getElem?_eq_getElem hka, List.getElem?_eq_getElem hkb]
    simp [List.getD, hka, hkb]
  have hd : (a.drop k).set 0 (f (a.getD k 0) (b.getD k 0)) = f (a.getD k 0) (b.getD k 0) :: a.drop (k + 1) := by
    rw [List.drop_eq_getElem_cons hka, List.set_cons_zero]
  rw [mixed, mixed, List.set_append_right _ _ (by omega), hl, Nat.sub_self, List.take_add_one, hg, hd]
  simp

theorem if_max (x y : Int) : (if x < y then y else x) = max x y := by
  split <;> omega
set_option maxHeartbeats 400000 in
theorem join_any (a b : List Int) (la : a.length = 16) (lb : b.length = 16) (w : World) :
    Calls Tryz.prog 33 #[.agg (vals a), .agg (vals b)] w fun e w' => e = .returned (.agg (vals (each max a b))) ∧ Below w.heap.size w w' := by
  have hA : Lies (((w.alloc (.cells (vals a) 41)).alloc (.cells (vals b) 41)).alloc (.cells (vals zeros) 41)) w.heap.size a := ((lies_new w a).alloc _).alloc _
  have hB : Lies (((w.alloc (.cells (vals a) 41)).alloc (.cells (vals b) 41)).alloc (.cells (vals zeros) 41)) (w.heap.size + 1) b := by
    have := (lies_new (w.alloc (.cells (vals a) 41)) b).alloc (.cells (vals zeros) 41)
    simpa using this
  have hZ : Lies (((w.alloc (.cells (vals a) 41)).alloc (.cells (vals b) 41)).alloc (.cells (vals zeros) 41)) (w.heap.size + 1 + 1) zeros := by
    have := lies_new ((w.alloc (.cells (vals a) 41)).alloc (.cells (vals b) 41)) zeros
    simpa using this
  go_enter Tryz.func33, Tryz.ntmps33
  go_wp2_with (refine load_vec rfl rfl rfl hB lb ?_)
  go_loopw [8] (fun i wr => ∃ k : Nat, k ≤ 16 ∧ i = .int .i64 (k : Int) ∧ Lies wr w.heap.size (mixed max a b k) ∧ Lies wr (w.heap.size + 1 + 1) zeros ∧ Below w.heap.size w wr) (fun i _ => 16 - (intOf i).toNat)
  case atStart =>
    refine ⟨0, by omega, rfl, ?_, hZ, (((Below.refl _ _).alloc (Nat.le_refl _) _).alloc (by simp) _).alloc (by simp; omega) _⟩
    rw [mixed_zero]
    exact hA
  case round =>
    obtain ⟨k, hk, rfl, hM, hZ', hb⟩ := hrel
    by_cases h : k < 16
    · have hc := hM.cell (k := k) (by rw [mixed_length max a b k la lb hk]; exact h)
      rw [mixed_get max a b k la lb h] at hc
      have hf := hM.frozen (k := k)
      have hi := run_index_vec wr b k lb h
      have hia := run_indexAt_vec wr w.heap.size k h
      have Hs : Hid _ := hM.set (k := k) (max (a.getD k 0) (b.getD k 0))
      rw [mixed_step max a b k la lb h] at Hs
      have Hz : Hid _ := hZ'.other (ad := ⟨w.heap.size, k, none⟩) (.int .i64 (max (a.getD k 0) (b.getD k 0))) (by simp; omega)
      generalize a.getD k 0 = x at *
      generalize b.getD k 0 = y at *
      go_wp2
      go_roundw
      case rel => first | (rw [if_max]; exact ⟨k + 1, by omega, by go_num, Hs.out, Hz.out, hb.setCell (Nat.le_refl _) _⟩) | exact ⟨k + 1, by omega, by go_num, Hs.out, Hz.out, hb.setCell (Nat.le_refl _) _⟩
      case measure => simp [intOf]; omega
    · obtain rfl : k = 16 := by omega
      rw [mixed_end max a b la lb] at hM
      go_wp2_with (first | refine load_vec rfl rfl rfl hM (each_length max a b la lb) ?_ | refine store_vec rfl rfl rfl rfl hZ' (each_length max a b la lb) rfl ?_)
      exact ret_vec rfl rfl rfl (hZ'.row _) (each_length max a b la lb) ⟨rfl, below_setRow hb (by omega) _⟩

end Go.Proofs.YtmlfekbmbnfkjabGreatDoor

