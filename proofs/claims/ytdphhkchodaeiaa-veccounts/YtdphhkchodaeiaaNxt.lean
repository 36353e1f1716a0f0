/-
  What vec.Next and the reference's Next come to.
-/
import Derived.Test.YtdphhkchodaeiaaHas
import Derived.Test.YtdphhkchodaeiaaRgt
namespace Go.Proofs.Ytdphhkchodaeiaa
open Go.RowKit

/-- A replica's next dot, and the error. -/
def nextN (v : List Int) (r : Int) : Int := if fine v && isrep r && decide (v.getD r.toNat 0 ≠ 1048576) then v.getD r.toNat 0 + 1 else 0
def nextR (v : List Int) (r : Int) : Int := if fine v && isrep r && decide (v.getD r.toNat 0 ≠ 1048576) then r else 0
def nextE (v : List Int) (r : Int) : Int := if fine v && isrep r then (if v.getD r.toNat 0 = 1048576 then 6 else 0) else 1

set_option maxHeartbeats 1000000 in
theorem next_any (v : List Int) (r : Int) (hv : v.length = 16) (w : World) :
    Calls Try.prog 10 #[.agg (vals v), .int .i64 r] w fun e w' => e = .returned (.tuple #[.agg (dotc (nextR v r) (nextN v r)), .int .i64 (nextE v r)]) ∧ Below w.heap.size w w' := by
  obtain ⟨hV, hZ, hb0⟩ := boxedVD w v 0 0
  have H0 : Hid (Below w.heap.size w ((w.alloc (.cells (vals v) 23)).alloc (.cells (dotc 0 0) 25))) := hb0
  clear hb0
  rcases Bool.eq_false_or_eq_true (fine v) with hf | hf
  · rcases Bool.eq_false_or_eq_true (isrep r) with hr | hr
    · obtain ⟨r0, r1⟩ := of_decide_eq_true hr
      obtain ⟨k, rfl⟩ : ∃ k : Nat, r = (k : Int) := ⟨r.toNat, by omega⟩
      have hk : k < 16 := by omega
      obtain ⟨f0, f1⟩ := fine_get v k hv hk hf
      by_cases hm : v.getD k 0 = 1048576
      · have e1 : nextR v (k : Int) = 0 := by rw [nextR, Int.toNat_natCast, hm]; simp
        have e2 : nextN v (k : Int) = 0 := by rw [nextN, Int.toNat_natCast, hm]; simp
        have e3 : nextE v (k : Int) = 6 := by rw [nextE, Int.toNat_natCast, hm, hf, hr]; simp
        rw [e1, e2, e3]
        clear e1 e2 e3
        obtain ⟨x, Hx⟩ : ∃ x, Hid (v.getD k 0 = x) := ⟨_, rfl⟩
        have hx := Hx.out
        try rw [hx]
        rw [hx] at hm f0 f1
        clear hx
        go_enter Try.func10, Try.ntmps10
        go_wp2_with (refine load_vec rfl rfl rfl hV hv ?_)
        refine (right_any v hv _).mono ?_
        rintro e w1 ⟨rfl, hb1⟩
        have hV1 := hV.below hb1 hV.lt
        have hZ1 := hZ.below hb1 hZ.lt
        have H1 : Hid (Below w.heap.size w w1) := H0.out.trans (hb1.mono H0.out.size)
        have hc := hV1.cell (k := k) (by omega)
        have hi := run_indexAt_vec w1 w.heap.size k hk
        clear hV hZ hb1 H0
        rw [Hx.out, hm] at hc
        clear hm f0 f1
        rw [hf]
        go_wp2_with fail
        refine (isreplica_any (k : Int) _).mono ?_
        rintro e w2 ⟨rfl, hw⟩
        obtain rfl := hw.symm
        rw [hr]
        go_wp2_with (refine store_dot rfl rfl rfl rfl hZ1 ?_)
        exact ret_dot2 rfl rfl rfl rfl (hZ1.row 0 0) ⟨rfl, below_setRow H1.out (by omega) _⟩
      · have e1 : nextR v (k : Int) = (k : Int) := by rw [nextR, Int.toNat_natCast, hf, hr, decide_eq_true hm]; rfl
        have e2 : nextN v (k : Int) = v.getD k 0 + 1 := by rw [nextN, Int.toNat_natCast, hf, hr, decide_eq_true hm]; rfl
        have e3 : nextE v (k : Int) = 0 := by rw [nextE, Int.toNat_natCast, if_neg hm, hf, hr]; rfl
        rw [e1, e2, e3]
        clear e1 e2 e3
        obtain ⟨x, Hx⟩ : ∃ x, Hid (v.getD k 0 = x) := ⟨_, rfl⟩
        have hx := Hx.out
        try rw [hx]
        rw [hx] at hm f0 f1
        clear hx
        go_enter Try.func10, Try.ntmps10
        go_wp2_with (refine load_vec rfl rfl rfl hV hv ?_)
        refine (right_any v hv _).mono ?_
        rintro e w1 ⟨rfl, hb1⟩
        have hV1 := hV.below hb1 hV.lt
        have hZ1 := hZ.below hb1 hZ.lt
        have H1 : Hid (Below w.heap.size w w1) := H0.out.trans (hb1.mono H0.out.size)
        have hc := hV1.cell (k := k) (by omega)
        have hi := run_indexAt_vec w1 w.heap.size k hk
        clear hV hZ hb1 H0
        rw [hf]
        rw [Hx.out] at hc
        go_wp2_with fail
        refine (isreplica_any (k : Int) _).mono ?_
        rintro e w2 ⟨rfl, hw⟩
        obtain rfl := hw.symm
        rw [hr]
        go_wp2_with (refine store_dot (r := (k : Int)) (n := x + 1) rfl rfl rfl rfl hZ1 ?_)
        exact ret_dot2 rfl rfl rfl rfl (hZ1.row (k : Int) (x + 1)) ⟨rfl, below_setRow H1.out (by omega) _⟩
    · have e1 : nextR v r = 0 := by rw [nextR, hr]; simp
      have e2 : nextN v r = 0 := by rw [nextN, hr]; simp
      have e3 : nextE v r = 1 := by rw [nextE, hr]; simp
      rw [e1, e2, e3]
      clear e1 e2 e3
      go_enter Try.func10, Try.ntmps10
      go_wp2_with (refine load_vec rfl rfl rfl hV hv ?_)
      refine (right_any v hv _).mono ?_
      rintro e w1 ⟨rfl, hb1⟩
      have hZ1 := hZ.below hb1 hZ.lt
      have H1 : Hid (Below w.heap.size w w1) := H0.out.trans (hb1.mono H0.out.size)
      clear hV hZ hb1 H0
      rw [hf]
      go_wp2_with fail
      refine (isreplica_any r _).mono ?_
      rintro e w2 ⟨rfl, hw⟩
      obtain rfl := hw.symm
      rw [hr]
      go_wp2_with (refine store_dot rfl rfl rfl rfl hZ1 ?_)
      exact ret_dot2 rfl rfl rfl rfl (hZ1.row 0 0) ⟨rfl, below_setRow H1.out (by omega) _⟩
  · have e1 : nextR v r = 0 := by rw [nextR, hf]; simp
    have e2 : nextN v r = 0 := by rw [nextN, hf]; simp
    have e3 : nextE v r = 1 := by rw [nextE, hf]; simp
    rw [e1, e2, e3]
    clear e1 e2 e3
    go_enter Try.func10, Try.ntmps10
    go_wp2_with (refine load_vec rfl rfl rfl hV hv ?_)
    refine (right_any v hv _).mono ?_
    rintro e w1 ⟨rfl, hb1⟩
    have hZ1 := hZ.below hb1 hZ.lt
    have H1 : Hid (Below w.heap.size w w1) := H0.out.trans (hb1.mono H0.out.size)
    clear hV hZ hb1 H0
    rw [hf]
    go_wp2_with (refine store_dot rfl rfl rfl rfl hZ1 ?_)
    exact ret_dot2 rfl rfl rfl rfl (hZ1.row 0 0) ⟨rfl, below_setRow H1.out (by omega) _⟩

set_option maxHeartbeats 1000000 in
theorem rnext_any (v : List Int) (r : Int) (hv : v.length = 16) (w : World) :
    Calls Try.prog 11 #[.agg (vals v), .int .i64 r] w fun e w' => e = .returned (.tuple #[.agg (dotc (nextR v r) (nextN v r)), .int .i64 (nextE v r)]) ∧ Below w.heap.size w w' := by
  obtain ⟨hV, hZ, hb0⟩ := boxedVD w v 0 0
  have H0 : Hid (Below w.heap.size w ((w.alloc (.cells (vals v) 23)).alloc (.cells (dotc 0 0) 25))) := hb0
  clear hb0
  rcases Bool.eq_false_or_eq_true (fine v) with hf | hf
  · rcases Bool.eq_false_or_eq_true (isrep r) with hr | hr
    · obtain ⟨r0, r1⟩ := of_decide_eq_true hr
      obtain ⟨k, rfl⟩ : ∃ k : Nat, r = (k : Int) := ⟨r.toNat, by omega⟩
      have hk : k < 16 := by omega
      obtain ⟨f0, f1⟩ := fine_get v k hv hk hf
      by_cases hm : v.getD k 0 = 1048576
      · have e1 : nextR v (k : Int) = 0 := by rw [nextR, Int.toNat_natCast, hm]; simp
        have e2 : nextN v (k : Int) = 0 := by rw [nextN, Int.toNat_natCast, hm]; simp
        have e3 : nextE v (k : Int) = 6 := by rw [nextE, Int.toNat_natCast, hm, hf, hr]; simp
        rw [e1, e2, e3]
        clear e1 e2 e3
        obtain ⟨x, Hx⟩ : ∃ x, Hid (v.getD k 0 = x) := ⟨_, rfl⟩
        have hx := Hx.out
        try rw [hx]
        rw [hx] at hm f0 f1
        clear hx
        go_enter Try.func11, Try.ntmps11
        go_wp2_with (refine load_vec rfl rfl rfl hV hv ?_)
        refine (rright_any v hv _).mono ?_
        rintro e w1 ⟨rfl, hb1⟩
        have hV1 := hV.below hb1 hV.lt
        have hZ1 := hZ.below hb1 hZ.lt
        have H1 : Hid (Below w.heap.size w w1) := H0.out.trans (hb1.mono H0.out.size)
        have hc := hV1.cell (k := k) (by omega)
        have hi := run_indexAt_vec w1 w.heap.size k hk
        clear hV hZ hb1 H0
        rw [Hx.out, hm] at hc
        clear hm f0 f1
        rw [hf]
        go_wp2_with (refine store_dot rfl rfl rfl rfl hZ1 ?_)
        exact ret_dot2 rfl rfl rfl rfl (hZ1.row 0 0) ⟨rfl, below_setRow H1.out (by omega) _⟩
      · have e1 : nextR v (k : Int) = (k : Int) := by rw [nextR, Int.toNat_natCast, hf, hr, decide_eq_true hm]; rfl
        have e2 : nextN v (k : Int) = v.getD k 0 + 1 := by rw [nextN, Int.toNat_natCast, hf, hr, decide_eq_true hm]; rfl
        have e3 : nextE v (k : Int) = 0 := by rw [nextE, Int.toNat_natCast, if_neg hm, hf, hr]; rfl
        rw [e1, e2, e3]
        clear e1 e2 e3
        obtain ⟨x, Hx⟩ : ∃ x, Hid (v.getD k 0 = x) := ⟨_, rfl⟩
        have hx := Hx.out
        try rw [hx]
        rw [hx] at hm f0 f1
        clear hx
        go_enter Try.func11, Try.ntmps11
        go_wp2_with (refine load_vec rfl rfl rfl hV hv ?_)
        refine (rright_any v hv _).mono ?_
        rintro e w1 ⟨rfl, hb1⟩
        have hV1 := hV.below hb1 hV.lt
        have hZ1 := hZ.below hb1 hZ.lt
        have H1 : Hid (Below w.heap.size w w1) := H0.out.trans (hb1.mono H0.out.size)
        have hc := hV1.cell (k := k) (by omega)
        have hi := run_indexAt_vec w1 w.heap.size k hk
        clear hV hZ hb1 H0
        rw [hf]
        rw [Hx.out] at hc
        go_wp2_with (refine store_dot (r := (k : Int)) (n := x + 1) rfl rfl rfl rfl hZ1 ?_)
        exact ret_dot2 rfl rfl rfl rfl (hZ1.row (k : Int) (x + 1)) ⟨rfl, below_setRow H1.out (by omega) _⟩
    · have e1 : nextR v r = 0 := by rw [nextR, hr]; simp
      have e2 : nextN v r = 0 := by rw [nextN, hr]; simp
      have e3 : nextE v r = 1 := by rw [nextE, hr]; simp
      rw [e1, e2, e3]
      clear e1 e2 e3
      have hr' := of_decide_eq_false hr
      by_cases hneg : r < 0
      · go_enter Try.func11, Try.ntmps11
        go_wp2_with (refine load_vec rfl rfl rfl hV hv ?_)
        refine (rright_any v hv _).mono ?_
        rintro e w1 ⟨rfl, hb1⟩
        have hZ1 := hZ.below hb1 hZ.lt
        have H1 : Hid (Below w.heap.size w w1) := H0.out.trans (hb1.mono H0.out.size)
        clear hV hZ hb1 H0
        rw [hf]
        go_wp2_with (refine store_dot rfl rfl rfl rfl hZ1 ?_)
        exact ret_dot2 rfl rfl rfl rfl (hZ1.row 0 0) ⟨rfl, below_setRow H1.out (by omega) _⟩
      · have hbig : 15 < r := by omega
        go_enter Try.func11, Try.ntmps11
        go_wp2_with (refine load_vec rfl rfl rfl hV hv ?_)
        refine (rright_any v hv _).mono ?_
        rintro e w1 ⟨rfl, hb1⟩
        have hZ1 := hZ.below hb1 hZ.lt
        have H1 : Hid (Below w.heap.size w w1) := H0.out.trans (hb1.mono H0.out.size)
        clear hV hZ hb1 H0
        rw [hf]
        go_wp2_with (refine store_dot rfl rfl rfl rfl hZ1 ?_)
        exact ret_dot2 rfl rfl rfl rfl (hZ1.row 0 0) ⟨rfl, below_setRow H1.out (by omega) _⟩
  · have e1 : nextR v r = 0 := by rw [nextR, hf]; simp
    have e2 : nextN v r = 0 := by rw [nextN, hf]; simp
    have e3 : nextE v r = 1 := by rw [nextE, hf]; simp
    rw [e1, e2, e3]
    clear e1 e2 e3
    go_enter Try.func11, Try.ntmps11
    go_wp2_with (refine load_vec rfl rfl rfl hV hv ?_)
    refine (rright_any v hv _).mono ?_
    rintro e w1 ⟨rfl, hb1⟩
    have hZ1 := hZ.below hb1 hZ.lt
    have H1 : Hid (Below w.heap.size w w1) := H0.out.trans (hb1.mono H0.out.size)
    clear hV hZ hb1 H0
    rw [hf]
    go_wp2_with (refine store_dot rfl rfl rfl rfl hZ1 ?_)
    exact ret_dot2 rfl rfl rfl rfl (hZ1.row 0 0) ⟨rfl, below_setRow H1.out (by omega) _⟩
end Go.Proofs.Ytdphhkchodaeiaa
