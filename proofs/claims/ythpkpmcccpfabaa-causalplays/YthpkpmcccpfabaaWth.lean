/-
  What vec.With and the reference's With come to.
-/
import Derived.Test.YthpkpmcccpfabaaHas
import Derived.Test.YthpkpmcccpfabaaRgt
import Derived.BigQuiet
namespace Go.Proofs.Ythpkpmcccpfabaa
set_option maxRecDepth 100000
open Go.RowKit

/-- A vector and one dot more, and the error. -/
def withV (v : List Int) (r n : Int) : List Int := if fine v && okdot r n && decide (n = v.getD r.toNat 0 + 1) then v.set r.toNat n else zeros
def withE (v : List Int) (r n : Int) : Int := if fine v && okdot r n then (if n = v.getD r.toNat 0 + 1 then 0 else 11) else 1
theorem withV_length (v : List Int) (r n : Int) (hv : v.length = 16) : (withV v r n).length = 16 := by
  unfold withV
  split
  · rw [List.length_set, hv]
  · rfl

theorem boxedVDZ (w : World) (v : List Int) (r n : Int) :
    Lies (((w.alloc (.cells (vals v) 40)).alloc (.cells (dotc r n) 38)).alloc (.cells (vals zeros) 40)) w.heap.size v ∧
    LiesD (((w.alloc (.cells (vals v) 40)).alloc (.cells (dotc r n) 38)).alloc (.cells (vals zeros) 40)) (w.heap.size + 1) r n ∧
    Lies (((w.alloc (.cells (vals v) 40)).alloc (.cells (dotc r n) 38)).alloc (.cells (vals zeros) 40)) (w.heap.size + 1 + 1) zeros ∧
    Below w.heap.size w (((w.alloc (.cells (vals v) 40)).alloc (.cells (dotc r n) 38)).alloc (.cells (vals zeros) 40)) := by
  refine ⟨((lies_new w v).alloc _).alloc _, ?_, ?_, (((Below.refl _ _).alloc (Nat.le_refl _) _).alloc (by simp) _).alloc (by simp; omega) _⟩
  · have := (liesD_new (w.alloc (.cells (vals v) 40)) r n).alloc (.cells (vals zeros) 40)
    simpa using this
  · have := lies_new ((w.alloc (.cells (vals v) 40)).alloc (.cells (dotc r n) 38)) zeros
    simpa using this

set_option maxHeartbeats 1000000 in
theorem with_any (v : List Int) (r n : Int) (hv : v.length = 16) (w : World) :
    Calls Try.prog 59 #[.agg (vals v), .agg (dotc r n)] w fun e w' => e = .returned (.tuple #[.agg (vals (withV v r n)), .int .i64 (withE v r n)]) ∧ Below w.heap.size w w' := by
  obtain ⟨hV, hD, hZ, hb0⟩ := boxedVDZ w v r n
  have H0 : Hid (Below w.heap.size w (((w.alloc (.cells (vals v) 40)).alloc (.cells (dotc r n) 38)).alloc (.cells (vals zeros) 40))) := hb0
  clear hb0
  rcases Bool.eq_false_or_eq_true (fine v) with hf | hf
  · rcases Bool.eq_false_or_eq_true (okdot r n) with hk | hk
    · obtain ⟨r0, r1, n0, n1⟩ := of_decide_eq_true hk
      obtain ⟨k, rfl⟩ : ∃ k : Nat, r = (k : Int) := ⟨r.toNat, by omega⟩
      have hk16 : k < 16 := by omega
      obtain ⟨f0, f1⟩ := fine_get v k hv hk16 hf
      by_cases hm : n = v.getD k 0 + 1
      · have e1 : withV v (k : Int) n = v.set k n := by rw [withV, Int.toNat_natCast, hf, hk, decide_eq_true hm]; rfl
        have e2 : withE v (k : Int) n = 0 := by rw [withE, Int.toNat_natCast, if_pos hm, hf, hk]; rfl
        rw [e1, e2]
        clear e1 e2
        obtain ⟨x, Hx⟩ : ∃ x, Hid (v.getD k 0 = x) := ⟨_, rfl⟩
        have hx := Hx.out
        rw [hx] at hm f0 f1
        clear hx
        have Hm : Hid (n = x + 1) := hm
        clear hm
        go_enter Try.func59, Try.ntmps59
        go_wp2_with (refine load_vec rfl rfl rfl hV hv ?_)
        refine (right_any v hv _).mono ?_
        rintro e w1 ⟨rfl, hb1⟩
        have hV1 := hV.below hb1 hV.lt
        have hD1 := hD.below hb1 hD.lt
        have hZ1 := hZ.below hb1 hZ.lt
        have H1 : Hid (Below w.heap.size w w1) := H0.out.trans (hb1.mono H0.out.size)
        clear hV hD hZ hb1 H0
        rw [hf]
        go_wp2_with (refine load_dot_w rfl rfl rfl hD1 ?_)
        refine (rightdot_any (k : Int) n _).mono ?_
        rintro e w2 ⟨rfl, hb2⟩
        have hV2 := hV1.below hb2 hV1.lt
        have hD2 := hD1.below hb2 hD1.lt
        have hZ2 := hZ1.below hb2 hZ1.lt
        have H2 : Hid (Below w.heap.size w w2) := H1.out.trans (hb2.mono H1.out.size)
        clear hV1 hD1 hZ1 hb2 H1
        rw [hk]
        have hc := hV2.cell (k := k) (by omega)
        rw [Hx.out] at hc
        have c0 := hD2.cell0
        have c1 := hD2.cell1
        have hfz := hV2.frozen (k := k)
        have hia := fun (W : World) (g : Nat) => run_indexAt_vec W g k hk16
        have hm : n = x + 1 := Hm.out
        have hVs : Hid _ := fun q : Nat => (hV2.drewN q).set (k := k) n
        have hZs : Hid _ := fun q : Nat => (hZ2.drewN q).other (ad := ⟨w.heap.size, k, none⟩) (.int .i64 n) (by simp; omega)
        clear hV2 hD2 hZ2
        go_wp2_with fail
        go_quiet (fail)
        clear hm
        go_wp2_with (first | refine load_vec rfl rfl rfl (hVs.out _) (by rw [List.length_set]; exact hv) ?_ | refine store_vec rfl rfl rfl rfl (hZs.out _) (by rw [List.length_set]; exact hv) rfl ?_)
        exact ret_vec2 rfl rfl rfl rfl ((hZs.out _).row _) (by rw [List.length_set]; exact hv) ⟨rfl, below_setRow ((Below.drewN H2.out _).setCell (Nat.le_refl _) _) (by omega) _⟩
      · have e1 : withV v (k : Int) n = zeros := by rw [withV, Int.toNat_natCast, hf, hk, decide_eq_false hm]; rfl
        have e2 : withE v (k : Int) n = 11 := by rw [withE, Int.toNat_natCast, if_neg hm, hf, hk]; rfl
        rw [e1, e2]
        clear e1 e2
        obtain ⟨x, Hx⟩ : ∃ x, Hid (v.getD k 0 = x) := ⟨_, rfl⟩
        have hx := Hx.out
        rw [hx] at hm f0 f1
        clear hx
        go_enter Try.func59, Try.ntmps59
        go_wp2_with (refine load_vec rfl rfl rfl hV hv ?_)
        refine (right_any v hv _).mono ?_
        rintro e w1 ⟨rfl, hb1⟩
        have hV1 := hV.below hb1 hV.lt
        have hD1 := hD.below hb1 hD.lt
        have hZ1 := hZ.below hb1 hZ.lt
        have H1 : Hid (Below w.heap.size w w1) := H0.out.trans (hb1.mono H0.out.size)
        clear hV hD hZ hb1 H0
        rw [hf]
        go_wp2_with (refine load_dot_w rfl rfl rfl hD1 ?_)
        refine (rightdot_any (k : Int) n _).mono ?_
        rintro e w2 ⟨rfl, hb2⟩
        have hV2 := hV1.below hb2 hV1.lt
        have hD2 := hD1.below hb2 hD1.lt
        have hZ2 := hZ1.below hb2 hZ1.lt
        have H2 : Hid (Below w.heap.size w w2) := H1.out.trans (hb2.mono H1.out.size)
        clear hV1 hD1 hZ1 hb2 H1
        rw [hk]
        have hc := hV2.cell (k := k) (by omega)
        rw [Hx.out] at hc
        have c0 := hD2.cell0
        have c1 := hD2.cell1
        have hia := fun (W : World) (g : Nat) => run_indexAt_vec W g k hk16
        have hZs : Hid _ := fun q : Nat => hZ2.drewN q
        clear hV2 hD2 hZ2
        go_wp2_with fail
        go_quiet (fail)
        go_wp2_with (refine store_vec (l := zeros) rfl rfl rfl rfl (hZs.out _) rfl rfl ?_)
        exact ret_vec2 rfl rfl rfl rfl ((hZs.out _).row zeros) rfl ⟨rfl, below_setRow (Below.drewN H2.out _) (by omega) _⟩
    · have e1 : withV v r n = zeros := by rw [withV, hf, hk]; rfl
      have e2 : withE v r n = 1 := by rw [withE, hf, hk]; rfl
      rw [e1, e2]
      clear e1 e2
      go_enter Try.func59, Try.ntmps59
      go_wp2_with (refine load_vec rfl rfl rfl hV hv ?_)
      refine (right_any v hv _).mono ?_
      rintro e w1 ⟨rfl, hb1⟩
      have hV1 := hV.below hb1 hV.lt
      have hD1 := hD.below hb1 hD.lt
      have hZ1 := hZ.below hb1 hZ.lt
      have H1 : Hid (Below w.heap.size w w1) := H0.out.trans (hb1.mono H0.out.size)
      clear hV hD hZ hb1 H0
      rw [hf]
      go_wp2_with (refine load_dot_w rfl rfl rfl hD1 ?_)
      refine (rightdot_any r n _).mono ?_
      rintro e w2 ⟨rfl, hb2⟩
      have hV2 := hV1.below hb2 hV1.lt
      have hD2 := hD1.below hb2 hD1.lt
      have hZ2 := hZ1.below hb2 hZ1.lt
      have H2 : Hid (Below w.heap.size w w2) := H1.out.trans (hb2.mono H1.out.size)
      clear hV1 hD1 hZ1 hb2 H1
      rw [hk]
      go_wp2_with (refine store_vec (l := zeros) rfl rfl rfl rfl hZ2 rfl rfl ?_)
      exact ret_vec2 rfl rfl rfl rfl (hZ2.row zeros) rfl ⟨rfl, below_setRow H2.out (by omega) _⟩
  · have e1 : withV v r n = zeros := by rw [withV, hf]; rfl
    have e2 : withE v r n = 1 := by rw [withE, hf]; rfl
    rw [e1, e2]
    clear e1 e2
    go_enter Try.func59, Try.ntmps59
    go_wp2_with (refine load_vec rfl rfl rfl hV hv ?_)
    refine (right_any v hv _).mono ?_
    rintro e w1 ⟨rfl, hb1⟩
    have hV1 := hV.below hb1 hV.lt
    have hD1 := hD.below hb1 hD.lt
    have hZ1 := hZ.below hb1 hZ.lt
    have H1 : Hid (Below w.heap.size w w1) := H0.out.trans (hb1.mono H0.out.size)
    clear hV hD hZ hb1 H0
    rw [hf]
    go_wp2_with (refine store_vec (l := zeros) rfl rfl rfl rfl hZ1 rfl rfl ?_)
    exact ret_vec2 rfl rfl rfl rfl (hZ1.row zeros) rfl ⟨rfl, below_setRow H1.out (by omega) _⟩

end Go.Proofs.Ythpkpmcccpfabaa
