/-
  What aimOf, aimAt, covers and greatest come to.
-/
import Derived.Test.YtagjgamigldjnaaLam
namespace Go.Proofs.Ytagjgamigldjnaa
set_option maxRecDepth 100000
open Go.RowKit

theorem zaim_cells : amc zaim = #[.string ⟨#[]⟩, .int .i64 0, .string ⟨#[]⟩, .int .i64 0, .int .i64 0] := rfl
theorem boxedOM (w : World) (e : Ev) :
    LiesO ((w.alloc (.cells (opc e) 39)).alloc (.cells (amc zaim) 78)) w.heap.size e ∧
    LiesM ((w.alloc (.cells (opc e) 39)).alloc (.cells (amc zaim) 78)) (w.heap.size + 1) zaim ∧
    Below w.heap.size w ((w.alloc (.cells (opc e) 39)).alloc (.cells (amc zaim) 78)) := by
  refine ⟨(liesO_new w e).alloc _, ?_, ((Below.refl _ _).alloc (Nat.le_refl _) _).alloc (by simp) _⟩
  have := liesM_new (w.alloc (.cells (opc e) 39)) zaim
  simpa using this

set_option maxHeartbeats 1000000 in
theorem aimof_any (e : Ev) (w : World) : Calls Try.prog 49 #[.agg (opc e)] w fun e' w' => e' = .returned (.tuple #[.agg (amc (aimP e).1), .bool (aimP e).2]) ∧ Below w.heap.size w w' := by
  obtain ⟨hO, hM, hB⟩ := boxedOM w e
  have c0 := hO.c0
  have c1 := hO.c1
  have c2 := hO.c2
  have hr := hO.ref
  rw [zaim_cells] at c0 c1 c2
  have HB : Hid (Below w.heap.size w ((w.alloc (.cells (opc e) 39)).alloc (.cells (amc zaim) 78))) := hB
  clear hO hB
  by_cases k11 : e.kind = 11
  · have HP : Hid (aimP e = (wholeE e.key, true)) := by show _ = _; unfold aimP; rw [if_pos k11]
    go_enter Try.func49, Try.ntmps49
    go_wp2_with fail
    refine (whole_any _ _).mono ?_
    rintro e' w1 ⟨rfl, hb1⟩
    have hM1 := hM.below hb1 (by simp)
    have HB1 : Hid (Below w.heap.size w w1) := HB.out.trans (hb1.mono HB.out.size)
    clear hb1 hM c0 c1 c2 hr HB
    go_wp2_with (refine store_am (x := wholeE e.key) rfl rfl rfl rfl hM1 ?_)
    refine ret_am2 rfl rfl rfl rfl (hM1.row _) ?_
    exact ⟨by rw [HP.out]; rfl, below_setRow HB1.out (by omega) _⟩
  · have n11 : (e.kind == 11) = false := by simpa using k11
    by_cases k1 : e.kind = 1
    · have HP : Hid (aimP e = (⟨e.key, 1, [], 0, 0⟩, true)) := by show _ = _; unfold aimP; rw [if_neg k11, if_pos k1]
      go_enter Try.func49, Try.ntmps49
      go_wp2_with (refine store_am (x := ⟨e.key, 1, [], 0, 0⟩) rfl rfl rfl rfl hM ?_)
      refine ret_am2 rfl rfl rfl rfl (hM.row _) ?_
      exact ⟨by rw [HP.out]; rfl, below_setRow HB.out (by omega) _⟩
    · have n1 : (e.kind == 1) = false := by simpa using k1
      by_cases k3 : e.kind = 3 ∨ e.kind = 4
      · have HP : Hid (aimP e = (⟨e.key, 3, e.field, 0, 0⟩, true)) := by show _ = _; unfold aimP; rw [if_neg k11, if_neg k1, if_pos k3]
        rcases k3 with k3 | k3
        · go_enter Try.func49, Try.ntmps49
          go_wp2_with (refine store_am (x := ⟨e.key, 3, e.field, 0, 0⟩) rfl rfl rfl rfl hM ?_)
          refine ret_am2 rfl rfl rfl rfl (hM.row _) ?_
          exact ⟨by rw [HP.out]; rfl, below_setRow HB.out (by omega) _⟩
        · go_enter Try.func49, Try.ntmps49
          go_wp2_with (refine store_am (x := ⟨e.key, 3, e.field, 0, 0⟩) rfl rfl rfl rfl hM ?_)
          refine ret_am2 rfl rfl rfl rfl (hM.row _) ?_
          exact ⟨by rw [HP.out]; rfl, below_setRow HB.out (by omega) _⟩
      · have n3 : (e.kind == 3) = false := by simp only [not_or] at k3; simpa using k3.1
        have n4 : (e.kind == 4) = false := by simp only [not_or] at k3; simpa using k3.2
        by_cases k5 : e.kind = 5 ∨ e.kind = 6
        · have HP : Hid (aimP e = (⟨e.key, 5, e.field, 0, 0⟩, true)) := by show _ = _; unfold aimP; rw [if_neg k11, if_neg k1, if_neg k3, if_pos k5]
          clear k3
          rcases k5 with k5 | k5
          · go_enter Try.func49, Try.ntmps49
            go_wp2_with (refine store_am (x := ⟨e.key, 5, e.field, 0, 0⟩) rfl rfl rfl rfl hM ?_)
            refine ret_am2 rfl rfl rfl rfl (hM.row _) ?_
            exact ⟨by rw [HP.out]; rfl, below_setRow HB.out (by omega) _⟩
          · go_enter Try.func49, Try.ntmps49
            go_wp2_with (refine store_am (x := ⟨e.key, 5, e.field, 0, 0⟩) rfl rfl rfl rfl hM ?_)
            refine ret_am2 rfl rfl rfl rfl (hM.row _) ?_
            exact ⟨by rw [HP.out]; rfl, below_setRow HB.out (by omega) _⟩
        · have n5 : (e.kind == 5) = false := by simp only [not_or] at k5; simpa using k5.1
          have n6 : (e.kind == 6) = false := by simp only [not_or] at k5; simpa using k5.2
          by_cases k7 : e.kind = 7 ∨ e.kind = 8
          · have HP : Hid (aimP e = (⟨e.key, 7, e.field, 0, 0⟩, true)) := by show _ = _; unfold aimP; rw [if_neg k11, if_neg k1, if_neg k3, if_neg k5, if_pos k7]
            clear k3 k5
            rcases k7 with k7 | k7
            · go_enter Try.func49, Try.ntmps49
              go_wp2_with (refine store_am (x := ⟨e.key, 7, e.field, 0, 0⟩) rfl rfl rfl rfl hM ?_)
              refine ret_am2 rfl rfl rfl rfl (hM.row _) ?_
              exact ⟨by rw [HP.out]; rfl, below_setRow HB.out (by omega) _⟩
            · go_enter Try.func49, Try.ntmps49
              go_wp2_with (refine store_am (x := ⟨e.key, 7, e.field, 0, 0⟩) rfl rfl rfl rfl hM ?_)
              refine ret_am2 rfl rfl rfl rfl (hM.row _) ?_
              exact ⟨by rw [HP.out]; rfl, below_setRow HB.out (by omega) _⟩
          · have n7 : (e.kind == 7) = false := by simp only [not_or] at k7; simpa using k7.1
            have n8 : (e.kind == 8) = false := by simp only [not_or] at k7; simpa using k7.2
            by_cases k10 : e.kind = 10
            · have HP : Hid (aimP e = (⟨e.key, 9, [], e.rr, e.rn⟩, true)) := by show _ = _; unfold aimP; rw [if_neg k11, if_neg k1, if_neg k3, if_neg k5, if_neg k7, if_pos k10]
              clear k3 k5 k7
              have hds : (dotc e.rr e.rn).size = 2 := rfl
              go_enter Try.func49, Try.ntmps49
              go_wp2_with (first | refine load_dot_at rfl rfl rfl hr ?_ | refine store_am (x := ⟨e.key, 9, [], e.rr, e.rn⟩) rfl rfl rfl rfl hM ?_)
              refine ret_am2 rfl rfl rfl rfl (hM.row _) ?_
              exact ⟨by rw [HP.out]; rfl, below_setRow HB.out (by omega) _⟩
            · have n10 : (e.kind == 10) = false := by simpa using k10
              have HP : Hid (aimP e = (zaim, false)) := by show _ = _; unfold aimP; rw [if_neg k11, if_neg k1, if_neg k3, if_neg k5, if_neg k7, if_neg k10]
              clear k3 k5 k7
              go_enter Try.func49, Try.ntmps49
              go_wp2_with (refine store_am (x := zaim) rfl rfl rfl rfl hM ?_)
              refine ret_am2 rfl rfl rfl rfl (hM.row _) ?_
              exact ⟨by rw [HP.out]; rfl, below_setRow HB.out (by omega) _⟩

end Go.Proofs.Ytagjgamigldjnaa
