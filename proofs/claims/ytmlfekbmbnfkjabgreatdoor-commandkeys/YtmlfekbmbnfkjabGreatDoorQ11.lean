/-
  What aimAt, covers and greatest come to.
-/
import Derived.Test.YtmlfekbmbnfkjabGreatDoorQ10
import Derived.Deep.Cut
namespace Go.Proofs.YtmlfekbmbnfkjabGreatDoor
set_option maxRecDepth 100000
set_option maxRecDepth 100000
open Go.RowKit

theorem boxedEM (w : World) (e : Ev) (x : Aim) :
    LiesE (((w.alloc (.cells (evc e) 47)).alloc (.cells (amc zaim) 127)).alloc (.cells (amc x) 127)) w.heap.size e ∧
    LiesM (((w.alloc (.cells (evc e) 47)).alloc (.cells (amc zaim) 127)).alloc (.cells (amc x) 127)) (w.heap.size + 1) zaim ∧
    LiesM (((w.alloc (.cells (evc e) 47)).alloc (.cells (amc zaim) 127)).alloc (.cells (amc x) 127)) (w.heap.size + 1 + 1) x ∧
    Below w.heap.size w (((w.alloc (.cells (evc e) 47)).alloc (.cells (amc zaim) 127)).alloc (.cells (amc x) 127)) := by
  refine ⟨((liesE_new w e).alloc _).alloc _, ?_, ?_, (((Below.refl _ _).alloc (Nat.le_refl _) _).alloc (by simp) _).alloc (by simp; omega) _⟩
  · have := (liesM_new (w.alloc (.cells (evc e) 47)) zaim).alloc (.cells (amc x) 127)
    simpa using this
  · have := liesM_new ((w.alloc (.cells (evc e) 47)).alloc (.cells (amc zaim) 127)) x
    simpa using this
theorem LiesE.c20 {w : World} {g : Nat} {e : Ev} (h : LiesE w g e) (hl : e.deps.length = 16) : w.cell? ⟨g, 20, none⟩ = some (.string (sb e.key)) := h.co hl 1
theorem LiesE.c21 {w : World} {g : Nat} {e : Ev} (h : LiesE w g e) (hl : e.deps.length = 16) : w.cell? ⟨g, 21, none⟩ = some (.string (sb e.field)) := h.co hl 2
theorem LiesM.cell {w : World} {g : Nat} {x : Aim} (h : LiesM w g x) (j : Nat) : w.cell? ⟨g, j, none⟩ = (aml x)[j]? := by
  rw [cell_of_row w g j _ _ _ h, amc, List.getElem?_toArray]
theorem LiesM.thereD {w : World} {g : Nat} {x : Aim} (h : LiesM w g x) : w.there g 3 2 := fun j hj => by
  refine ⟨?_, h.frozen⟩
  match j, hj with
  | 0, _ => rw [h.cell 3]; rfl
  | 1, _ => rw [h.cell 4]; rfl
theorem LiesM.other {w : World} {g : Nat} {x : Aim} (h : LiesM w g x) (ad : Addr) (v : Value) (hg : g ≠ ad.block) : LiesM (w.setCell ad v) g x := by
  rw [LiesM, heap_setCell_other w ad g v hg]; exact h
theorem store_dot_at {ops : Array Oper} {rest : List Oper} {o : Oper} {a : Act} {w : World} {Q : Exit → Act → World → Prop} {x y : Operand} {g k : Nat} {r n : Int} (hgd : o.guard = none) (ho : o.op = .store 32 x y)
    (hx : a.eval x = .pointer (some ⟨g, k, none⟩)) (hy : a.eval y = .agg (dotc r n)) (hg : w.there g k 2)
    (h : wpList Tryz.prog ops Q rest (a.put o.dst undef) (w.setCells g k (dotc r n).toList)) : wpList Tryz.prog ops Q (o :: rest) a w :=
  wpList_store_mid hgd 32 x y ho g k (dotc r n) hx hy hg (sizeD r n) (by simp [dotc, Value.oneCell']) h
set_option maxHeartbeats 1000000 in
theorem aimat_any (e : Ev) (hl : e.deps.length = 16) (w : World) : Calls Tryz.prog 103 #[.agg (evc e)] w fun e' w' => e' = .returned (.agg (amc (aimAtE e))) ∧ Below w.heap.size w w' := by
  obtain ⟨hE, hM, hX, hB⟩ := boxedEM w e zaim
  have E1 : LiesE ((w.alloc (.cells (evc e) 47)).alloc (.cells (amc zaim) 127)) w.heap.size e := (liesE_new w e).alloc _
  have d0 := E1.c19 hl
  have d1 := E1.c20 hl
  rw [zaim_cells] at d0 d1
  have X := hX.row ⟨e.key, e.kind, [], 0, 0⟩
  have hE2 := hE.rowOther (amc ⟨e.key, e.kind, [], 0, 0⟩) (g := w.heap.size + 1 + 1) (by omega)
  have hM2 := hM.rowOther (amc ⟨e.key, e.kind, [], 0, 0⟩) (g := w.heap.size + 1 + 1) (by omega)
  have hB2 := below_setRow hB (g := w.heap.size + 1 + 1) (by omega) (amc ⟨e.key, e.kind, [], 0, 0⟩)
  clear hE hM hB E1
  obtain ⟨W, hW⟩ : ∃ W, ((((w.alloc (.cells (evc e) 47)).alloc (.cells (amc zaim) 127)).alloc (.cells (amc zaim) 127)).setRow (w.heap.size + 1 + 1) (amc ⟨e.key, e.kind, [], 0, 0⟩)) = W := ⟨_, rfl⟩
  rw [hW] at X hE2 hM2 hB2
  have HB : Hid (Below w.heap.size w W) := hB2
  have e0 := hE2.c19 hl
  have e2 := hE2.c21 hl
  have hd := hE2.dot
  have x2 := X.cell 2
  have xf := X.frozen (k := 2)
  clear hB2
  go_enter Tryz.func103, Tryz.ntmps103
  have HX : Hid (LiesM W (w.heap.size + 1 + 1) ⟨e.key, e.kind, [], 0, 0⟩) := X
  have HM : Hid (LiesM W (w.heap.size + 1) zaim) := hM2
  have x2' : W.cell? ⟨w.heap.size + 1 + 1, 2, none⟩ = some (.string ⟨#[]⟩) := x2
  have xd := X.thereD
  clear x2 X hM2 hE2
  go_upto_region 2 with (refine store_am (x := ⟨e.key, e.kind, [], 0, 0⟩) rfl rfl rfl rfl hX ?_)
  change Code.wp _ _ _ _ ((((w.alloc (.cells (evc e) 47)).alloc (.cells (amc zaim) 127)).alloc (.cells (amc zaim) 127)).setRow (w.heap.size + 1 + 1) (amc ⟨e.key, e.kind, [], 0, 0⟩))
  rw [hW]
  clear hW hX d0 d1
  have one : ∀ W2 : World, LiesM W2 (w.heap.size + 1 + 1) (aimAtE e) → LiesM W2 (w.heap.size + 1) zaim → Below w.heap.size w W2 → LiesM (W2.setRow (w.heap.size + 1) (amc (aimAtE e))) (w.heap.size + 1) (aimAtE e) ∧ Below w.heap.size w (W2.setRow (w.heap.size + 1) (amc (aimAtE e))) :=
    fun W2 _ h2 h3 => ⟨h2.row _, below_setRow h3 (by omega) _⟩
  have ONE : Hid _ := one
  clear one
  by_cases k3 : e.kind = 3 ∨ e.kind = 5 ∨ e.kind = 7
  · have hA : aimAtE e = ⟨e.key, e.kind, e.field, 0, 0⟩ := by unfold aimAtE; rw [if_pos k3]
    have Y1 : LiesM (W.setCell ⟨w.heap.size + 1 + 1, 2, none⟩ (.string (sb e.field))) (w.heap.size + 1 + 1) (aimAtE e) := by rw [hA]; exact HX.out.setF e.field
    have Y2 : LiesM (W.setCell ⟨w.heap.size + 1 + 1, 2, none⟩ (.string (sb e.field))) (w.heap.size + 1) zaim := HM.out.other _ _ (by simp)
    obtain ⟨Z1, Z2⟩ := ONE.out _ Y1 Y2 (HB.out.setCell (show w.heap.size ≤ w.heap.size + 1 + 1 by omega) _)
    have HZ : Hid (Below w.heap.size w ((W.setCell ⟨w.heap.size + 1 + 1, 2, none⟩ (.string (sb e.field))).setRow (w.heap.size + 1) (amc (aimAtE e)))) := Z2
    clear Z2 hA HX HM HB
    rcases k3 with k3 | k3 | k3
    all_goals
      go_wp2_with (first | refine load_am rfl rfl rfl Y1 ?_ | refine store_am (x := aimAtE e) rfl rfl rfl rfl Y2 ?_)
      refine ret_am rfl rfl rfl Z1 ?_
      exact ⟨rfl, HZ.out⟩
  · have n3 : (e.kind == 3) = false := by simp only [not_or] at k3; simpa using k3.1
    have n5 : (e.kind == 5) = false := by simp only [not_or] at k3; simpa using k3.2.1
    have n7 : (e.kind == 7) = false := by simp only [not_or] at k3; simpa using k3.2.2
    by_cases k9 : e.kind = 9
    · have hA : aimAtE e = ⟨e.key, e.kind, [], e.r, e.n⟩ := by unfold aimAtE; rw [if_neg k3, if_pos k9]
      have Y1 : LiesM (W.setCells (w.heap.size + 1 + 1) 3 (dotc e.r e.n).toList) (w.heap.size + 1 + 1) (aimAtE e) := by rw [hA]; exact HX.out.setD e.r e.n
      have Y2 : LiesM (W.setCells (w.heap.size + 1 + 1) 3 (dotc e.r e.n).toList) (w.heap.size + 1) zaim := (HM.out.other _ _ (by simp)).other _ _ (by simp)
      obtain ⟨Z1, Z2⟩ := ONE.out _ Y1 Y2 ((HB.out.setCell (show w.heap.size ≤ w.heap.size + 1 + 1 by omega) _).setCell (show w.heap.size ≤ w.heap.size + 1 + 1 by omega) _)
      have HZ : Hid (Below w.heap.size w ((W.setCells (w.heap.size + 1 + 1) 3 (dotc e.r e.n).toList).setRow (w.heap.size + 1) (amc (aimAtE e)))) := Z2
      clear Z2 hA HX HM HB k3
      go_wp2_with (first | refine load_dot_at rfl rfl rfl hd ?_ | refine store_dot_at rfl rfl rfl rfl xd ?_ | refine load_am rfl rfl rfl Y1 ?_ | refine store_am (x := aimAtE e) rfl rfl rfl rfl Y2 ?_)
      refine ret_am rfl rfl rfl Z1 ?_
      exact ⟨rfl, HZ.out⟩
    · have n9 : (e.kind == 9) = false := by simpa using k9
      have hA : aimAtE e = ⟨e.key, e.kind, [], 0, 0⟩ := by unfold aimAtE; rw [if_neg k3, if_neg k9]
      have Y1 : LiesM W (w.heap.size + 1 + 1) (aimAtE e) := by rw [hA]; exact HX.out
      have Y2 : LiesM W (w.heap.size + 1) zaim := HM.out
      obtain ⟨Z1, Z2⟩ := ONE.out _ Y1 Y2 HB.out
      have HZ : Hid (Below w.heap.size w (W.setRow (w.heap.size + 1) (amc (aimAtE e)))) := Z2
      clear Z2 hA HX HM HB k3
      go_wp2_with (first | refine load_am rfl rfl rfl Y1 ?_ | refine store_am (x := aimAtE e) rfl rfl rfl rfl Y2 ?_)
      refine ret_am rfl rfl rfl Z1 ?_
      exact ⟨rfl, HZ.out⟩

/-- An event that has seen a vector. -/
def evv (v : List Int) : Ev := ⟨0, 0, 0, v, 0, [], [], [], 0, 0, 0⟩
theorem build_ev16 (x0 x1 x2 x3 x4 x5 x6 x7 x8 x9 x10 x11 x12 x13 x14 x15 : Int) (w : World) : (Instr.build 47 #[(2, .agg (vals [x0, x1, x2, x3, x4, x5, x6, x7, x8, x9, x10, x11, x12, x13, x14, x15]))]).run Tryz.prog w = .ok (.agg (evc (evv [x0, x1, x2, x3, x4, x5, x6, x7, x8, x9, x10, x11, x12, x13, x14, x15]))) w := by kernel_rfl
theorem build_ev (v : List Int) (hv : v.length = 16) (w : World) : (Instr.build 47 #[(2, .agg (vals v))]).run Tryz.prog w = .ok (.agg (evc (evv v))) w :=
  match v, hv with
  | [x0, x1, x2, x3, x4, x5, x6, x7, x8, x9, x10, x11, x12, x13, x14, x15], _ => build_ev16 x0 x1 x2 x3 x4 x5 x6 x7 x8 x9 x10 x11 x12 x13 x14 x15 w
theorem wp_build1 {ops : Array Oper} {rest : List Oper} {o : Oper} {a : Act} {w : World} {Q : Exit → Act → World → Prop} {x : Operand} {v : List Int} (hw : Region.wanted o (yielded ops a.tmps) = true) (ho : o.op = .build 47 #[(2, x)]) (hx : a.eval x = .agg (vals v)) (hv : v.length = 16)
    (h : wpList Tryz.prog ops Q rest (a.put o.dst (.agg (evc (evv v)))) w) : wpList Tryz.prog ops Q (o :: rest) a w :=
  wpList_step fun K hK => by
    rw [if_pos hw]
    have hr := build_ev v hv w
    unfold Oper.wp execOp
    simp only [ho, List.map_toArray, List.map_cons, List.map_nil, hx, Sem.run_bind, Sem.run_pure, Result.andThen_ok, hr]
    exact hK _ _ h
set_option maxHeartbeats 400000 in
theorem lcovers_any (v : List Int) (e : Ev) (hv : v.length = 16) (hl : e.deps.length = 16) (w : World) : Calls Tryz.prog 167 #[.agg (vals v), .agg (evc e)] w fun e' w' => e' = .returned (.bool (hasv v e.r e.n)) ∧ Below w.heap.size w w' := by
  have h1 : Lies ((w.alloc (.cells (vals v) 41)).alloc (.cells (evc e) 47)) w.heap.size v := (lies_new w v).alloc _
  have h2 : LiesE ((w.alloc (.cells (vals v) 41)).alloc (.cells (evc e) 47)) (w.heap.size + 1) e := by
    have := liesE_new (w.alloc (.cells (vals v) 41)) e
    simpa using this
  have HB : Hid (Below w.heap.size w ((w.alloc (.cells (vals v) 41)).alloc (.cells (evc e) 47))) := ((Below.refl _ _).alloc (Nat.le_refl _) _).alloc (by simp) _
  go_enter Tryz.func167, Tryz.ntmps167
  go_wp2_with (first | refine load_vec_w rfl rfl rfl h1 hv ?_ | refine wp_build1 rfl rfl rfl hv ?_ | refine load_ev rfl rfl rfl h2 hl ?_)
  refine (covers_any (evv v) e hv _).mono ?_
  rintro e' w1 ⟨rfl, hb1⟩
  have HB1 : Hid (Below w.heap.size w w1) := HB.out.trans (hb1.mono HB.out.size)
  clear h1 h2 hb1 HB
  go_wp2
  go_ret
  exact ⟨rfl, HB1.out⟩
end Go.Proofs.YtmlfekbmbnfkjabGreatDoor

