/-
  Aims in memory: what an event ends, and what ends it; what wholeKey, aimOf, aimAt, covers and greatest come to.
-/
import Derived.Test.YtagjgamigldjnaaLpu
import Derived.Test.YtagjgamigldjnaaLev
import Derived.Deep.Cut
namespace Go.Proofs.Ytagjgamigldjnaa
set_option maxRecDepth 100000
open Go.RowKit

structure Aim where
  key : List UInt8
  kind : Int
  field : List UInt8
  r : Int
  n : Int
deriving DecidableEq
def wholeE (key : List UInt8) : Aim := ⟨key, 0, [], 0, 0⟩
def zaim : Aim := ⟨[], 0, [], 0, 0⟩
def aimP (e : Ev) : Aim × Bool :=
  if e.kind = 11 then (wholeE e.key, true) else if e.kind = 1 then (⟨e.key, 1, [], 0, 0⟩, true) else if e.kind = 3 ∨ e.kind = 4 then (⟨e.key, 3, e.field, 0, 0⟩, true)
  else if e.kind = 5 ∨ e.kind = 6 then (⟨e.key, 5, e.field, 0, 0⟩, true) else if e.kind = 7 ∨ e.kind = 8 then (⟨e.key, 7, e.field, 0, 0⟩, true)
  else if e.kind = 10 then (⟨e.key, 9, [], e.rr, e.rn⟩, true) else (zaim, false)
def aimAtE (e : Ev) : Aim := if e.kind = 3 ∨ e.kind = 5 ∨ e.kind = 7 then ⟨e.key, e.kind, e.field, 0, 0⟩ else if e.kind = 9 then ⟨e.key, e.kind, [], e.r, e.n⟩ else ⟨e.key, e.kind, [], 0, 0⟩
/-- What ends it, by aims. -/
def meets (b a : Ev) : Bool := (aimP b).2 && (decide ((aimP b).1 = wholeE a.key) || decide ((aimP b).1 = aimAtE a))
theorem ends_aim (b a : Ev) (h : addsE a.kind = true) : (coversE b a && meets b a) = endsE b a := by
  unfold endsE
  rw [h, Bool.true_and]
  congr 1
  unfold addsE at h
  rw [decide_eq_true_eq] at h
  unfold meets hits aimP aimAtE wholeE zaim
  rw [Bool.eq_iff_iff]
  simp only [Bool.and_eq_true, Bool.or_eq_true, decide_eq_true_eq]
  by_cases b11 : b.kind = 11
  · simp [b11]
    intro h1
    (repeat' split at h1) <;> simp_all
  by_cases b1 : b.kind = 1
  · rcases h with h | h | h | h | h | h <;> simp [b1, h]
  by_cases b3 : b.kind = 3 ∨ b.kind = 4
  · rcases b3 with b3 | b3 <;> rcases h with h | h | h | h | h | h <;> simp [b3, h]
  by_cases b5 : b.kind = 5 ∨ b.kind = 6
  · rcases b5 with b3 | b3 <;> rcases h with h | h | h | h | h | h <;> simp [b3, h]
  by_cases b7 : b.kind = 7 ∨ b.kind = 8
  · rcases b7 with b3 | b3 <;> rcases h with h | h | h | h | h | h <;> simp [b3, h]
  by_cases b10 : b.kind = 10
  · rcases h with h | h | h | h | h | h <;> simp [b10, h]
  · simp only [not_or] at b3 b5 b7
    simp [b11, b1, b3, b5, b7, b10]

/-- An aim's cells. -/
def aml (x : Aim) : List Value := [.string (sb x.key), .int .i64 x.kind, .string (sb x.field), .int .i64 x.r, .int .i64 x.n]
def amc (x : Aim) : Array Value := (aml x).toArray
def LiesM (w : World) (g : Nat) (x : Aim) : Prop := w.heap[g]? = some (.cells (amc x) 78 (0, 0))
theorem amc_one (x : Aim) : (amc x).all (·.oneCell') = true := by simp [amc, aml, Value.oneCell']
theorem sizeM (x : Aim) : (Try.prog.info? 78).map (·.size) = some (amc x).size := by
  show _ = some 5
  kernel_rfl
theorem LiesM.lt {w : World} {g : Nat} {x : Aim} (h : LiesM w g x) : g < w.heap.size := by
  rw [LiesM] at h
  exact (Array.getElem?_eq_some_iff.1 h).1
theorem LiesM.below {B g : Nat} {w w' : World} {x : Aim} (h : LiesM w g x) (hb : Below B w w') (hg : g < B) : LiesM w' g x := by
  rw [LiesM, hb.block g hg]; exact h
theorem LiesM.alloc {w : World} {g : Nat} {x : Aim} (h : LiesM w g x) (o : Obj) : LiesM (w.alloc o) g x := by
  rw [LiesM, Below.heap_alloc w o g h.lt]; exact h
theorem liesM_new (w : World) (x : Aim) : LiesM (w.alloc (.cells (amc x) 78)) w.heap.size x := heap_alloc_new w _
theorem LiesM.row {w : World} {g : Nat} {x' : Aim} (h : LiesM w g x') (x : Aim) : LiesM (w.setRow g (amc x)) g x := setRow_heap w g _ _ _ _ h
theorem LiesM.rowOther {w : World} {g k : Nat} {x : Aim} (h : LiesM w k x) (cs : Array Value) (hk : k ≠ g) : LiesM (w.setRow g cs) k x := by
  rw [LiesM, setRow_other w g k cs hk]; exact h
theorem LiesM.frozen {w : World} {g k : Nat} {x : Aim} (h : LiesM w g x) : w.frozen? ⟨g, k, none⟩ = false := frozen_of_row w g k _ _ h
theorem LiesM.drewN {w : World} {g : Nat} {x : Aim} (h : LiesM w g x) (n : Nat) : LiesM (w.drewN n) g x := h
theorem LiesM.setL {w : World} {g : Nat} {x : Aim} (h : LiesM w g x) (j : Nat) (v : Value) : (w.setCell ⟨g, j, none⟩ v).heap[g]? = some (.cells ((aml x).set j v).toArray 78 (0, 0)) := by
  rw [heap_setCell_same w g j _ _ _ h, amc, List.setIfInBounds_toArray]
theorem LiesM.setF {w : World} {g : Nat} {x : Aim} (h : LiesM w g x) (f : List UInt8) : LiesM (w.setCell ⟨g, 2, none⟩ (.string (sb f))) g { x with field := f } := h.setL 2 _
theorem LiesM.setR {w : World} {g : Nat} {x : Aim} (h : LiesM w g x) (r : Int) : LiesM (w.setCell ⟨g, 3, none⟩ (.int .i64 r)) g { x with r := r } := h.setL 3 _
theorem LiesM.setN {w : World} {g : Nat} {x : Aim} (h : LiesM w g x) (n : Int) : LiesM (w.setCell ⟨g, 4, none⟩ (.int .i64 n)) g { x with n := n } := h.setL 4 _
theorem LiesM.setD {w : World} {g : Nat} {x : Aim} (h : LiesM w g x) (r n : Int) : LiesM (w.setCells g 3 (dotc r n).toList) g { x with r := r, n := n } := (h.setR r).setN n
section
variable {ops : Array Oper} {rest : List Oper} {o : Oper} {a : Act} {w : World} {Q : Exit → Act → World → Prop} {p q : Operand} {g k : Nat} {x x' : Aim}
theorem load_am (hw : Region.wanted o (yielded ops a.tmps) = true) (ho : o.op = .load 78 p) (hx : a.eval p = .pointer (some ⟨g, 0, none⟩)) (hg : LiesM w g x)
    (h : wpList Try.prog ops Q rest (a.put o.dst (.agg (amc x))) w) : wpList Try.prog ops Q (o :: rest) a w :=
  wpList_step fun K hK => by
    rw [if_pos hw]
    exact wp_load_row 78 p ho g hx 78 _ (0, 0) _ hg Try.underlying78 rfl (sizeM x) (hK _ _ h)
theorem store_am (hgd : o.guard = none) (ho : o.op = .store 78 p q) (hx : a.eval p = .pointer (some ⟨g, 0, none⟩)) (hy : a.eval q = .agg (amc x)) (hg : LiesM w g x')
    (h : wpList Try.prog ops Q rest (a.put o.dst undef) (w.setRow g (amc x))) : wpList Try.prog ops Q (o :: rest) a w :=
  wpList_store_row hgd 78 p q ho g (amc x) hx hy 78 _ hg (sizeM x) rfl (amc_one x) h
end
theorem ret_am {fn : Func} {R : Ending → World → Prop} {a : Act} {w : World} {p : Tmp} {g : Nat} {x : Aim} (h : fn.results = #[.cell p 78]) (hp : a.tmps.getD p undef = .pointer (some ⟨g, 0, none⟩))
    (hd : a.defers = []) (hg : LiesM w g x) (hR : R (.returned (.agg (amc x))) w) : bodyPost Try.prog fn R .ret a w :=
  bodyPost_ret (results_cell_row h a.tmps w g 78 _ (0, 0) _ hp hg Try.underlying78 rfl (sizeM x)) hd hR
theorem ret_am2 {fn : Func} {R : Ending → World → Prop} {a : Act} {w : World} {p u : Tmp} {g : Nat} {x : Aim} {v : Value} (h : fn.results = #[.cell p 78, .tmp u]) (hp : a.tmps.getD p undef = .pointer (some ⟨g, 0, none⟩))
    (hu : a.tmps.getD u undef = v) (hd : a.defers = []) (hg : LiesM w g x) (hR : R (.returned (.tuple #[.agg (amc x), v])) w) : bodyPost Try.prog fn R .ret a w := by
  refine bodyPost_ret ?_ hd hR
  rw [results_cell_tmp h, hp, hu]
  simp only [asAddr, Sem.run_pure, Result.andThen_ok, run_loadVar_row w g 78 78 _ (0, 0) _ hg Try.underlying78 rfl (sizeM x)]

set_option maxHeartbeats 400000 in
theorem whole_any (key : List UInt8) (w : World) : Calls Try.prog 52 #[.string (sb key)] w fun e w' => e = .returned (.agg (amc (wholeE key))) ∧ Below w.heap.size w w' := by
  have h0 := liesM_new w zaim
  have h1 := h0.row (wholeE key)
  have HB : Hid (Below w.heap.size w ((w.alloc (.cells (amc zaim) 78)).setRow w.heap.size (amc (wholeE key)))) := below_setRow ((Below.refl _ _).alloc (Nat.le_refl _) _) (Nat.le_refl _) _
  go_enter Try.func52, Try.ntmps52
  go_wp2_with (refine store_am (x := wholeE key) rfl rfl rfl rfl h0 ?_)
  refine ret_am rfl rfl rfl h1 ?_
  exact ⟨rfl, HB.out⟩
end Go.Proofs.Ytagjgamigldjnaa

namespace Go.Proofs.Ytagjgamigldjnaa
set_option maxRecDepth 100000
open Go.RowKit

theorem zaim_cells : amc zaim = #[.string ⟨#[]⟩, .int .i64 0, .string ⟨#[]⟩, .int .i64 0, .int .i64 0] := rfl
theorem boxedOM (w : World) (e : Ev) :
    LiesO ((w.alloc (.cells (opc e) 39)).alloc (.cells (amc zaim) 78)) w.heap.size e ∧
    LiesM ((w.alloc (.cells (opc e) 39)).alloc (.cells (amc zaim) 78)) (w.heap.size + 1) zaim ∧
    Below w.heap.size w ((w.alloc (.cells (opc e) 39)).alloc (.cells (amc zaim) 78)) := by
  refine ⟨(liesO_new w e).alloc _, ?_, ((Below.refl _ _).alloc (Nat.le_refl _) _).alloc (by simp) _⟩
  have := liesM_new (w.alloc (.cells (opc e) 39)) zaim
  simpa using this

set_option maxHeartbeats 1000000 in
theorem aimof_any (e : Ev) (w : World) : Calls Try.prog 49 #[.agg (opc e)] w fun e' w' => e' = .returned (.tuple #[.agg (amc (aimP e).1), .bool (aimP e).2]) ∧ Below w.heap.size w w' := by
  obtain ⟨hO, hM, hB⟩ := boxedOM w e
  have c0 := hO.c0
  have c1 := hO.c1
  have c2 := hO.c2
  have hr := hO.ref
  rw [zaim_cells] at c0 c1 c2
  have HB : Hid (Below w.heap.size w ((w.alloc (.cells (opc e) 39)).alloc (.cells (amc zaim) 78))) := hB
  clear hO hB
  by_cases k11 : e.kind = 11
  · have HP : Hid (aimP e = (wholeE e.key, true)) := by show _ = _; unfold aimP; rw [if_pos k11]
    go_enter Try.func49, Try.ntmps49
    go_wp2_with fail
    refine (whole_any _ _).mono ?_
    rintro e' w1 ⟨rfl, hb1⟩
    have hM1 := hM.below hb1 (by simp)
    have HB1 : Hid (Below w.heap.size w w1) := HB.out.trans (hb1.mono HB.out.size)
    clear hb1 hM c0 c1 c2 hr HB
    go_wp2_with (refine store_am (x := wholeE e.key) rfl rfl rfl rfl hM1 ?_)
    refine ret_am2 rfl rfl rfl rfl (hM1.row _) ?_
    exact ⟨by rw [HP.out]; rfl, below_setRow HB1.out (by omega) _⟩
  · have n11 : (e.kind == 11) = false := by simpa using k11
    by_cases k1 : e.kind = 1
    · have HP : Hid (aimP e = (⟨e.key, 1, [], 0, 0⟩, true)) := by show _ = _; unfold aimP; rw [if_neg k11, if_pos k1]
      go_enter Try.func49, Try.ntmps49
      go_wp2_with (refine store_am (x := ⟨e.key, 1, [], 0, 0⟩) rfl rfl rfl rfl hM ?_)
      refine ret_am2 rfl rfl rfl rfl (hM.row _) ?_
      exact ⟨by rw [HP.out]; rfl, below_setRow HB.out (by omega) _⟩
    · have n1 : (e.kind == 1) = false := by simpa using k1
      by_cases k3 : e.kind = 3 ∨ e.kind = 4
      · have HP : Hid (aimP e = (⟨e.key, 3, e.field, 0, 0⟩, true)) := by show _ = _; unfold aimP; rw [if_neg k11, if_neg k1, if_pos k3]
        rcases k3 with k3 | k3
        · go_enter Try.func49, Try.ntmps49
          go_wp2_with (refine store_am (x := ⟨e.key, 3, e.field, 0, 0⟩) rfl rfl rfl rfl hM ?_)
          refine ret_am2 rfl rfl rfl rfl (hM.row _) ?_
          exact ⟨by rw [HP.out]; rfl, below_setRow HB.out (by omega) _⟩
        · go_enter Try.func49, Try.ntmps49
          go_wp2_with (refine store_am (x := ⟨e.key, 3, e.field, 0, 0⟩) rfl rfl rfl rfl hM ?_)
          refine ret_am2 rfl rfl rfl rfl (hM.row _) ?_
          exact ⟨by rw [HP.out]; rfl, below_setRow HB.out (by omega) _⟩
      · have n3 : (e.kind == 3) = false := by simp only [not_or] at k3; simpa using k3.1
        have n4 : (e.kind == 4) = false := by simp only [not_or] at k3; simpa using k3.2
        by_cases k5 : e.kind = 5 ∨ e.kind = 6
        · have HP : Hid (aimP e = (⟨e.key, 5, e.field, 0, 0⟩, true)) := by show _ = _; unfold aimP; rw [if_neg k11, if_neg k1, if_neg k3, if_pos k5]
          clear k3
          rcases k5 with k5 | k5
          · go_enter Try.func49, Try.ntmps49
            go_wp2_with (refine store_am (x := ⟨e.key, 5, e.field, 0, 0⟩) rfl rfl rfl rfl hM ?_)
            refine ret_am2 rfl rfl rfl rfl (hM.row _) ?_
            exact ⟨by rw [HP.out]; rfl, below_setRow HB.out (by omega) _⟩
          · go_enter Try.func49, Try.ntmps49
            go_wp2_with (refine store_am (x := ⟨e.key, 5, e.field, 0, 0⟩) rfl rfl rfl rfl hM ?_)
            refine ret_am2 rfl rfl rfl rfl (hM.row _) ?_
            exact ⟨by rw [HP.out]; rfl, below_setRow HB.out (by omega) _⟩
        · have n5 : (e.kind == 5) = false := by simp only [not_or] at k5; simpa using k5.1
          have n6 : (e.kind == 6) = false := by simp only [not_or] at k5; simpa using k5.2
          by_cases k7 : e.kind = 7 ∨ e.kind = 8
          · have HP : Hid (aimP e = (⟨e.key, 7, e.field, 0, 0⟩, true)) := by show _ = _; unfold aimP; rw [if_neg k11, if_neg k1, if_neg k3, if_neg k5, if_pos k7]
            clear k3 k5
            rcases k7 with k7 | k7
            · go_enter Try.func49, Try.ntmps49
              go_wp2_with (refine store_am (x := ⟨e.key, 7, e.field, 0, 0⟩) rfl rfl rfl rfl hM ?_)
              refine ret_am2 rfl rfl rfl rfl (hM.row _) ?_
              exact ⟨by rw [HP.out]; rfl, below_setRow HB.out (by omega) _⟩
            · go_enter Try.func49, Try.ntmps49
              go_wp2_with (refine store_am (x := ⟨e.key, 7, e.field, 0, 0⟩) rfl rfl rfl rfl hM ?_)
              refine ret_am2 rfl rfl rfl rfl (hM.row _) ?_
              exact ⟨by rw [HP.out]; rfl, below_setRow HB.out (by omega) _⟩
          · have n7 : (e.kind == 7) = false := by simp only [not_or] at k7; simpa using k7.1
            have n8 : (e.kind == 8) = false := by simp only [not_or] at k7; simpa using k7.2
            by_cases k10 : e.kind = 10
            · have HP : Hid (aimP e = (⟨e.key, 9, [], e.rr, e.rn⟩, true)) := by show _ = _; unfold aimP; rw [if_neg k11, if_neg k1, if_neg k3, if_neg k5, if_neg k7, if_pos k10]
              clear k3 k5 k7
              have hds : (dotc e.rr e.rn).size = 2 := rfl
              go_enter Try.func49, Try.ntmps49
              go_wp2_with (first | refine load_dot_at rfl rfl rfl hr ?_ | refine store_am (x := ⟨e.key, 9, [], e.rr, e.rn⟩) rfl rfl rfl rfl hM ?_)
              refine ret_am2 rfl rfl rfl rfl (hM.row _) ?_
              exact ⟨by rw [HP.out]; rfl, below_setRow HB.out (by omega) _⟩
            · have n10 : (e.kind == 10) = false := by simpa using k10
              have HP : Hid (aimP e = (zaim, false)) := by show _ = _; unfold aimP; rw [if_neg k11, if_neg k1, if_neg k3, if_neg k5, if_neg k7, if_neg k10]
              clear k3 k5 k7
              go_enter Try.func49, Try.ntmps49
              go_wp2_with (refine store_am (x := zaim) rfl rfl rfl rfl hM ?_)
              refine ret_am2 rfl rfl rfl rfl (hM.row _) ?_
              exact ⟨by rw [HP.out]; rfl, below_setRow HB.out (by omega) _⟩

end Go.Proofs.Ytagjgamigldjnaa

namespace Go.Proofs.Ytagjgamigldjnaa
set_option maxRecDepth 100000
open Go.RowKit

theorem boxedEM (w : World) (e : Ev) (x : Aim) :
    LiesE (((w.alloc (.cells (evc e) 41)).alloc (.cells (amc zaim) 78)).alloc (.cells (amc x) 78)) w.heap.size e ∧
    LiesM (((w.alloc (.cells (evc e) 41)).alloc (.cells (amc zaim) 78)).alloc (.cells (amc x) 78)) (w.heap.size + 1) zaim ∧
    LiesM (((w.alloc (.cells (evc e) 41)).alloc (.cells (amc zaim) 78)).alloc (.cells (amc x) 78)) (w.heap.size + 1 + 1) x ∧
    Below w.heap.size w (((w.alloc (.cells (evc e) 41)).alloc (.cells (amc zaim) 78)).alloc (.cells (amc x) 78)) := by
  refine ⟨((liesE_new w e).alloc _).alloc _, ?_, ?_, (((Below.refl _ _).alloc (Nat.le_refl _) _).alloc (by simp) _).alloc (by simp; omega) _⟩
  · have := (liesM_new (w.alloc (.cells (evc e) 41)) zaim).alloc (.cells (amc x) 78)
    simpa using this
  · have := liesM_new ((w.alloc (.cells (evc e) 41)).alloc (.cells (amc zaim) 78)) x
    simpa using this
theorem LiesE.c20 {w : World} {g : Nat} {e : Ev} (h : LiesE w g e) (hl : e.deps.length = 16) : w.cell? ⟨g, 20, none⟩ = some (.string (sb e.key)) := h.co hl 1
theorem LiesE.c21 {w : World} {g : Nat} {e : Ev} (h : LiesE w g e) (hl : e.deps.length = 16) : w.cell? ⟨g, 21, none⟩ = some (.string (sb e.field)) := h.co hl 2
theorem LiesM.cell {w : World} {g : Nat} {x : Aim} (h : LiesM w g x) (j : Nat) : w.cell? ⟨g, j, none⟩ = (aml x)[j]? := by
  rw [cell_of_row w g j _ _ _ h, amc, List.getElem?_toArray]
theorem LiesM.thereD {w : World} {g : Nat} {x : Aim} (h : LiesM w g x) : w.there g 3 2 := fun j hj => by
  refine ⟨?_, h.frozen⟩
  match j, hj with
  | 0, _ => rw [h.cell 3]; rfl
  | 1, _ => rw [h.cell 4]; rfl
theorem LiesM.other {w : World} {g : Nat} {x : Aim} (h : LiesM w g x) (ad : Addr) (v : Value) (hg : g ≠ ad.block) : LiesM (w.setCell ad v) g x := by
  rw [LiesM, heap_setCell_other w ad g v hg]; exact h
theorem store_dot_at {ops : Array Oper} {rest : List Oper} {o : Oper} {a : Act} {w : World} {Q : Exit → Act → World → Prop} {x y : Operand} {g k : Nat} {r n : Int} (hgd : o.guard = none) (ho : o.op = .store 26 x y)
    (hx : a.eval x = .pointer (some ⟨g, k, none⟩)) (hy : a.eval y = .agg (dotc r n)) (hg : w.there g k 2)
    (h : wpList Try.prog ops Q rest (a.put o.dst undef) (w.setCells g k (dotc r n).toList)) : wpList Try.prog ops Q (o :: rest) a w :=
  wpList_store_mid hgd 26 x y ho g k (dotc r n) hx hy hg (sizeD r n) (by simp [dotc, Value.oneCell']) h
set_option maxHeartbeats 1000000 in
theorem aimat_any (e : Ev) (hl : e.deps.length = 16) (w : World) : Calls Try.prog 53 #[.agg (evc e)] w fun e' w' => e' = .returned (.agg (amc (aimAtE e))) ∧ Below w.heap.size w w' := by
  obtain ⟨hE, hM, hX, hB⟩ := boxedEM w e zaim
  have E1 : LiesE ((w.alloc (.cells (evc e) 41)).alloc (.cells (amc zaim) 78)) w.heap.size e := (liesE_new w e).alloc _
  have d0 := E1.c19 hl
  have d1 := E1.c20 hl
  rw [zaim_cells] at d0 d1
  have X := hX.row ⟨e.key, e.kind, [], 0, 0⟩
  have hE2 := hE.rowOther (amc ⟨e.key, e.kind, [], 0, 0⟩) (g := w.heap.size + 1 + 1) (by omega)
  have hM2 := hM.rowOther (amc ⟨e.key, e.kind, [], 0, 0⟩) (g := w.heap.size + 1 + 1) (by omega)
  have hB2 := below_setRow hB (g := w.heap.size + 1 + 1) (by omega) (amc ⟨e.key, e.kind, [], 0, 0⟩)
  clear hE hM hB E1
  obtain ⟨W, hW⟩ : ∃ W, ((((w.alloc (.cells (evc e) 41)).alloc (.cells (amc zaim) 78)).alloc (.cells (amc zaim) 78)).setRow (w.heap.size + 1 + 1) (amc ⟨e.key, e.kind, [], 0, 0⟩)) = W := ⟨_, rfl⟩
  rw [hW] at X hE2 hM2 hB2
  have HB : Hid (Below w.heap.size w W) := hB2
  have e0 := hE2.c19 hl
  have e2 := hE2.c21 hl
  have hd := hE2.dot
  have x2 := X.cell 2
  have xf := X.frozen (k := 2)
  clear hB2
  go_enter Try.func53, Try.ntmps53
  have HX : Hid (LiesM W (w.heap.size + 1 + 1) ⟨e.key, e.kind, [], 0, 0⟩) := X
  have HM : Hid (LiesM W (w.heap.size + 1) zaim) := hM2
  have x2' : W.cell? ⟨w.heap.size + 1 + 1, 2, none⟩ = some (.string ⟨#[]⟩) := x2
  have xd := X.thereD
  clear x2 X hM2 hE2
  go_upto_region 2 with (refine store_am (x := ⟨e.key, e.kind, [], 0, 0⟩) rfl rfl rfl rfl hX ?_)
  change Code.wp _ _ _ _ ((((w.alloc (.cells (evc e) 41)).alloc (.cells (amc zaim) 78)).alloc (.cells (amc zaim) 78)).setRow (w.heap.size + 1 + 1) (amc ⟨e.key, e.kind, [], 0, 0⟩))
  rw [hW]
  clear hW hX d0 d1
  have one : ∀ W2 : World, LiesM W2 (w.heap.size + 1 + 1) (aimAtE e) → LiesM W2 (w.heap.size + 1) zaim → Below w.heap.size w W2 → LiesM (W2.setRow (w.heap.size + 1) (amc (aimAtE e))) (w.heap.size + 1) (aimAtE e) ∧ Below w.heap.size w (W2.setRow (w.heap.size + 1) (amc (aimAtE e))) :=
    fun W2 _ h2 h3 => ⟨h2.row _, below_setRow h3 (by omega) _⟩
  have ONE : Hid _ := one
  clear one
  by_cases k3 : e.kind = 3 ∨ e.kind = 5 ∨ e.kind = 7
  · have hA : aimAtE e = ⟨e.key, e.kind, e.field, 0, 0⟩ := by unfold aimAtE; rw [if_pos k3]
    have Y1 : LiesM (W.setCell ⟨w.heap.size + 1 + 1, 2, none⟩ (.string (sb e.field))) (w.heap.size + 1 + 1) (aimAtE e) := by rw [hA]; exact HX.out.setF e.field
    have Y2 : LiesM (W.setCell ⟨w.heap.size + 1 + 1, 2, none⟩ (.string (sb e.field))) (w.heap.size + 1) zaim := HM.out.other _ _ (by simp)
    obtain ⟨Z1, Z2⟩ := ONE.out _ Y1 Y2 (HB.out.setCell (show w.heap.size ≤ w.heap.size + 1 + 1 by omega) _)
    have HZ : Hid (Below w.heap.size w ((W.setCell ⟨w.heap.size + 1 + 1, 2, none⟩ (.string (sb e.field))).setRow (w.heap.size + 1) (amc (aimAtE e)))) := Z2
    clear Z2 hA HX HM HB
    rcases k3 with k3 | k3 | k3
    all_goals
      go_wp2_with (first | refine load_am rfl rfl rfl Y1 ?_ | refine store_am (x := aimAtE e) rfl rfl rfl rfl Y2 ?_)
      refine ret_am rfl rfl rfl Z1 ?_
      exact ⟨rfl, HZ.out⟩
  · have n3 : (e.kind == 3) = false := by simp only [not_or] at k3; simpa using k3.1
    have n5 : (e.kind == 5) = false := by simp only [not_or] at k3; simpa using k3.2.1
    have n7 : (e.kind == 7) = false := by simp only [not_or] at k3; simpa using k3.2.2
    by_cases k9 : e.kind = 9
    · have hA : aimAtE e = ⟨e.key, e.kind, [], e.r, e.n⟩ := by unfold aimAtE; rw [if_neg k3, if_pos k9]
      have Y1 : LiesM (W.setCells (w.heap.size + 1 + 1) 3 (dotc e.r e.n).toList) (w.heap.size + 1 + 1) (aimAtE e) := by rw [hA]; exact HX.out.setD e.r e.n
      have Y2 : LiesM (W.setCells (w.heap.size + 1 + 1) 3 (dotc e.r e.n).toList) (w.heap.size + 1) zaim := (HM.out.other _ _ (by simp)).other _ _ (by simp)
      obtain ⟨Z1, Z2⟩ := ONE.out _ Y1 Y2 ((HB.out.setCell (show w.heap.size ≤ w.heap.size + 1 + 1 by omega) _).setCell (show w.heap.size ≤ w.heap.size + 1 + 1 by omega) _)
      have HZ : Hid (Below w.heap.size w ((W.setCells (w.heap.size + 1 + 1) 3 (dotc e.r e.n).toList).setRow (w.heap.size + 1) (amc (aimAtE e)))) := Z2
      clear Z2 hA HX HM HB k3
      go_wp2_with (first | refine load_dot_at rfl rfl rfl hd ?_ | refine store_dot_at rfl rfl rfl rfl xd ?_ | refine load_am rfl rfl rfl Y1 ?_ | refine store_am (x := aimAtE e) rfl rfl rfl rfl Y2 ?_)
      refine ret_am rfl rfl rfl Z1 ?_
      exact ⟨rfl, HZ.out⟩
    · have n9 : (e.kind == 9) = false := by simpa using k9
      have hA : aimAtE e = ⟨e.key, e.kind, [], 0, 0⟩ := by unfold aimAtE; rw [if_neg k3, if_neg k9]
      have Y1 : LiesM W (w.heap.size + 1 + 1) (aimAtE e) := by rw [hA]; exact HX.out
      have Y2 : LiesM W (w.heap.size + 1) zaim := HM.out
      obtain ⟨Z1, Z2⟩ := ONE.out _ Y1 Y2 HB.out
      have HZ : Hid (Below w.heap.size w (W.setRow (w.heap.size + 1) (amc (aimAtE e)))) := Z2
      clear Z2 hA HX HM HB k3
      go_wp2_with (first | refine load_am rfl rfl rfl Y1 ?_ | refine store_am (x := aimAtE e) rfl rfl rfl rfl Y2 ?_)
      refine ret_am rfl rfl rfl Z1 ?_
      exact ⟨rfl, HZ.out⟩

/-- An event that has seen a vector. -/
def evv (v : List Int) : Ev := ⟨0, 0, 0, v, 0, [], [], [], 0, 0, 0⟩
theorem build_ev16 (x0 x1 x2 x3 x4 x5 x6 x7 x8 x9 x10 x11 x12 x13 x14 x15 : Int) (w : World) : (Instr.build 41 #[(2, .agg (vals [x0, x1, x2, x3, x4, x5, x6, x7, x8, x9, x10, x11, x12, x13, x14, x15]))]).run Try.prog w = .ok (.agg (evc (evv [x0, x1, x2, x3, x4, x5, x6, x7, x8, x9, x10, x11, x12, x13, x14, x15]))) w := by kernel_rfl
theorem build_ev (v : List Int) (hv : v.length = 16) (w : World) : (Instr.build 41 #[(2, .agg (vals v))]).run Try.prog w = .ok (.agg (evc (evv v))) w :=
  match v, hv with
  | [x0, x1, x2, x3, x4, x5, x6, x7, x8, x9, x10, x11, x12, x13, x14, x15], _ => build_ev16 x0 x1 x2 x3 x4 x5 x6 x7 x8 x9 x10 x11 x12 x13 x14 x15 w
theorem wp_build1 {ops : Array Oper} {rest : List Oper} {o : Oper} {a : Act} {w : World} {Q : Exit → Act → World → Prop} {x : Operand} {v : List Int} (hw : Region.wanted o (yielded ops a.tmps) = true) (ho : o.op = .build 41 #[(2, x)]) (hx : a.eval x = .agg (vals v)) (hv : v.length = 16)
    (h : wpList Try.prog ops Q rest (a.put o.dst (.agg (evc (evv v)))) w) : wpList Try.prog ops Q (o :: rest) a w :=
  wpList_step fun K hK => by
    rw [if_pos hw]
    have hr := build_ev v hv w
    unfold Oper.wp execOp
    simp only [ho, List.map_toArray, List.map_cons, List.map_nil, hx, Sem.run_bind, Sem.run_pure, Result.andThen_ok, hr]
    exact hK _ _ h
set_option maxHeartbeats 400000 in
theorem lcovers_any (v : List Int) (e : Ev) (hv : v.length = 16) (hl : e.deps.length = 16) (w : World) : Calls Try.prog 51 #[.agg (vals v), .agg (evc e)] w fun e' w' => e' = .returned (.bool (hasv v e.r e.n)) ∧ Below w.heap.size w w' := by
  have h1 : Lies ((w.alloc (.cells (vals v) 37)).alloc (.cells (evc e) 41)) w.heap.size v := (lies_new w v).alloc _
  have h2 : LiesE ((w.alloc (.cells (vals v) 37)).alloc (.cells (evc e) 41)) (w.heap.size + 1) e := by
    have := liesE_new (w.alloc (.cells (vals v) 37)) e
    simpa using this
  have HB : Hid (Below w.heap.size w ((w.alloc (.cells (vals v) 37)).alloc (.cells (evc e) 41))) := ((Below.refl _ _).alloc (Nat.le_refl _) _).alloc (by simp) _
  go_enter Try.func51, Try.ntmps51
  go_wp2_with (first | refine load_vec_w rfl rfl rfl h1 hv ?_ | refine wp_build1 rfl rfl rfl hv ?_ | refine load_ev rfl rfl rfl h2 hl ?_)
  refine (covers_any (evv v) e hv _).mono ?_
  rintro e' w1 ⟨rfl, hb1⟩
  have HB1 : Hid (Below w.heap.size w w1) := HB.out.trans (hb1.mono HB.out.size)
  clear h1 h2 hb1 HB
  go_wp2
  go_ret
  exact ⟨rfl, HB1.out⟩
end Go.Proofs.Ytagjgamigldjnaa
