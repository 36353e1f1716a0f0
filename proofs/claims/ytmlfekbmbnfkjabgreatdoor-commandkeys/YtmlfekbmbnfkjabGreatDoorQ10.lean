/-
  Aims in memory: what an event ends, and what ends it; what wholeKey, aimOf, aimAt, covers and greatest come to.
-/
import Derived.Test.YtmlfekbmbnfkjabGreatDoorQ07
import Derived.Test.YtmlfekbmbnfkjabGreatDoorQ09
import Derived.Test.YtmlfekbmbnfkjabGreatDoorQ08
namespace Go.Proofs.YtmlfekbmbnfkjabGreatDoor
set_option maxRecDepth 100000
set_option maxRecDepth 100000
open Go.RowKit

structure Aim where
  key : List UInt8
  kind : Int
  field : List UInt8
  r : Int
  n : Int
deriving DecidableEq
def wholeE (key : List UInt8) : Aim := ⟨key, 0, [], 0, 0⟩
def zaim : Aim := ⟨[], 0, [], 0, 0⟩
def aimP (e : Ev) : Aim × Bool :=
  if e.kind = 11 then (wholeE e.key, true) else if e.kind = 1 then (⟨e.key, 1, [], 0, 0⟩, true) else if e.kind = 3 ∨ e.kind = 4 then (⟨e.key, 3, e.field, 0, 0⟩, true)
  else if e.kind = 5 ∨ e.kind = 6 then (⟨e.key, 5, e.field, 0, 0⟩, true) else if e.kind = 7 ∨ e.kind = 8 then (⟨e.key, 7, e.field, 0, 0⟩, true)
  else if e.kind = 10 then (⟨e.key, 9, [], e.rr, e.rn⟩, true) else (zaim, false)
def aimAtE (e : Ev) : Aim := if e.kind = 3 ∨ e.kind = 5 ∨ e.kind = 7 then ⟨e.key, e.kind, e.field, 0, 0⟩ else if e.kind = 9 then ⟨e.key, e.kind, [], e.r, e.n⟩ else ⟨e.key, e.kind, [], 0, 0⟩
/-- What ends it, by aims. -/
def meets (b a : Ev) : Bool := (aimP b).2 && (decide ((aimP b).1 = wholeE a.key) || decide ((aimP b).1 = aimAtE a))
theorem ends_aim (b a : Ev) (h : addsE a.kind = true) : (coversE b a && meets b a) = endsE b a := by
  unfold endsE
  rw [h, Bool.true_and]
  congr 1
  unfold addsE at h
  rw [decide_eq_true_eq] at h
  unfold meets hits aimP aimAtE wholeE zaim
  rw [Bool.eq_iff_iff]
  simp only [Bool.and_eq_true, Bool.or_eq_true, decide_eq_true_eq]
  by_cases b11 : b.kind = 11
  · simp [b11]
    intro h1
    (repeat' split at h1) <;> simp_all
  by_cases b1 : b.kind = 1
  · rcases h with h | h | h | h | h | h <;> simp [b1, h]
  by_cases b3 : b.kind = 3 ∨ b.kind = 4
  · rcases b3 with b3 | b3 <;> rcases h with h | h | h | h | h | h <;> simp [b3, h]
  by_cases b5 : b.kind = 5 ∨ b.kind = 6
  · rcases b5 with b3 | b3 <;> rcases h with h | h | h | h | h | h <;> simp [b3, h]
  by_cases b7 : b.kind = 7 ∨ b.kind = 8
  · rcases b7 with b3 | b3 <;> rcases h with h | h | h | h | h | h <;> simp [b3, h]
  by_cases b10 : b.kind = 10
  · rcases h with h | h | h | h | h | h <;> simp [b10, h]
  · simp only [not_or] at b3 b5 b7
    simp [b11, b1, b3, b5, b7, b10]

/-- An aim's cells. -/
def aml (x : Aim) : List Value := [.string (sb x.key), .int .i64 x.kind, .string (sb x.field), .int .i64 x.r, .int .i64 x.n]
def amc (x : Aim) : Array Value := (aml x).toArray
def LiesM (w : World) (g : Nat) (x : Aim) : Prop := w.heap[g]? = some (.cells (amc x) 127 (0, 0))
theorem amc_one (x : Aim) : (amc x).all (·.oneCell') = true := by simp [amc, aml, Value.oneCell']
theorem sizeM (x : Aim) : (Tryz.prog.info? 127).map (·.size) = some (amc x).size := by
  show _ = some 5
  kernel_rfl
theorem LiesM.lt {w : World} {g : Nat} {x : Aim} (h : LiesM w g x) : g < w.heap.size := by
  rw [LiesM] at h
  exact (Array.getElem?_eq_some_iff.1 h).1
theorem LiesM.below {B g : Nat} {w w' : World} {x : Aim} (h : LiesM w g x) (hb : Below B w w') (hg : g < B) : LiesM w' g x := by
  rw [LiesM, hb.block g hg]; exact h
theorem LiesM.alloc {w : World} {g : Nat} {x : Aim} (h : LiesM w g x) (o : Obj) : LiesM (w.alloc o) g x := by
  rw [LiesM, Below.heap_alloc w o g h.lt]; exact h
theorem liesM_new (w : World) (x : Aim) : LiesM (w.alloc (.cells (amc x) 127)) w.heap.size x := heap_alloc_new w _
theorem LiesM.row {w : World} {g : Nat} {x' : Aim} (h : LiesM w g x') (x : Aim) : LiesM (w.setRow g (amc x)) g x := setRow_heap w g _ _ _ _ h
theorem LiesM.rowOther {w : World} {g k : Nat} {x : Aim} (h : LiesM w k x) (cs : Array Value) (hk : k ≠ g) : LiesM (w.setRow g cs) k x := by
  rw [LiesM, setRow_other w g k cs hk]; exact h
theorem LiesM.frozen {w : World} {g k : Nat} {x : Aim} (h : LiesM w g x) : w.frozen? ⟨g, k, none⟩ = false := frozen_of_row w g k _ _ h
theorem LiesM.drewN {w : World} {g : Nat} {x : Aim} (h : LiesM w g x) (n : Nat) : LiesM (w.drewN n) g x := h
theorem LiesM.setL {w : World} {g : Nat} {x : Aim} (h : LiesM w g x) (j : Nat) (v : Value) : (w.setCell ⟨g, j, none⟩ v).heap[g]? = some (.cells ((aml x).set j v).toArray 127 (0, 0)) := by
  rw [heap_setCell_same w g j _ _ _ h, amc, List.setIfInBounds_toArray]
theorem LiesM.setF {w : World} {g : Nat} {x : Aim} (h : LiesM w g x) (f : List UInt8) : LiesM (w.setCell ⟨g, 2, none⟩ (.string (sb f))) g { x with field := f } := h.setL 2 _
theorem LiesM.setR {w : World} {g : Nat} {x : Aim} (h : LiesM w g x) (r : Int) : LiesM (w.setCell ⟨g, 3, none⟩ (.int .i64 r)) g { x with r := r } := h.setL 3 _
theorem LiesM.setN {w : World} {g : Nat} {x : Aim} (h : LiesM w g x) (n : Int) : LiesM (w.setCell ⟨g, 4, none⟩ (.int .i64 n)) g { x with n := n } := h.setL 4 _
theorem LiesM.setD {w : World} {g : Nat} {x : Aim} (h : LiesM w g x) (r n : Int) : LiesM (w.setCells g 3 (dotc r n).toList) g { x with r := r, n := n } := (h.setR r).setN n
section
variable {ops : Array Oper} {rest : List Oper} {o : Oper} {a : Act} {w : World} {Q : Exit → Act → World → Prop} {p q : Operand} {g k : Nat} {x x' : Aim}
theorem load_am (hw : Region.wanted o (yielded ops a.tmps) = true) (ho : o.op = .load 127 p) (hx : a.eval p = .pointer (some ⟨g, 0, none⟩)) (hg : LiesM w g x)
    (h : wpList Tryz.prog ops Q rest (a.put o.dst (.agg (amc x))) w) : wpList Tryz.prog ops Q (o :: rest) a w :=
  wpList_step fun K hK => by
    rw [if_pos hw]
    exact wp_load_row 127 p ho g hx 127 _ (0, 0) _ hg Tryz.underlying127 rfl (sizeM x) (hK _ _ h)
theorem store_am (hgd : o.guard = none) (ho : o.op = .store 127 p q) (hx : a.eval p = .pointer (some ⟨g, 0, none⟩)) (hy : a.eval q = .agg (amc x)) (hg : LiesM w g x')
    (h : wpList Tryz.prog ops Q rest (a.put o.dst undef) (w.setRow g (amc x))) : wpList Tryz.prog ops Q (o :: rest) a w :=
  wpList_store_row hgd 127 p q ho g (amc x) hx hy 127 _ hg (sizeM x) rfl (amc_one x) h
end
theorem ret_am {fn : Func} {R : Ending → World → Prop} {a : Act} {w : World} {p : Tmp} {g : Nat} {x : Aim} (h : fn.results = #[.cell p 127]) (hp : a.tmps.getD p undef = .pointer (some ⟨g, 0, none⟩))
    (hd : a.defers = []) (hg : LiesM w g x) (hR : R (.returned (.agg (amc x))) w) : bodyPost Tryz.prog fn R .ret a w :=
  bodyPost_ret (results_cell_row h a.tmps w g 127 _ (0, 0) _ hp hg Tryz.underlying127 rfl (sizeM x)) hd hR
theorem ret_am2 {fn : Func} {R : Ending → World → Prop} {a : Act} {w : World} {p u : Tmp} {g : Nat} {x : Aim} {v : Value} (h : fn.results = #[.cell p 127, .tmp u]) (hp : a.tmps.getD p undef = .pointer (some ⟨g, 0, none⟩))
    (hu : a.tmps.getD u undef = v) (hd : a.defers = []) (hg : LiesM w g x) (hR : R (.returned (.tuple #[.agg (amc x), v])) w) : bodyPost Tryz.prog fn R .ret a w := by
  refine bodyPost_ret ?_ hd hR
  rw [results_cell_tmp h, hp, hu]
  simp only [asAddr, Sem.run_pure, Result.andThen_ok, run_loadVar_row w g 127 127 _ (0, 0) _ hg Tryz.underlying127 rfl (sizeM x)]

set_option maxHeartbeats 400000 in
theorem whole_any (key : List UInt8) (w : World) : Calls Tryz.prog 102 #[.string (sb key)] w fun e w' => e = .returned (.agg (amc (wholeE key))) ∧ Below w.heap.size w w' := by
  have h0 := liesM_new w zaim
  have h1 := h0.row (wholeE key)
  have HB : Hid (Below w.heap.size w ((w.alloc (.cells (amc zaim) 127)).setRow w.heap.size (amc (wholeE key)))) := below_setRow ((Below.refl _ _).alloc (Nat.le_refl _) _) (Nat.le_refl _) _
  go_enter Tryz.func102, Tryz.ntmps102
  go_wp2_with (refine store_am (x := wholeE key) rfl rfl rfl rfl h0 ?_)
  refine ret_am rfl rfl rfl h1 ?_
  exact ⟨rfl, HB.out⟩
end Go.Proofs.YtmlfekbmbnfkjabGreatDoor

/-
  What aimOf, aimAt, covers and greatest come to.
-/
namespace Go.Proofs.YtmlfekbmbnfkjabGreatDoor
set_option maxRecDepth 100000
set_option maxRecDepth 100000
open Go.RowKit

theorem zaim_cells : amc zaim = #[.string ⟨#[]⟩, .int .i64 0, .string ⟨#[]⟩, .int .i64 0, .int .i64 0] := rfl
theorem boxedOM (w : World) (e : Ev) :
    LiesO ((w.alloc (.cells (opc e) 34)).alloc (.cells (amc zaim) 127)) w.heap.size e ∧
    LiesM ((w.alloc (.cells (opc e) 34)).alloc (.cells (amc zaim) 127)) (w.heap.size + 1) zaim ∧
    Below w.heap.size w ((w.alloc (.cells (opc e) 34)).alloc (.cells (amc zaim) 127)) := by
  refine ⟨(liesO_new w e).alloc _, ?_, ((Below.refl _ _).alloc (Nat.le_refl _) _).alloc (by simp) _⟩
  have := liesM_new (w.alloc (.cells (opc e) 34)) zaim
  simpa using this

set_option maxHeartbeats 1000000 in
theorem aimof_any (e : Ev) (w : World) : Calls Tryz.prog 101 #[.agg (opc e)] w fun e' w' => e' = .returned (.tuple #[.agg (amc (aimP e).1), .bool (aimP e).2]) ∧ Below w.heap.size w w' := by
  obtain ⟨hO, hM, hB⟩ := boxedOM w e
  have c0 := hO.c0
  have c1 := hO.c1
  have c2 := hO.c2
  have hr := hO.ref
  rw [zaim_cells] at c0 c1 c2
  have HB : Hid (Below w.heap.size w ((w.alloc (.cells (opc e) 34)).alloc (.cells (amc zaim) 127))) := hB
  clear hO hB
  by_cases k11 : e.kind = 11
  · have HP : Hid (aimP e = (wholeE e.key, true)) := by show _ = _; unfold aimP; rw [if_pos k11]
    go_enter Tryz.func101, Tryz.ntmps101
    go_wp2_with fail
    refine (whole_any _ _).mono ?_
    rintro e' w1 ⟨rfl, hb1⟩
    have hM1 := hM.below hb1 (by simp)
    have HB1 : Hid (Below w.heap.size w w1) := HB.out.trans (hb1.mono HB.out.size)
    clear hb1 hM c0 c1 c2 hr HB
    go_wp2_with (refine store_am (x := wholeE e.key) rfl rfl rfl rfl hM1 ?_)
    refine ret_am2 rfl rfl rfl rfl (hM1.row _) ?_
    exact ⟨by rw [HP.out]; rfl, below_setRow HB1.out (by omega) _⟩
  · have n11 : (e.kind == 11) = false := by simpa using k11
    by_cases k1 : e.kind = 1
    · have HP : Hid (aimP e = (⟨e.key, 1, [], 0, 0⟩, true)) := by show _ = _; unfold aimP; rw [if_neg k11, if_pos k1]
      go_enter Tryz.func101, Tryz.ntmps101
      go_wp2_with (refine store_am (x := ⟨e.key, 1, [], 0, 0⟩) rfl rfl rfl rfl hM ?_)
      refine ret_am2 rfl rfl rfl rfl (hM.row _) ?_
      exact ⟨by rw [HP.out]; rfl, below_setRow HB.out (by omega) _⟩
    · have n1 : (e.kind == 1) = false := by simpa using k1
      by_cases k3 : e.kind = 3 ∨ e.kind = 4
      · have HP : Hid (aimP e = (⟨e.key, 3, e.field, 0, 0⟩, true)) := by show _ = _; unfold aimP; rw [if_neg k11, if_neg k1, if_pos k3]
        rcases k3 with k3 | k3
        · go_enter Tryz.func101, Tryz.ntmps101
          go_wp2_with (refine store_am (x := ⟨e.key, 3, e.field, 0, 0⟩) rfl rfl rfl rfl hM ?_)
          refine ret_am2 rfl rfl rfl rfl (hM.row _) ?_
          exact ⟨by rw [HP.out]; rfl, below_setRow HB.out (by omega) _⟩
        · go_enter Tryz.func101, Tryz.ntmps101
          go_wp2_with (refine store_am (x := ⟨e.key, 3, e.field, 0, 0⟩) rfl rfl rfl rfl hM ?_)
          refine ret_am2 rfl rfl rfl rfl (hM.row _) ?_
          exact ⟨by rw [HP.out]; rfl, below_setRow HB.out (by omega) _⟩
      · have n3 : (e.kind == 3) = false := by simp only [not_or] at k3; simpa using k3.1
        have n4 : (e.kind == 4) = false := by simp only [not_or] at k3; simpa using k3.2
        by_cases k5 : e.kind = 5 ∨ e.kind = 6
        · have HP : Hid (aimP e = (⟨e.key, 5, e.field, 0, 0⟩, true)) := by show _ = _; unfold aimP; rw [if_neg k11, if_neg k1, if_neg k3, if_pos k5]
          clear k3
          rcases k5 with k5 | k5
          · go_enter Tryz.func101, Tryz.ntmps101
            go_wp2_with (refine store_am (x := ⟨e.key, 5, e.field, 0, 0⟩) rfl rfl rfl rfl hM ?_)
            refine ret_am2 rfl rfl rfl rfl (hM.row _) ?_
            exact ⟨by rw [HP.out]; rfl, below_setRow HB.out (by omega) _⟩
          · go_enter Tryz.func101, Tryz.ntmps101
            go_wp2_with (refine store_am (x := ⟨e.key, 5, e.field, 0, 0⟩) rfl rfl rfl rfl hM ?_)
            refine ret_am2 rfl rfl rfl rfl (hM.row _) ?_
            exact ⟨by rw [HP.out]; rfl, below_setRow HB.out (by omega) _⟩
        · have n5 : (e.kind == 5) = false := by simp only [not_or] at k5; simpa using k5.1
          have n6 : (e.kind == 6) = false := by simp only [not_or] at k5; simpa using k5.2
          by_cases k7 : e.kind = 7 ∨ e.kind = 8
          · have HP : Hid (aimP e = (⟨e.key, 7, e.field, 0, 0⟩, true)) := by show _ = _; unfold aimP; rw [if_neg k11, if_neg k1, if_neg k3, if_neg k5, if_pos k7]
            clear k3 k5
            rcases k7 with k7 | k7
            · go_enter Tryz.func101, Tryz.ntmps101
              go_wp2_with (refine store_am (x := ⟨e.key, 7, e.field, 0, 0⟩) rfl rfl rfl rfl hM ?_)
              refine ret_am2 rfl rfl rfl rfl (hM.row _) ?_
              exact ⟨by rw [HP.out]; rfl, below_setRow HB.out (by omega) _⟩
            · go_enter Tryz.func101, Tryz.ntmps101
              go_wp2_with (refine store_am (x := ⟨e.key, 7, e.field, 0, 0⟩) rfl rfl rfl rfl hM ?_)
              refine ret_am2 rfl rfl rfl rfl (hM.row _) ?_
              exact ⟨by rw [HP.out]; rfl, below_setRow HB.out (by omega) _⟩
          · have n7 : (e.kind == 7) = false := by simp only [not_or] at k7; simpa using k7.1
            have n8 : (e.kind == 8) = false := by simp only [not_or] at k7; simpa using k7.2
            by_cases k10 : e.kind = 10
            · have HP : Hid (aimP e = (⟨e.key, 9, [], e.rr, e.rn⟩, true)) := by show _ = _; unfold aimP; rw [if_neg k11, if_neg k1, if_neg k3, if_neg k5, if_neg k7, if_pos k10]
              clear k3 k5 k7
              have hds : (dotc e.rr e.rn).size = 2 := rfl
              go_enter Tryz.func101, Tryz.ntmps101
              go_wp2_with (first | refine load_dot_at rfl rfl rfl hr ?_ | refine store_am (x := ⟨e.key, 9, [], e.rr, e.rn⟩) rfl rfl rfl rfl hM ?_)
              refine ret_am2 rfl rfl rfl rfl (hM.row _) ?_
              exact ⟨by rw [HP.out]; rfl, below_setRow HB.out (by omega) _⟩
            · have n10 : (e.kind == 10) = false := by simpa using k10
              have HP : Hid (aimP e = (zaim, false)) := by show _ = _; unfold aimP; rw [if_neg k11, if_neg k1, if_neg k3, if_neg k5, if_neg k7, if_neg k10]
              clear k3 k5 k7
              go_enter Tryz.func101, Tryz.ntmps101
              go_wp2_with (refine store_am (x := zaim) rfl rfl rfl rfl hM ?_)
              refine ret_am2 rfl rfl rfl rfl (hM.row _) ?_
              exact ⟨by rw [HP.out]; rfl, below_setRow HB.out (by omega) _⟩

end Go.Proofs.YtmlfekbmbnfkjabGreatDoor

/-
  Live and dead events as things under dots.
-/
namespace Go.Proofs.YtmlfekbmbnfkjabGreatDoor
set_option maxRecDepth 100000
open Go.RowKit

/-- A dead event, and the dot of what ended it. -/
structure Ed where
  push : Ev
  br : Int
  bn : Int
def edl (d : Ed) : List Value := evl d.push ++ [.int .i64 d.br, .int .i64 d.bn]
theorem evl_one (e : Ev) : ∀ u ∈ evl e, u.oneCell' = true := by
  have := evc_one e
  rw [Array.all_eq_true_iff_forall_mem] at this
  exact fun u hu => this u (by simpa [evc] using hu)
theorem edl_one (d : Ed) : ∀ u ∈ edl d, u.oneCell' = true := by
  intro u hu
  simp only [edl, List.mem_append, List.mem_cons, List.not_mem_nil, or_false] at hu
  rcases hu with hu | rfl | rfl
  · exact evl_one _ u hu
  · rfl
  · rfl
def evX (e : Ev) : Cx 26 := if h : e.deps.length = 16 then ⟨evl e, evl_length e h, evl_one e⟩ else E.zx
def edX (d : Ed) : Cx 28 := if h : d.push.deps.length = 16 then ⟨edl d, by simp [edl, evl_length _ h], edl_one d⟩ else D.zx
theorem evX_l {e : Ev} (h : e.deps.length = 16) : (evX e).l = evl e := by unfold evX; rw [dif_pos h]
theorem edX_l {d : Ed} (h : d.push.deps.length = 16) : (edX d).l = edl d := by unfold edX; rw [dif_pos h]
theorem evX_c {e : Ev} (h : e.deps.length = 16) : (evX e).l.toArray = evc e := by rw [evX_l h, evc]
def eit (e : Ev) : It (Cx 26) := ⟨e.r, e.n, evX e⟩
def dit (d : Ed) : It (Cx 28) := ⟨d.push.r, d.push.n, edX d⟩
def befE (a b : Ev) : Bool := decide (a.r < b.r ∨ (a.r = b.r ∧ a.n < b.n))
def putE (L : List Ev) (e : Ev) : List Ev := L.filter (fun a => befE a e) ++ e :: L.filter (fun a => befE e a)
def putD (D : List Ed) (d : Ed) : List Ed := D.filter (fun a => befE a.push d.push) ++ d :: D.filter (fun a => befE d.push a.push)
theorem put_eit (L : List Ev) (e : Ev) : put (L.map eit) (eit e) = (putE L e).map eit := by
  unfold put putE
  rw [List.filter_map, List.filter_map, List.map_append, List.map_cons]
  rfl
theorem put_dit (L : List Ed) (e : Ed) : put (L.map dit) (dit e) = (putD L e).map dit := by
  unfold put putD
  rw [List.filter_map, List.filter_map, List.map_append, List.map_cons]
  rfl
/-- In their dots' order. -/
def SrE (L : List Ev) : Prop := L.Pairwise fun a b => befE a b = true
def SrD (L : List Ed) : Prop := L.Pairwise fun a b => befE a.push b.push = true
theorem srt_eit {L : List Ev} : Srt (L.map eit) ↔ SrE L := by
  unfold Srt SrE
  rw [List.pairwise_map]
  exact Iff.rfl
theorem befE_iff {a b : Ev} : befE a b = true ↔ (a.r < b.r ∨ (a.r = b.r ∧ a.n < b.n)) := by simp [befE]
theorem SrE.same {L : List Ev} (h : SrE L) {a b : Ev} (ha : a ∈ L) (hb : b ∈ L) (hr : a.r = b.r) (hn : a.n = b.n) : a = b := by
  induction L with
  | nil => simp at ha
  | cons x L ih =>
    obtain ⟨h1, h2⟩ := List.pairwise_cons.1 h
    rcases List.mem_cons.1 ha with e1 | ha'
    · rcases List.mem_cons.1 hb with e2 | hb'
      · rw [e1, e2]
      · have := befE_iff.1 (h1 b hb'); rw [e1] at hr hn; omega
    · rcases List.mem_cons.1 hb with e2 | hb'
      · have := befE_iff.1 (h1 a ha'); rw [e2] at hr hn; omega
      · exact ih h2 ha' hb'
/-- What an event ends of live events: a Push is dead then. -/
def fell (e a : Ev) : Bool := endsE e a && decide (a.kind = 9)
def deadTo (e : Ev) (L : List Ev) (D : List Ed) : List Ed := L.foldl (fun D a => if fell e a then putD D ⟨a, e.r, e.n⟩ else D) D
theorem deadTo_snoc (e : Ev) (L : List Ev) (D : List Ed) (a : Ev) : deadTo e (L ++ [a]) D = if fell e a then putD (deadTo e L D) ⟨a, e.r, e.n⟩ else deadTo e L D := by simp [deadTo]
theorem ends_covers {e a : Ev} (h : hasv e.deps a.r a.n = false) : endsE e a = false := by
  unfold endsE coversE
  rw [h, Bool.false_and]
end Go.Proofs.YtmlfekbmbnfkjabGreatDoor

