/-
  What aimAt, covers and greatest come to.
-/
import Derived.Test.YtmlfekbmbnfkjabGreatDoorQ04
import Derived.Deep.Cut
import Derived.Maps.RangeRun
import Derived.OwnWalk
namespace Go.Proofs.YtmlfekbmbnfkjabGreatDoor
set_option maxRecDepth 100000
set_option maxRecDepth 100000
open Go.RowKit

theorem boxedEM (w : World) (e : Ev) (x : Aim) :
    LiesE (((w.alloc (.cells (evc e) 47)).alloc (.cells (amc zaim) 127)).alloc (.cells (amc x) 127)) w.heap.size e ∧
    LiesM (((w.alloc (.cells (evc e) 47)).alloc (.cells (amc zaim) 127)).alloc (.cells (amc x) 127)) (w.heap.size + 1) zaim ∧
    LiesM (((w.alloc (.cells (evc e) 47)).alloc (.cells (amc zaim) 127)).alloc (.cells (amc x) 127)) (w.heap.size + 1 + 1) x ∧
    Below w.heap.size w (((w.alloc (.cells (evc e) 47)).alloc (.cells (amc zaim) 127)).alloc (.cells (amc x) 127)) := by
  refine ⟨((liesE_new w e).alloc _).alloc _, ?_, ?_, (((Below.refl _ _).alloc (Nat.le_refl _) _).alloc (by simp) _).alloc (by simp; omega) _⟩
  · have := (liesM_new (w.alloc (.cells (evc e) 47)) zaim).alloc (.cells (amc x) 127)
    simpa using this
  · have := liesM_new ((w.alloc (.cells (evc e) 47)).alloc (.cells (amc zaim) 127)) x
    simpa using this
theorem LiesE.c20 {w : World} {g : Nat} {e : Ev} (h : LiesE w g e) (hl : e.deps.length = 16) : w.cell? ⟨g, 20, none⟩ = some (.string (sb e.key)) := h.co hl 1
theorem LiesE.c21 {w : World} {g : Nat} {e : Ev} (h : LiesE w g e) (hl : e.deps.length = 16) : w.cell? ⟨g, 21, none⟩ = some (.string (sb e.field)) := h.co hl 2
theorem LiesM.cell {w : World} {g : Nat} {x : Aim} (h : LiesM w g x) (j : Nat) : w.cell? ⟨g, j, none⟩ = (aml x)[j]? := by
  rw [cell_of_row w g j _ _ _ h, amc, List.getElem?_toArray]
theorem LiesM.thereD {w : World} {g : Nat} {x : Aim} (h : LiesM w g x) : w.there g 3 2 := fun j hj => by
  refine ⟨?_, h.frozen⟩
  match j, hj with
  | 0, _ => rw [h.cell 3]; rfl
  | 1, _ => rw [h.cell 4]; rfl
theorem LiesM.other {w : World} {g : Nat} {x : Aim} (h : LiesM w g x) (ad : Addr) (v : Value) (hg : g ≠ ad.block) : LiesM (w.setCell ad v) g x := by
  rw [LiesM, heap_setCell_other w ad g v hg]; exact h
theorem store_dot_at {ops : Array Oper} {rest : List Oper} {o : Oper} {a : Act} {w : World} {Q : Exit → Act → World → Prop} {x y : Operand} {g k : Nat} {r n : Int} (hgd : o.guard = none) (ho : o.op = .store 32 x y)
    (hx : a.eval x = .pointer (some ⟨g, k, none⟩)) (hy : a.eval y = .agg (dotc r n)) (hg : w.there g k 2)
    (h : wpList Tryz.prog ops Q rest (a.put o.dst undef) (w.setCells g k (dotc r n).toList)) : wpList Tryz.prog ops Q (o :: rest) a w :=
  wpList_store_mid hgd 32 x y ho g k (dotc r n) hx hy hg (sizeD r n) (by simp [dotc, Value.oneCell']) h
set_option maxHeartbeats 1000000 in
theorem aimat_any (e : Ev) (hl : e.deps.length = 16) (w : World) : Calls Tryz.prog 103 #[.agg (evc e)] w fun e' w' => e' = .returned (.agg (amc (aimAtE e))) ∧ Below w.heap.size w w' := by
  obtain ⟨hE, hM, hX, hB⟩ := boxedEM w e zaim
  have E1 : LiesE ((w.alloc (.cells (evc e) 47)).alloc (.cells (amc zaim) 127)) w.heap.size e := (liesE_new w e).alloc _
  have d0 := E1.c19 hl
  have d1 := E1.c20 hl
  rw [zaim_cells] at d0 d1
  have X := hX.row ⟨e.key, e.kind, [], 0, 0⟩
  have hE2 := hE.rowOther (amc ⟨e.key, e.kind, [], 0, 0⟩) (g := w.heap.size + 1 + 1) (by omega)
  have hM2 := hM.rowOther (amc ⟨e.key, e.kind, [], 0, 0⟩) (g := w.heap.size + 1 + 1) (by omega)
  have hB2 := below_setRow hB (g := w.heap.size + 1 + 1) (by omega) (amc ⟨e.key, e.kind, [], 0, 0⟩)
  clear hE hM hB E1
  obtain ⟨W, hW⟩ : ∃ W, ((((w.alloc (.cells (evc e) 47)).alloc (.cells (amc zaim) 127)).alloc (.cells (amc zaim) 127)).setRow (w.heap.size + 1 + 1) (amc ⟨e.key, e.kind, [], 0, 0⟩)) = W := ⟨_, rfl⟩
  rw [hW] at X hE2 hM2 hB2
  have HB : Hid (Below w.heap.size w W) := hB2
  have e0 := hE2.c19 hl
  have e2 := hE2.c21 hl
  have hd := hE2.dot
  have x2 := X.cell 2
  have xf := X.frozen (k := 2)
  clear hB2
  go_enter Tryz.func103, Tryz.ntmps103
  have HX : Hid (LiesM W (w.heap.size + 1 + 1) ⟨e.key, e.kind, [], 0, 0⟩) := X
  have HM : Hid (LiesM W (w.heap.size + 1) zaim) := hM2
  have x2' : W.cell? ⟨w.heap.size + 1 + 1, 2, none⟩ = some (.string ⟨#[]⟩) := x2
  have xd := X.thereD
  clear x2 X hM2 hE2
  go_upto_region 2 with (refine store_am (x := ⟨e.key, e.kind, [], 0, 0⟩) rfl rfl rfl rfl hX ?_)
  change Code.wp _ _ _ _ ((((w.alloc (.cells (evc e) 47)).alloc (.cells (amc zaim) 127)).alloc (.cells (amc zaim) 127)).setRow (w.heap.size + 1 + 1) (amc ⟨e.key, e.kind, [], 0, 0⟩))
  rw [hW]
  clear hW hX d0 d1
  have one : ∀ W2 : World, LiesM W2 (w.heap.size + 1 + 1) (aimAtE e) → LiesM W2 (w.heap.size + 1) zaim → Below w.heap.size w W2 → LiesM (W2.setRow (w.heap.size + 1) (amc (aimAtE e))) (w.heap.size + 1) (aimAtE e) ∧ Below w.heap.size w (W2.setRow (w.heap.size + 1) (amc (aimAtE e))) :=
    fun W2 _ h2 h3 => ⟨h2.row _, below_setRow h3 (by omega) _⟩
  have ONE : Hid _ := one
  clear one
  by_cases k3 : e.kind = 3 ∨ e.kind = 5 ∨ e.kind = 7
  · have hA : aimAtE e = ⟨e.key, e.kind, e.field, 0, 0⟩ := by unfold aimAtE; rw [if_pos k3]
    have Y1 : LiesM (W.setCell ⟨w.heap.size + 1 + 1, 2, none⟩ (.string (sb e.field))) (w.heap.size + 1 + 1) (aimAtE e) := by rw [hA]; exact HX.out.setF e.field
    have Y2 : LiesM (W.setCell ⟨w.heap.size + 1 + 1, 2, none⟩ (.string (sb e.field))) (w.heap.size + 1) zaim := HM.out.other _ _ (by simp)
    obtain ⟨Z1, Z2⟩ := ONE.out _ Y1 Y2 (HB.out.setCell (show w.heap.size ≤ w.heap.size + 1 + 1 by omega) _)
    have HZ : Hid (Below w.heap.size w ((W.setCell ⟨w.heap.size + 1 + 1, 2, none⟩ (.string (sb e.field))).setRow (w.heap.size + 1) (amc (aimAtE e)))) := Z2
    clear Z2 hA HX HM HB
    rcases k3 with k3 | k3 | k3
    all_goals
      go_wp2_with (first | refine load_am rfl rfl rfl Y1 ?_ | refine store_am (x := aimAtE e) rfl rfl rfl rfl Y2 ?_)
      refine ret_am rfl rfl rfl Z1 ?_
      exact ⟨rfl, HZ.out⟩
  · have n3 : (e.kind == 3) = false := by simp only [not_or] at k3; simpa using k3.1
    have n5 : (e.kind == 5) = false := by simp only [not_or] at k3; simpa using k3.2.1
    have n7 : (e.kind == 7) = false := by simp only [not_or] at k3; simpa using k3.2.2
    by_cases k9 : e.kind = 9
    · have hA : aimAtE e = ⟨e.key, e.kind, [], e.r, e.n⟩ := by unfold aimAtE; rw [if_neg k3, if_pos k9]
      have Y1 : LiesM (W.setCells (w.heap.size + 1 + 1) 3 (dotc e.r e.n).toList) (w.heap.size + 1 + 1) (aimAtE e) := by rw [hA]; exact HX.out.setD e.r e.n
      have Y2 : LiesM (W.setCells (w.heap.size + 1 + 1) 3 (dotc e.r e.n).toList) (w.heap.size + 1) zaim := (HM.out.other _ _ (by simp)).other _ _ (by simp)
      obtain ⟨Z1, Z2⟩ := ONE.out _ Y1 Y2 ((HB.out.setCell (show w.heap.size ≤ w.heap.size + 1 + 1 by omega) _).setCell (show w.heap.size ≤ w.heap.size + 1 + 1 by omega) _)
      have HZ : Hid (Below w.heap.size w ((W.setCells (w.heap.size + 1 + 1) 3 (dotc e.r e.n).toList).setRow (w.heap.size + 1) (amc (aimAtE e)))) := Z2
      clear Z2 hA HX HM HB k3
      go_wp2_with (first | refine load_dot_at rfl rfl rfl hd ?_ | refine store_dot_at rfl rfl rfl rfl xd ?_ | refine load_am rfl rfl rfl Y1 ?_ | refine store_am (x := aimAtE e) rfl rfl rfl rfl Y2 ?_)
      refine ret_am rfl rfl rfl Z1 ?_
      exact ⟨rfl, HZ.out⟩
    · have n9 : (e.kind == 9) = false := by simpa using k9
      have hA : aimAtE e = ⟨e.key, e.kind, [], 0, 0⟩ := by unfold aimAtE; rw [if_neg k3, if_neg k9]
      have Y1 : LiesM W (w.heap.size + 1 + 1) (aimAtE e) := by rw [hA]; exact HX.out
      have Y2 : LiesM W (w.heap.size + 1) zaim := HM.out
      obtain ⟨Z1, Z2⟩ := ONE.out _ Y1 Y2 HB.out
      have HZ : Hid (Below w.heap.size w (W.setRow (w.heap.size + 1) (amc (aimAtE e)))) := Z2
      clear Z2 hA HX HM HB k3
      go_wp2_with (first | refine load_am rfl rfl rfl Y1 ?_ | refine store_am (x := aimAtE e) rfl rfl rfl rfl Y2 ?_)
      refine ret_am rfl rfl rfl Z1 ?_
      exact ⟨rfl, HZ.out⟩

/-- An event that has seen a vector. -/
def evv (v : List Int) : Ev := ⟨0, 0, 0, v, 0, [], [], [], 0, 0, 0⟩
theorem build_ev16 (x0 x1 x2 x3 x4 x5 x6 x7 x8 x9 x10 x11 x12 x13 x14 x15 : Int) (w : World) : (Instr.build 47 #[(2, .agg (vals [x0, x1, x2, x3, x4, x5, x6, x7, x8, x9, x10, x11, x12, x13, x14, x15]))]).run Tryz.prog w = .ok (.agg (evc (evv [x0, x1, x2, x3, x4, x5, x6, x7, x8, x9, x10, x11, x12, x13, x14, x15]))) w := by kernel_rfl
theorem build_ev (v : List Int) (hv : v.length = 16) (w : World) : (Instr.build 47 #[(2, .agg (vals v))]).run Tryz.prog w = .ok (.agg (evc (evv v))) w :=
  match v, hv with
  | [x0, x1, x2, x3, x4, x5, x6, x7, x8, x9, x10, x11, x12, x13, x14, x15], _ => build_ev16 x0 x1 x2 x3 x4 x5 x6 x7 x8 x9 x10 x11 x12 x13 x14 x15 w
theorem wp_build1 {ops : Array Oper} {rest : List Oper} {o : Oper} {a : Act} {w : World} {Q : Exit → Act → World → Prop} {x : Operand} {v : List Int} (hw : Region.wanted o (yielded ops a.tmps) = true) (ho : o.op = .build 47 #[(2, x)]) (hx : a.eval x = .agg (vals v)) (hv : v.length = 16)
    (h : wpList Tryz.prog ops Q rest (a.put o.dst (.agg (evc (evv v)))) w) : wpList Tryz.prog ops Q (o :: rest) a w :=
  wpList_step fun K hK => by
    rw [if_pos hw]
    have hr := build_ev v hv w
    unfold Oper.wp execOp
    simp only [ho, List.map_toArray, List.map_cons, List.map_nil, hx, Sem.run_bind, Sem.run_pure, Result.andThen_ok, hr]
    exact hK _ _ h
set_option maxHeartbeats 400000 in
theorem lcovers_any (v : List Int) (e : Ev) (hv : v.length = 16) (hl : e.deps.length = 16) (w : World) : Calls Tryz.prog 167 #[.agg (vals v), .agg (evc e)] w fun e' w' => e' = .returned (.bool (hasv v e.r e.n)) ∧ Below w.heap.size w w' := by
  have h1 : Lies ((w.alloc (.cells (vals v) 41)).alloc (.cells (evc e) 47)) w.heap.size v := (lies_new w v).alloc _
  have h2 : LiesE ((w.alloc (.cells (vals v) 41)).alloc (.cells (evc e) 47)) (w.heap.size + 1) e := by
    have := liesE_new (w.alloc (.cells (vals v) 41)) e
    simpa using this
  have HB : Hid (Below w.heap.size w ((w.alloc (.cells (vals v) 41)).alloc (.cells (evc e) 47))) := ((Below.refl _ _).alloc (Nat.le_refl _) _).alloc (by simp) _
  go_enter Tryz.func167, Tryz.ntmps167
  go_wp2_with (first | refine load_vec_w rfl rfl rfl h1 hv ?_ | refine wp_build1 rfl rfl rfl hv ?_ | refine load_ev rfl rfl rfl h2 hl ?_)
  refine (covers_any (evv v) e hv _).mono ?_
  rintro e' w1 ⟨rfl, hb1⟩
  have HB1 : Hid (Below w.heap.size w w1) := HB.out.trans (hb1.mono HB.out.size)
  clear h1 h2 hb1 HB
  go_wp2
  go_ret
  exact ⟨rfl, HB1.out⟩
end Go.Proofs.YtmlfekbmbnfkjabGreatDoor

/-
  A map from aims to vectors in memory.
-/
namespace Go.Proofs.YtmlfekbmbnfkjabGreatDoor
set_option maxRecDepth 100000
set_option maxRecDepth 100000
open Go.RowKit
open Go.ChangeMaps (setBlock heap_setBlock_same heap_setBlock_other)
open Go.MapKept (Stamped stamped_iff stamped_push stamped_modify stamped_erase stamped_empty)

abbrev AV := Aim × List Int
def kvA (p : AV) : Value × Value := (.agg (amc p.1), .agg (vals p.2))
def kvE (e : MapEntry) : Value × Value := (e.key, e.val)
/-- What is there. -/
def getA : List AV → Aim → List Int
  | [], _ => zeros
  | p :: L, x => if p.1 = x then p.2 else getA L x
theorem getA_push {L : List AV} {x : Aim} {v : List Int} (h : ∀ p ∈ L, p.1 ≠ x) (y : Aim) : getA (L ++ [(x, v)]) y = if x = y then v else getA L y := by
  induction L with
  | nil => rfl
  | cons p L ih =>
    have ih := ih (fun q hq => h q (by simp [hq]))
    have hp := h p (by simp)
    rw [List.cons_append, getA, getA]
    by_cases h1 : p.1 = y
    · have : ¬ x = y := fun e => hp (h1.trans e.symm)
      rw [if_pos h1, if_neg this, if_pos h1]
    · rw [if_neg h1, if_neg h1, ih]
theorem getA_set : ∀ {L : List AV} {x : Aim} {v v0 : List Int} {j : Nat}, L[j]? = some (x, v0) → (∀ i, i < j → ∀ p, L[i]? = some p → p.1 ≠ x) → ∀ y, getA (L.set j (x, v)) y = if x = y then v else getA L y
  | [], _, _, _, _, h, _, _ => by simp at h
  | p :: L, x, v, v0, 0, h, _, y => by
    have hp : p = (x, v0) := by simpa using h
    subst hp
    rw [List.set_cons_zero, getA, getA]
    by_cases h1 : x = y
    · rw [if_pos h1, if_pos h1]
    · rw [if_neg h1, if_neg h1, if_neg h1]
  | p :: L, x, v, v0, j + 1, h, hn, y => by
    have hp := hn 0 (by omega) p rfl
    rw [List.set_cons_succ, getA, getA, getA_set (by simpa using h) (fun i hi q hq => hn (i + 1) (by omega) q (by simpa using hq)) y]
    by_cases h1 : p.1 = y
    · have : ¬ x = y := fun e => hp (h1.trans e.symm)
      rw [if_pos h1, if_neg this, if_pos h1]
    · rw [if_neg h1, if_neg h1]
theorem amc_inj {x y : Aim} (h : Value.agg (amc x) = .agg (amc y)) : x = y := by
  cases x; cases y
  simp [amc, aml, sb_inj] at h
  simp [h]

/-- A block is a map that tells this. -/
def Mpa (w : World) (b : Nat) (F : Aim → List Int) : Prop :=
  ∃ (es : Array MapEntry) (clock : Nat) (L : List AV), w.heap[b]? = some (.map es clock) ∧ Stamped es clock ∧ es.toList.map kvE = L.map kvA ∧ (∀ x, F x = getA L x) ∧ (∀ p ∈ L, p.2.length = 16)
theorem Mpa.lt {w : World} {b : Nat} {F : Aim → List Int} (h : Mpa w b F) : b < w.heap.size := by
  obtain ⟨es, clock, L, hb, -⟩ := h
  exact (Array.getElem?_eq_some_iff.1 hb).1
theorem Mpa.kept {w w' : World} {b : Nat} {F : Aim → List Int} (h : Mpa w b F) (hk : w'.heap[b]? = w.heap[b]?) : Mpa w' b F := by
  obtain ⟨es, clock, L, hb, rest⟩ := h
  exact ⟨es, clock, L, hk.trans hb, rest⟩
theorem Mpa.below {w w' : World} {b B : Nat} {F : Aim → List Int} (h : Mpa w b F) (hb : Below B w w') (hB : b < B) : Mpa w' b F := h.kept (hb.block b hB)
theorem getA_len {L : List AV} (h : ∀ p ∈ L, p.2.length = 16) (x : Aim) : (getA L x).length = 16 := by
  induction L with
  | nil => rfl
  | cons p L ih =>
    rw [getA]
    split
    · exact h p (by simp)
    · exact ih (fun q hq => h q (by simp [hq]))
theorem Mpa.len {w : World} {b : Nat} {F : Aim → List Int} (h : Mpa w b F) (x : Aim) : (F x).length = 16 := by
  obtain ⟨es, clock, L, -, -, -, hF, hl⟩ := h
  rw [hF]; exact getA_len hl x
theorem mpa_new (w : World) : Mpa (w.alloc (.map #[] 0)) w.heap.size (fun _ => zeros) :=
  ⟨#[], 0, [], MapKept.heap_alloc w _ |>.1, stamped_empty 0, rfl, fun _ => rfl, by simp⟩

theorem run_equalIn_aim (w : World) (d : Nat) (x y : Aim) : (Op.equalIn (d + 3) 127 (.agg (amc x)) (.agg (amc y))).run Tryz.prog w = .ok (decide (x = y)) w := by
  rw [run_equalIn_struct w (d + 2) 127 _ _ (by kernel_rfl) (by kernel_rfl)]
  have hm : (Tryz.prog.fieldsOf 127).toList.map (fun f => (f.name, f.type, f.offset)) = [("key", 9, 0), ("kind", 3, 1), ("field", 9, 2), ("dot", 32, 3)] := by kernel_rfl
  have h : (Op.eqFields (d + 2) (amc x) (amc y) (Tryz.prog.fieldsOf 127).toList).run Tryz.prog w = .ok ([decide (x.key = y.key), decide (x.kind = y.kind), decide (x.field = y.field), decide (x.r = y.r ∧ x.n = y.n)].all id) w := run_eqFields hm ⟨by decide, ⟨_, _, part_str w rfl, part_str w rfl, equal_str w _ _ _⟩, by decide, ⟨_, _, part_int w rfl, part_int w rfl, equal_int w _ _ _⟩, by decide, ⟨_, _, part_str w rfl, part_str w rfl, equal_str w _ _ _⟩,
    by decide, ⟨_, _, part_dot w (ds := dotc x.r x.n) rfl, part_dot w (ds := dotc y.r y.n) rfl, run_equalIn_dot w _ _ _ _ _⟩, trivial⟩
  rw [h]
  congr 1
  cases x; cases y
  rw [Bool.eq_iff_iff]
  simp
theorem run_equal_aim (w : World) (x y : Aim) : (Op.equal 127 (.agg (amc x)) (.agg (amc y))).run Tryz.prog w = .ok (decide (x = y)) w := run_equalIn_aim w 9997 x y
theorem run_checkKey_aim (w : World) (em : Bool) (x : Aim) : (Instr.checkKey em 10000 127 (.agg (amc x))).run Tryz.prog w = .ok () w := by kernel_rfl
theorem bytes_self (s : ByteArray) : (s == s) = true := by
  show (s.data == s.data) = true
  simp
theorem run_keyStays_aim (w : World) (x : Aim) : (Instr.keyThatStays (.agg (amc x)) (.agg (amc x))).run Tryz.prog w = .ok (.agg (amc x)) w := by
  simp [Instr.keyThatStays, Instr.sameBits, amc, aml, bytes_self]

theorem run_findAsking_aim (x : Aim) : ∀ (es : List MapEntry) (L : List AV) (k : Nat), es.map kvE = L.map kvA →
    ((∀ p ∈ L, p.1 ≠ x) ∧ ∀ w, (Instr.findAsking 127 (.agg (amc x)) es k).run Tryz.prog w = .ok none w) ∨
    ∃ j v, L[j]? = some (x, v) ∧ (∀ i, i < j → ∀ p, L[i]? = some p → p.1 ≠ x) ∧ getA L x = v ∧ ∀ w, (Instr.findAsking 127 (.agg (amc x)) es k).run Tryz.prog w = .ok (some (k + j, .agg (vals v))) w
  | [], [], k, _ => .inl ⟨by simp, fun w => by simp [Instr.findAsking]⟩
  | [], _ :: _, k, h => by simp at h
  | _ :: _, [], k, h => by simp at h
  | e :: es, p :: L, k, h => by
    simp only [List.map_cons, List.cons.injEq, kvE, kvA, Prod.mk.injEq] at h
    obtain ⟨⟨h1, h2⟩, h3⟩ := h
    have ih := run_findAsking_aim x es L (k + 1) h3
    by_cases hd : x = p.1
    · subst hd
      refine .inr ⟨0, p.2, rfl, fun i hi => absurd hi (by omega), by rw [getA, if_pos rfl], fun w => ?_⟩
      simp [Instr.findAsking, Sem.run_bind, h1, h2, run_equal_aim]
    · have hs : ∀ w, (Instr.findAsking 127 (.agg (amc x)) (e :: es) k).run Tryz.prog w = (Instr.findAsking 127 (.agg (amc x)) es (k + 1)).run Tryz.prog w := fun w => by
        simp [Instr.findAsking, Sem.run_bind, h1, run_equal_aim, hd]
      have hd' : p.1 ≠ x := fun e => hd e.symm
      rcases ih with ⟨a, c⟩ | ⟨j, v, a, b, c, d⟩
      · refine .inl ⟨fun q hq => ?_, fun w => (hs w).trans (c w)⟩
        rcases List.mem_cons.1 hq with rfl | hq
        · exact hd'
        · exact a q hq
      · refine .inr ⟨j + 1, v, a, fun i hi q hq => ?_, by rw [getA, if_neg hd']; exact c, fun w => by rw [hs w, d w, show k + 1 + j = k + (j + 1) by omega]⟩
        cases i with
        | zero =>
          have : p = q := by simpa using hq
          rw [← this]; exact hd'
        | succ i => exact b i (by omega) q (by simpa using hq)
theorem run_findKey_aim (x : Aim) (es : List MapEntry) (L : List AV) (h : es.map kvE = L.map kvA) :
    ((∀ p ∈ L, p.1 ≠ x) ∧ getA L x = zeros ∧ ∀ w, (Instr.findKey 127 (.agg (amc x)) es).run Tryz.prog w = .ok none w) ∨
    ∃ j v, L[j]? = some (x, v) ∧ (∀ i, i < j → ∀ p, L[i]? = some p → p.1 ≠ x) ∧ getA L x = v ∧ ∀ w, (Instr.findKey 127 (.agg (amc x)) es).run Tryz.prog w = .ok (some (j, .agg (vals v))) w := by
  have hz : (∀ p ∈ L, p.1 ≠ x) → getA L x = zeros := fun hh => by
    clear h
    induction L with
    | nil => rfl
    | cons p L ih => rw [getA, if_neg (hh p (by simp)), ih (fun q hq => hh q (by simp [hq]))]
  cases es with
  | nil =>
    have hL : L = [] := by
      cases L with
      | nil => rfl
      | cons a L => simp at h
    subst hL
    exact .inl ⟨by simp, rfl, fun w => by simp [Instr.findKey, run_underlying Tryz.underlying127, Instr.findNow]⟩
  | cons e es =>
    have h0 := run_findAsking_aim x (e :: es) L 0 h
    have hs : ∀ w, (Instr.findKey 127 (.agg (amc x)) (e :: es)).run Tryz.prog w = (Instr.findAsking 127 (.agg (amc x)) (e :: es) 0).run Tryz.prog w := fun w => by
      simp [Instr.findKey, Sem.run_bind, run_underlying Tryz.underlying127, Instr.findNow, Instr.sameNow]
    rcases h0 with ⟨a, c⟩ | ⟨j, v, a, b, c, d⟩
    · exact .inl ⟨a, hz a, fun w => (hs w).trans (c w)⟩
    · exact .inr ⟨j, v, a, b, c, fun w => by rw [hs w, d w, Nat.zero_add]⟩
/-- 'm[x]'. -/
theorem Mpa.lookup {w : World} {b : Nat} {F : Aim → List Int} (h : Mpa w b F) (x : Aim) :
    (Instr.lookup 165 (.map (some b)) (.agg (amc x)) false).run Tryz.prog w = .ok (.agg (vals (F x))) w := by
  obtain ⟨es, clock, L, hb, hst, hL, hF, hl⟩ := h
  rw [hF]
  rcases run_findKey_aim x es.toList L hL with ⟨-, h1, h2⟩ | ⟨j, v, h1, -, h2, h3⟩
  · simp [Instr.lookup, Sem.run_bind, run_underlying Tryz.underlying165, MapKept.run_getObj_map hb, run_checkKey_aim, h2, h1, Tryz.zeroValue41, zeros_vals]
  · simp [Instr.lookup, Sem.run_bind, run_underlying Tryz.underlying165, MapKept.run_getObj_map hb, run_checkKey_aim, h3, h2]
/-- 'm[x] = v'. -/
theorem Mpa.update {w : World} {b : Nat} {F : Aim → List Int} (h : Mpa w b F) (x : Aim) (v : List Int) (hv : v.length = 16) :
    ∃ o : Obj, ∀ W : World, W.heap[b]? = w.heap[b]? → (Instr.mapUpdate 165 (.map (some b)) (.agg (amc x)) (.agg (vals v))).run Tryz.prog W = .ok () (setBlock W b o) ∧ Mpa (setBlock W b o) b (fun y => if x = y then v else F y) := by
  obtain ⟨es, clock, L, hb0, hst, hL, hF, hl⟩ := h
  rw [hb0]
  have hkeys : ∀ e ∈ es.toList, ∃ p ∈ L, e.key = .agg (amc p.1) := fun e he => by
    have : kvE e ∈ L.map kvA := by rw [← hL]; exact List.mem_map.2 ⟨e, he, rfl⟩
    obtain ⟨p, hp, e1⟩ := List.mem_map.1 this
    exact ⟨p, hp, (congrArg Prod.fst e1).symm⟩
  rcases run_findKey_aim x es.toList L hL with ⟨h1, -, h2⟩ | ⟨j, v0, h1, hn, h2, h3⟩
  · have hno : ∀ e ∈ es.toList, e.key ≠ .agg (amc x) := fun e he hk => by
      obtain ⟨p, hp, e'⟩ := hkeys e he
      rw [e'] at hk
      exact h1 p hp (amc_inj hk)
    refine ⟨.map (es.push ⟨.agg (amc x), .agg (vals v), clock⟩) (clock + 1), fun w hb => ⟨?_, _, _, L ++ [(x, v)], heap_setBlock_same hb _, stamped_push hst hno, ?_, fun y => ?_, fun p hp => ?_⟩⟩
    · simp [Instr.mapUpdate, Sem.run_bind, run_underlying Tryz.underlying165, MapKept.run_getObj_map hb, run_checkKey_aim, h2, MapKept.run_setObj_map _ hb, setBlock]
    · rw [Array.toList_push, List.map_append, hL, List.map_append]; rfl
    · show (if x = y then v else F y) = _
      rw [getA_push h1, hF]
    · rcases List.mem_append.1 hp with hp | hp
      · exact hl p hp
      · rw [List.mem_singleton.1 hp]; exact hv
  · have hjl : j < es.toList.length := by
      have h4 := (List.getElem?_eq_some_iff.1 h1).1
      have h5 := congrArg List.length hL
      simp only [List.length_map] at h5
      omega
    have hjs : j < es.size := by simpa using hjl
    obtain ⟨e0, he0⟩ : ∃ e0, es.toList[j]? = some e0 := ⟨_, List.getElem?_eq_getElem hjl⟩
    have hej : kvE e0 = kvA (x, v0) := by
      have h4 : (es.toList.map kvE)[j]? = (L.map kvA)[j]? := by rw [hL]
      rw [List.getElem?_map, List.getElem?_map, h1, he0] at h4
      simpa using h4
    have hk0 : e0.key = .agg (amc x) := congrArg Prod.fst hej
    have hj? : es[j]? = some e0 := by simpa using he0
    refine ⟨.map (es.modify j fun e => { e with key := .agg (amc x), val := .agg (vals v) }) clock, fun w hb => ⟨?_, _, _, L.set j (x, v), heap_setBlock_same hb _, stamped_modify hst _ _ (fun _ _ => rfl) (fun e _ he => ?_), ?_, fun y => ?_, fun p hp => ?_⟩⟩
    · simp [Instr.mapUpdate, Sem.run_bind, run_underlying Tryz.underlying165, MapKept.run_getObj_map hb, run_checkKey_aim, h3, MapKept.run_setObj_map _ hb, setBlock, hj?, hk0, run_keyStays_aim]
    · rw [hj?] at he
      cases he
      exact hk0.symm
    · rw [Array.toList_modify]
      apply List.ext_getElem?
      intro m
      by_cases hm : m = j
      · subst hm
        rw [List.getElem?_map, List.getElem?_map, List.getElem?_modify_eq, he0, List.getElem?_set_self (List.getElem?_eq_some_iff.1 h1).1]
        rfl
      · rw [List.getElem?_map, List.getElem?_map, List.getElem?_modify, List.getElem?_set_ne (fun e => hm (Eq.symm e))]
        have h8 : (es.toList.map kvE)[m]? = (L.map kvA)[m]? := by rw [hL]
        have h9 : ¬ j = m := fun e => hm e.symm
        simpa [h9] using h8
    · show (if x = y then v else F y) = _
      rw [getA_set h1 hn, hF]
    · rcases List.mem_or_eq_of_mem_set hp with hp | hp
      · exact hl p hp
      · rw [hp]; exact hv
theorem grownBy_setBlock (w : World) (b : Nat) (o : Obj) : w.grownBy (setBlock w b o) (some b) :=
  ⟨rfl, rfl, rfl, by simp [setBlock], fun k _ hk => by
    have hne : b ≠ k := fun e => hk (by rw [e])
    simp [setBlock, hne]⟩
end Go.Proofs.YtmlfekbmbnfkjabGreatDoor

/-
  Laws for single operations of regions that draw their order.
-/
namespace Go.Proofs.YtmlfekbmbnfkjabGreatDoor
set_option maxRecDepth 100000
set_option maxRecDepth 100000
open Go.RowKit
open Go.ChangeMaps (setBlock)

section
variable {o : Oper} {a : Act} {w w' : World} {K : Act → World → Prop} {Q : Exit → Act → World → Prop} {x y z : Operand} {v : Value} {m n : Int}
theorem exec_move (ho : o.op = .move x) (hx : a.eval x = v) : (execOp a.eval o).run Tryz.prog w = .ok (.value v) w := by
  unfold execOp; simp only [ho, hx]; rfl
theorem wp_callL {f : FuncId} {xs : List Operand} {ts : Array TypeId} {vs : List Value} {R : Ending → World → Prop} (ho : o.op = .call ⟨.value (.func f), xs.toArray, ts⟩) (ha : xs.map a.eval = vs) (hr : (callFunc f vs.toArray).run Tryz.prog w = .ok (.enter f vs.toArray) w)
    (hc : Calls Tryz.prog f vs.toArray w R) (h : ∀ e w', R e w' → ∃ u, e = .returned u ∧ K (a.put o.dst u) w') : o.wp Tryz.prog a w K Q := by
  have ha' : xs.toArray.map a.eval = vs.toArray := by rw [List.map_toArray, ha]
  have h1 : (execOp a.eval o).run Tryz.prog w = .ok (.enter f vs.toArray) w := by
    unfold execOp
    simp only [ho, resolve, Act.eval, Deferred.ofValue, Sem.run_bind, Sem.run_pure, Result.andThen_ok, invoke, Array.append_empty, Array.empty_append]
    rw [show xs.toArray.map (fun x => a.eval x) = vs.toArray from ha']
    exact hr
  unfold Oper.wp
  rw [h1, Oper.upon_enter]
  refine hc.mono (fun e w' hR => ?_)
  obtain ⟨u, rfl, hk⟩ := h e w' hR
  exact hk
theorem exec_load {ty : TypeId} {ad : Addr} (ho : o.op = .load ty x) (hx : a.eval x = .pointer (some ad)) (hr : (loadVar ty ad).run Tryz.prog w = .ok v w) : (execOp a.eval o).run Tryz.prog w = .ok (.value v) w := by
  unfold execOp
  simp only [ho, hx, Instr.loadAt, Instr.sureAddr, Sem.run_bind, Sem.run_pure, Result.andThen_ok, hr]
theorem wp_look {t : TypeId} {b : Bool} {p q : Value} (ho : o.op = .lookup t x y b) (hx : a.eval x = p) (hy : a.eval y = q) (hr : (Instr.lookup t p q b).run Tryz.prog w = .ok v w) (h : K (a.put o.dst v) w) : o.wp Tryz.prog a w K Q := by
  unfold Oper.wp execOp
  simp only [ho, hx, hy, Sem.run_bind, Sem.run_pure, Result.andThen_ok, hr]
  exact h
theorem wp_mapu {t : TypeId} {p q r : Value} (ho : o.op = .mapUpdate t x y z) (hx : a.eval x = p) (hy : a.eval y = q) (hz : a.eval z = r) (hr : (Instr.mapUpdate t p q r).run Tryz.prog w = .ok () w') (h : K (a.put o.dst undef) w') : o.wp Tryz.prog a w K Q := by
  unfold Oper.wp execOp
  simp only [ho, hx, hy, hz, Sem.run_bind, Sem.run_pure, Result.andThen_ok, hr]
  exact h
theorem exec_field {t : TypeId} {k off : Nat} {b i : Nat} (ho : o.op = .fieldAddr t x k) (hx : a.eval x = .pointer (some ⟨b, i, none⟩)) (hv : ∀ w, (Instr.fieldAt t (.pointer (some ⟨b, i, none⟩)) k).run Tryz.prog w = .ok (.pointer (some ⟨b, i + off, none⟩)) w) : (execOp a.eval o).run Tryz.prog w = .ok (.value (.pointer (some ⟨b, i + off, none⟩))) w := by
  unfold execOp; simp only [ho, hx, Sem.run_bind, hv, Result.andThen_ok, Sem.run_pure]
end

section
variable {P : Program} {o : Oper} {E : Act} {w : World}
theorem yields_lookup {t : TypeId} {b : Bool} {x y : Operand} (ho : o.op = .lookup t x y b) {vx vy v : Value} (hx : E.eval x = vx) (hy : E.eval y = vy) (hv : (Instr.lookup t vx vy b).run P w = .ok v w) : Yields P v w ((execOp E.eval o).run P w) := by
  unfold execOp; simp only [ho, hx, hy, Sem.run_bind, hv, Result.andThen_ok, Sem.run_pure]; exact ⟨rfl, Below.refl _ _⟩
end

theorem load_amr {w : World} {g : Nat} {x : Aim} (h : LiesM w g x) : (loadVar 127 ⟨g, 0, none⟩).run Tryz.prog w = .ok (.agg (amc x)) w :=
  run_loadVar_row w g 127 127 _ (0, 0) _ h Tryz.underlying127 rfl (sizeM x)
theorem load_dp {w : World} {g : Nat} {e : Ev} (h : LiesE w g e) (hl : e.deps.length = 16) : (loadVar 41 ⟨g, 0 + 3, none⟩).run Tryz.prog w = .ok (.agg (vals e.deps)) w :=
  run_loadVar_mid (P := Tryz.prog) w g 3 41 _ _ (h.deps hl) Tryz.underlying41 rfl (size16 _ hl)
theorem load_str_run {w : World} {ad : Addr} {v : Value} (h : w.cell? ad = some v) : (loadVar 9 ad).run Tryz.prog w = .ok v w := by
  have h3 : Tryz.prog.underlying 9 = some .string := by kernel_rfl
  go_simp
theorem field_e2 (w : World) (b i : Nat) : (Instr.fieldAt 47 (.pointer (some ⟨b, i, none⟩)) 2).run Tryz.prog w = .ok (.pointer (some ⟨b, i + 3, none⟩)) w := by go_simp
theorem field_e3 (w : World) (g : Nat) : (Instr.fieldAt 47 (.pointer (some ⟨g, 0, none⟩)) 3).run Tryz.prog w = .ok (.pointer (some ⟨g, 19, none⟩)) w := by kernel_rfl
theorem field_p1 (w : World) (b i : Nat) : (Instr.fieldAt 34 (.pointer (some ⟨b, i, none⟩)) 1).run Tryz.prog w = .ok (.pointer (some ⟨b, i + 1, none⟩)) w := by go_simp
theorem enters_greatest (xs : Array Value) (w : World) : (callFunc 166 xs).run Tryz.prog w = .ok (.enter 166 xs) w := enters Tryz.func166 (by kernel_rfl) (by kernel_rfl) xs w
theorem enters_wholekey (xs : Array Value) (w : World) : (callFunc 102 xs).run Tryz.prog w = .ok (.enter 102 xs) w := enters Tryz.func102 (by kernel_rfl) (by kernel_rfl) xs w
theorem enters_aimat (xs : Array Value) (w : World) : (callFunc 103 xs).run Tryz.prog w = .ok (.enter 103 xs) w := enters Tryz.func103 (by kernel_rfl) (by kernel_rfl) xs w
theorem enters_lcovers (xs : Array Value) (w : World) : (callFunc 167 xs).run Tryz.prog w = .ok (.enter 167 xs) w := enters Tryz.func167 (by kernel_rfl) (by kernel_rfl) xs w
theorem LiesM.block {w : World} {g b : Nat} {x : Aim} (h : LiesM w g x) (o : Obj) (hb : b ≠ g) : LiesM (setBlock w b o) g x := by
  rw [LiesM] at *
  simp [setBlock, hb, h]
theorem LiesE.block {w : World} {g b : Nat} {e : Ev} (h : LiesE w g e) (o : Obj) (hb : b ≠ g) : LiesE (setBlock w b o) g e := by
  rw [LiesE] at *
  simp [setBlock, hb, h]
end Go.Proofs.YtmlfekbmbnfkjabGreatDoor

