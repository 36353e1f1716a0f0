/-
  A map from aims to vectors in memory.
-/
import Derived.Test.YtmlfekbmbnfkjabGreatDoorQ11
import Derived.Maps.RangeRun
import Derived.OwnWalk
import Derived.Test.YtmlfekbmbnfkjabGreatDoorQ06
import Derived.Deep.RegionHeld3
import Derived.BigQuiet
import Derived.Test.YtmlfekbmbnfkjabGreatDoorQ08
import Derived.Test.YtmlfekbmbnfkjabGreatDoorQ05
namespace Go.Proofs.YtmlfekbmbnfkjabGreatDoor
set_option maxRecDepth 100000
set_option maxRecDepth 100000
open Go.RowKit
open Go.ChangeMaps (setBlock heap_setBlock_same heap_setBlock_other)
open Go.MapKept (Stamped stamped_iff stamped_push stamped_modify stamped_erase stamped_empty)

abbrev AV := Aim × List Int
def kvA (p : AV) : Value × Value := (.agg (amc p.1), .agg (vals p.2))
def kvE (e : MapEntry) : Value × Value := (e.key, e.val)
/-- What is there. -/
def getA : List AV → Aim → List Int
  | [], _ => zeros
  | p :: L, x => if p.1 = x then p.2 else getA L x
theorem getA_push {L : List AV} {x : Aim} {v : List Int} (h : ∀ p ∈ L, p.1 ≠ x) (y : Aim) : getA (L ++ [(x, v)]) y = if x = y then v else getA L y := by
  induction L with
  | nil => rfl
  | cons p L ih =>
    have ih := ih (fun q hq => h q (by simp [hq]))
    have hp := h p (by simp)
    rw [List.cons_append, getA, getA]
    by_cases h1 : p.1 = y
    · have : ¬ x = y := fun e => hp (h1.trans e.symm)
      rw [if_pos h1, if_neg this, if_pos h1]
    · rw [if_neg h1, if_neg h1, ih]
theorem getA_set : ∀ {L : List AV} {x : Aim} {v v0 : List Int} {j : Nat}, L[j]? = some (x, v0) → (∀ i, i < j → ∀ p, L[i]? = some p → p.1 ≠ x) → ∀ y, getA (L.set j (x, v)) y = if x = y then v else getA L y
  | [], _, _, _, _, h, _, _ => by simp at h
  | p :: L, x, v, v0, 0, h, _, y => by
    have hp : p = (x, v0) := by simpa using h
    subst hp
    rw [List.set_cons_zero, getA, getA]
    by_cases h1 : x = y
    · rw [if_pos h1, if_pos h1]
    · rw [if_neg h1, if_neg h1, if_neg h1]
  | p :: L, x, v, v0, j + 1, h, hn, y => by
    have hp := hn 0 (by omega) p rfl
    rw [List.set_cons_succ, getA, getA, getA_set (by simpa using h) (fun i hi q hq => hn (i + 1) (by omega) q (by simpa using hq)) y]
    by_cases h1 : p.1 = y
    · have : ¬ x = y := fun e => hp (h1.trans e.symm)
      rw [if_pos h1, if_neg this, if_pos h1]
    · rw [if_neg h1, if_neg h1]
theorem amc_inj {x y : Aim} (h : Value.agg (amc x) = .agg (amc y)) : x = y := by
  cases x; cases y
  simp [amc, aml, sb_inj] at h
  simp [h]

/-- A block is a map that tells this. -/
def Mpa (w : World) (b : Nat) (F : Aim → List Int) : Prop :=
  ∃ (es : Array MapEntry) (clock : Nat) (L : List AV), w.heap[b]? = some (.map es clock) ∧ Stamped es clock ∧ es.toList.map kvE = L.map kvA ∧ (∀ x, F x = getA L x) ∧ (∀ p ∈ L, p.2.length = 16)
theorem Mpa.lt {w : World} {b : Nat} {F : Aim → List Int} (h : Mpa w b F) : b < w.heap.size := by
  obtain ⟨es, clock, L, hb, -⟩ := h
  exact (Array.getElem?_eq_some_iff.1 hb).1
theorem Mpa.kept {w w' : World} {b : Nat} {F : Aim → List Int} (h : Mpa w b F) (hk : w'.heap[b]? = w.heap[b]?) : Mpa w' b F := by
  obtain ⟨es, clock, L, hb, rest⟩ := h
  exact ⟨es, clock, L, hk.trans hb, rest⟩
theorem Mpa.below {w w' : World} {b B : Nat} {F : Aim → List Int} (h : Mpa w b F) (hb : Below B w w') (hB : b < B) : Mpa w' b F := h.kept (hb.block b hB)
theorem getA_len {L : List AV} (h : ∀ p ∈ L, p.2.length = 16) (x : Aim) : (getA L x).length = 16 := by
  induction L with
  | nil => rfl
  | cons p L ih =>
    rw [getA]
    split
    · exact h p (by simp)
    · exact ih (fun q hq => h q (by simp [hq]))
theorem Mpa.len {w : World} {b : Nat} {F : Aim → List Int} (h : Mpa w b F) (x : Aim) : (F x).length = 16 := by
  obtain ⟨es, clock, L, -, -, -, hF, hl⟩ := h
  rw [hF]; exact getA_len hl x
theorem mpa_new (w : World) : Mpa (w.alloc (.map #[] 0)) w.heap.size (fun _ => zeros) :=
  ⟨#[], 0, [], MapKept.heap_alloc w _ |>.1, stamped_empty 0, rfl, fun _ => rfl, by simp⟩

theorem run_equalIn_aim (w : World) (d : Nat) (x y : Aim) : (Op.equalIn (d + 3) 127 (.agg (amc x)) (.agg (amc y))).run Tryz.prog w = .ok (decide (x = y)) w := by
  rw [run_equalIn_struct w (d + 2) 127 _ _ (by kernel_rfl) (by kernel_rfl)]
  have hm : (Tryz.prog.fieldsOf 127).toList.map (fun f => (f.name, f.type, f.offset)) = [("key", 9, 0), ("kind", 3, 1), ("field", 9, 2), ("dot", 32, 3)] := by kernel_rfl
  have h : (Op.eqFields (d + 2) (amc x) (amc y) (Tryz.prog.fieldsOf 127).toList).run Tryz.prog w = .ok ([decide (x.key = y.key), decide (x.kind = y.kind), decide (x.field = y.field), decide (x.r = y.r ∧ x.n = y.n)].all id) w := run_eqFields hm ⟨by decide, ⟨_, _, part_str w rfl, part_str w rfl, equal_str w _ _ _⟩, by decide, ⟨_, _, part_int w rfl, part_int w rfl, equal_int w _ _ _⟩, by decide, ⟨_, _, part_str w rfl, part_str w rfl, equal_str w _ _ _⟩,
    by decide, ⟨_, _, part_dot w (ds := dotc x.r x.n) rfl, part_dot w (ds := dotc y.r y.n) rfl, run_equalIn_dot w _ _ _ _ _⟩, trivial⟩
  rw [h]
  congr 1
  cases x; cases y
  rw [Bool.eq_iff_iff]
  simp
theorem run_equal_aim (w : World) (x y : Aim) : (Op.equal 127 (.agg (amc x)) (.agg (amc y))).run Tryz.prog w = .ok (decide (x = y)) w := run_equalIn_aim w 9997 x y
theorem run_checkKey_aim (w : World) (em : Bool) (x : Aim) : (Instr.checkKey em 10000 127 (.agg (amc x))).run Tryz.prog w = .ok () w := by kernel_rfl
theorem bytes_self (s : ByteArray) : (s == s) = true := by
  show (s.data == s.data) = true
  simp
theorem run_keyStays_aim (w : World) (x : Aim) : (Instr.keyThatStays (.agg (amc x)) (.agg (amc x))).run Tryz.prog w = .ok (.agg (amc x)) w := by
  simp [Instr.keyThatStays, Instr.sameBits, amc, aml, bytes_self]

theorem run_findAsking_aim (x : Aim) : ∀ (es : List MapEntry) (L : List AV) (k : Nat), es.map kvE = L.map kvA →
    ((∀ p ∈ L, p.1 ≠ x) ∧ ∀ w, (Instr.findAsking 127 (.agg (amc x)) es k).run Tryz.prog w = .ok none w) ∨
    ∃ j v, L[j]? = some (x, v) ∧ (∀ i, i < j → ∀ p, L[i]? = some p → p.1 ≠ x) ∧ getA L x = v ∧ ∀ w, (Instr.findAsking 127 (.agg (amc x)) es k).run Tryz.prog w = .ok (some (k + j, .agg (vals v))) w
  | [], [], k, _ => .inl ⟨by simp, fun w => by simp [Instr.findAsking]⟩
  | [], _ :: _, k, h => by simp at h
  | _ :: _, [], k, h => by simp at h
  | e :: es, p :: L, k, h => by
    simp only [List.map_cons, List.cons.injEq, kvE, kvA, Prod.mk.injEq] at h
    obtain ⟨⟨h1, h2⟩, h3⟩ := h
    have ih := run_findAsking_aim x es L (k + 1) h3
    by_cases hd : x = p.1
    · subst hd
      refine .inr ⟨0, p.2, rfl, fun i hi => absurd hi (by omega), by rw [getA, if_pos rfl], fun w => ?_⟩
      simp [Instr.findAsking, Sem.run_bind, h1, h2, run_equal_aim]
    · have hs : ∀ w, (Instr.findAsking 127 (.agg (amc x)) (e :: es) k).run Tryz.prog w = (Instr.findAsking 127 (.agg (amc x)) es (k + 1)).run Tryz.prog w := fun w => by
        simp [Instr.findAsking, Sem.run_bind, h1, run_equal_aim, hd]
      have hd' : p.1 ≠ x := fun e => hd e.symm
      rcases ih with ⟨a, c⟩ | ⟨j, v, a, b, c, d⟩
      · refine .inl ⟨fun q hq => ?_, fun w => (hs w).trans (c w)⟩
        rcases List.mem_cons.1 hq with rfl | hq
        · exact hd'
        · exact a q hq
      · refine .inr ⟨j + 1, v, a, fun i hi q hq => ?_, by rw [getA, if_neg hd']; exact c, fun w => by rw [hs w, d w, show k + 1 + j = k + (j + 1) by omega]⟩
        cases i with
        | zero =>
          have : p = q := by simpa using hq
          rw [← this]; exact hd'
        | succ i => exact b i (by omega) q (by simpa using hq)
theorem run_findKey_aim (x : Aim) (es : List MapEntry) (L : List AV) (h : es.map kvE = L.map kvA) :
    ((∀ p ∈ L, p.1 ≠ x) ∧ getA L x = zeros ∧ ∀ w, (Instr.findKey 127 (.agg (amc x)) es).run Tryz.prog w = .ok none w) ∨
    ∃ j v, L[j]? = some (x, v) ∧ (∀ i, i < j → ∀ p, L[i]? = some p → p.1 ≠ x) ∧ getA L x = v ∧ ∀ w, (Instr.findKey 127 (.agg (amc x)) es).run Tryz.prog w = .ok (some (j, .agg (vals v))) w := by
  have hz : (∀ p ∈ L, p.1 ≠ x) → getA L x = zeros := fun hh => by
    clear h
    induction L with
    | nil => rfl
    | cons p L ih => rw [getA, if_neg (hh p (by simp)), ih (fun q hq => hh q (by simp [hq]))]
  cases es with
  | nil =>
    have hL : L = [] := by
      cases L with
      | nil => rfl
      | cons a L => simp at h
    subst hL
    exact .inl ⟨by simp, rfl, fun w => by simp [Instr.findKey, run_underlying Tryz.underlying127, Instr.findNow]⟩
  | cons e es =>
    have h0 := run_findAsking_aim x (e :: es) L 0 h
    have hs : ∀ w, (Instr.findKey 127 (.agg (amc x)) (e :: es)).run Tryz.prog w = (Instr.findAsking 127 (.agg (amc x)) (e :: es) 0).run Tryz.prog w := fun w => by
      simp [Instr.findKey, Sem.run_bind, run_underlying Tryz.underlying127, Instr.findNow, Instr.sameNow]
    rcases h0 with ⟨a, c⟩ | ⟨j, v, a, b, c, d⟩
    · exact .inl ⟨a, hz a, fun w => (hs w).trans (c w)⟩
    · exact .inr ⟨j, v, a, b, c, fun w => by rw [hs w, d w, Nat.zero_add]⟩
/-- 'm[x]'. -/
theorem Mpa.lookup {w : World} {b : Nat} {F : Aim → List Int} (h : Mpa w b F) (x : Aim) :
    (Instr.lookup 165 (.map (some b)) (.agg (amc x)) false).run Tryz.prog w = .ok (.agg (vals (F x))) w := by
  obtain ⟨es, clock, L, hb, hst, hL, hF, hl⟩ := h
  rw [hF]
  rcases run_findKey_aim x es.toList L hL with ⟨-, h1, h2⟩ | ⟨j, v, h1, -, h2, h3⟩
  · simp [Instr.lookup, Sem.run_bind, run_underlying Tryz.underlying165, MapKept.run_getObj_map hb, run_checkKey_aim, h2, h1, Tryz.zeroValue41, zeros_vals]
  · simp [Instr.lookup, Sem.run_bind, run_underlying Tryz.underlying165, MapKept.run_getObj_map hb, run_checkKey_aim, h3, h2]
/-- 'm[x] = v'. -/
theorem Mpa.update {w : World} {b : Nat} {F : Aim → List Int} (h : Mpa w b F) (x : Aim) (v : List Int) (hv : v.length = 16) :
    ∃ o : Obj, ∀ W : World, W.heap[b]? = w.heap[b]? → (Instr.mapUpdate 165 (.map (some b)) (.agg (amc x)) (.agg (vals v))).run Tryz.prog W = .ok () (setBlock W b o) ∧ Mpa (setBlock W b o) b (fun y => if x = y then v else F y) := by
  obtain ⟨es, clock, L, hb0, hst, hL, hF, hl⟩ := h
  rw [hb0]
  have hkeys : ∀ e ∈ es.toList, ∃ p ∈ L, e.key = .agg (amc p.1) := fun e he => by
    have : kvE e ∈ L.map kvA := by rw [← hL]; exact List.mem_map.2 ⟨e, he, rfl⟩
    obtain ⟨p, hp, e1⟩ := List.mem_map.1 this
    exact ⟨p, hp, (congrArg Prod.fst e1).symm⟩
  rcases run_findKey_aim x es.toList L hL with ⟨h1, -, h2⟩ | ⟨j, v0, h1, hn, h2, h3⟩
  · have hno : ∀ e ∈ es.toList, e.key ≠ .agg (amc x) := fun e he hk => by
      obtain ⟨p, hp, e'⟩ := hkeys e he
      rw [e'] at hk
      exact h1 p hp (amc_inj hk)
    refine ⟨.map (es.push ⟨.agg (amc x), .agg (vals v), clock⟩) (clock + 1), fun w hb => ⟨?_, _, _, L ++ [(x, v)], heap_setBlock_same hb _, stamped_push hst hno, ?_, fun y => ?_, fun p hp => ?_⟩⟩
    · simp [Instr.mapUpdate, Sem.run_bind, run_underlying Tryz.underlying165, MapKept.run_getObj_map hb, run_checkKey_aim, h2, MapKept.run_setObj_map _ hb, setBlock]
    · rw [Array.toList_push, List.map_append, hL, List.map_append]; rfl
    · show (if x = y then v else F y) = _
      rw [getA_push h1, hF]
    · rcases List.mem_append.1 hp with hp | hp
      · exact hl p hp
      · rw [List.mem_singleton.1 hp]; exact hv
  · have hjl : j < es.toList.length := by
      have h4 := (List.getElem?_eq_some_iff.1 h1).1
      have h5 := congrArg List.length hL
      simp only [List.length_map] at h5
      omega
    have hjs : j < es.size := by simpa using hjl
    obtain ⟨e0, he0⟩ : ∃ e0, es.toList[j]? = some e0 := ⟨_, List.getElem?_eq_getElem hjl⟩
    have hej : kvE e0 = kvA (x, v0) := by
      have h4 : (es.toList.map kvE)[j]? = (L.map kvA)[j]? := by rw [hL]
      rw [List.getElem?_map, List.getElem?_map, h1, he0] at h4
      simpa using h4
    have hk0 : e0.key = .agg (amc x) := congrArg Prod.fst hej
    have hj? : es[j]? = some e0 := by simpa using he0
    refine ⟨.map (es.modify j fun e => { e with key := .agg (amc x), val := .agg (vals v) }) clock, fun w hb => ⟨?_, _, _, L.set j (x, v), heap_setBlock_same hb _, stamped_modify hst _ _ (fun _ _ => rfl) (fun e _ he => ?_), ?_, fun y => ?_, fun p hp => ?_⟩⟩
    · simp [Instr.mapUpdate, Sem.run_bind, run_underlying Tryz.underlying165, MapKept.run_getObj_map hb, run_checkKey_aim, h3, MapKept.run_setObj_map _ hb, setBlock, hj?, hk0, run_keyStays_aim]
    · rw [hj?] at he
      cases he
      exact hk0.symm
    · rw [Array.toList_modify]
      apply List.ext_getElem?
      intro m
      by_cases hm : m = j
      · subst hm
        rw [List.getElem?_map, List.getElem?_map, List.getElem?_modify_eq, he0, List.getElem?_set_self (List.getElem?_eq_some_iff.1 h1).1]
        rfl
      · rw [List.getElem?_map, List.getElem?_map, List.getElem?_modify, List.getElem?_set_ne (fun e => hm (Eq.symm e))]
        have h8 : (es.toList.map kvE)[m]? = (L.map kvA)[m]? := by rw [hL]
        have h9 : ¬ j = m := fun e => hm e.symm
        simpa [h9] using h8
    · show (if x = y then v else F y) = _
      rw [getA_set h1 hn, hF]
    · rcases List.mem_or_eq_of_mem_set hp with hp | hp
      · exact hl p hp
      · rw [hp]; exact hv
theorem grownBy_setBlock (w : World) (b : Nat) (o : Obj) : w.grownBy (setBlock w b o) (some b) :=
  ⟨rfl, rfl, rfl, by simp [setBlock], fun k _ hk => by
    have hne : b ≠ k := fun e => hk (by rw [e])
    simp [setBlock, hne]⟩
end Go.Proofs.YtmlfekbmbnfkjabGreatDoor

/-
  Laws for single operations of regions that draw their order.
-/
namespace Go.Proofs.YtmlfekbmbnfkjabGreatDoor
set_option maxRecDepth 100000
set_option maxRecDepth 100000
open Go.RowKit
open Go.ChangeMaps (setBlock)

section
variable {o : Oper} {a : Act} {w w' : World} {K : Act → World → Prop} {Q : Exit → Act → World → Prop} {x y z : Operand} {v : Value} {m n : Int}
theorem exec_move (ho : o.op = .move x) (hx : a.eval x = v) : (execOp a.eval o).run Tryz.prog w = .ok (.value v) w := by
  unfold execOp; simp only [ho, hx]; rfl
theorem wp_callL {f : FuncId} {xs : List Operand} {ts : Array TypeId} {vs : List Value} {R : Ending → World → Prop} (ho : o.op = .call ⟨.value (.func f), xs.toArray, ts⟩) (ha : xs.map a.eval = vs) (hr : (callFunc f vs.toArray).run Tryz.prog w = .ok (.enter f vs.toArray) w)
    (hc : Calls Tryz.prog f vs.toArray w R) (h : ∀ e w', R e w' → ∃ u, e = .returned u ∧ K (a.put o.dst u) w') : o.wp Tryz.prog a w K Q := by
  have ha' : xs.toArray.map a.eval = vs.toArray := by rw [List.map_toArray, ha]
  have h1 : (execOp a.eval o).run Tryz.prog w = .ok (.enter f vs.toArray) w := by
    unfold execOp
    simp only [ho, resolve, Act.eval, Deferred.ofValue, Sem.run_bind, Sem.run_pure, Result.andThen_ok, invoke, Array.append_empty, Array.empty_append]
    rw [show xs.toArray.map (fun x => a.eval x) = vs.toArray from ha']
    exact hr
  unfold Oper.wp
  rw [h1, Oper.upon_enter]
  refine hc.mono (fun e w' hR => ?_)
  obtain ⟨u, rfl, hk⟩ := h e w' hR
  exact hk
theorem exec_load {ty : TypeId} {ad : Addr} (ho : o.op = .load ty x) (hx : a.eval x = .pointer (some ad)) (hr : (loadVar ty ad).run Tryz.prog w = .ok v w) : (execOp a.eval o).run Tryz.prog w = .ok (.value v) w := by
  unfold execOp
  simp only [ho, hx, Instr.loadAt, Instr.sureAddr, Sem.run_bind, Sem.run_pure, Result.andThen_ok, hr]
theorem wp_look {t : TypeId} {b : Bool} {p q : Value} (ho : o.op = .lookup t x y b) (hx : a.eval x = p) (hy : a.eval y = q) (hr : (Instr.lookup t p q b).run Tryz.prog w = .ok v w) (h : K (a.put o.dst v) w) : o.wp Tryz.prog a w K Q := by
  unfold Oper.wp execOp
  simp only [ho, hx, hy, Sem.run_bind, Sem.run_pure, Result.andThen_ok, hr]
  exact h
theorem wp_mapu {t : TypeId} {p q r : Value} (ho : o.op = .mapUpdate t x y z) (hx : a.eval x = p) (hy : a.eval y = q) (hz : a.eval z = r) (hr : (Instr.mapUpdate t p q r).run Tryz.prog w = .ok () w') (h : K (a.put o.dst undef) w') : o.wp Tryz.prog a w K Q := by
  unfold Oper.wp execOp
  simp only [ho, hx, hy, hz, Sem.run_bind, Sem.run_pure, Result.andThen_ok, hr]
  exact h
theorem exec_field {t : TypeId} {k off : Nat} {b i : Nat} (ho : o.op = .fieldAddr t x k) (hx : a.eval x = .pointer (some ⟨b, i, none⟩)) (hv : ∀ w, (Instr.fieldAt t (.pointer (some ⟨b, i, none⟩)) k).run Tryz.prog w = .ok (.pointer (some ⟨b, i + off, none⟩)) w) : (execOp a.eval o).run Tryz.prog w = .ok (.value (.pointer (some ⟨b, i + off, none⟩))) w := by
  unfold execOp; simp only [ho, hx, Sem.run_bind, hv, Result.andThen_ok, Sem.run_pure]
end
section
variable {P : Program} {o : Oper} {E : Act} {w : World}
theorem yields_lookup {t : TypeId} {b : Bool} {x y : Operand} (ho : o.op = .lookup t x y b) {vx vy v : Value} (hx : E.eval x = vx) (hy : E.eval y = vy) (hv : (Instr.lookup t vx vy b).run P w = .ok v w) : Yields P v w ((execOp E.eval o).run P w) := by
  unfold execOp; simp only [ho, hx, hy, Sem.run_bind, hv, Result.andThen_ok, Sem.run_pure]; exact ⟨rfl, Below.refl _ _⟩
end
theorem load_amr {w : World} {g : Nat} {x : Aim} (h : LiesM w g x) : (loadVar 127 ⟨g, 0, none⟩).run Tryz.prog w = .ok (.agg (amc x)) w :=
  run_loadVar_row w g 127 127 _ (0, 0) _ h Tryz.underlying127 rfl (sizeM x)
theorem load_dp {w : World} {g : Nat} {e : Ev} (h : LiesE w g e) (hl : e.deps.length = 16) : (loadVar 41 ⟨g, 0 + 3, none⟩).run Tryz.prog w = .ok (.agg (vals e.deps)) w :=
  run_loadVar_mid (P := Tryz.prog) w g 3 41 _ _ (h.deps hl) Tryz.underlying41 rfl (size16 _ hl)
theorem load_str_run {w : World} {ad : Addr} {v : Value} (h : w.cell? ad = some v) : (loadVar 9 ad).run Tryz.prog w = .ok v w := by
  have h3 : Tryz.prog.underlying 9 = some .string := by kernel_rfl
  go_simp
theorem field_e2 (w : World) (b i : Nat) : (Instr.fieldAt 47 (.pointer (some ⟨b, i, none⟩)) 2).run Tryz.prog w = .ok (.pointer (some ⟨b, i + 3, none⟩)) w := by go_simp
theorem field_e3 (w : World) (g : Nat) : (Instr.fieldAt 47 (.pointer (some ⟨g, 0, none⟩)) 3).run Tryz.prog w = .ok (.pointer (some ⟨g, 19, none⟩)) w := by kernel_rfl
theorem field_p1 (w : World) (b i : Nat) : (Instr.fieldAt 34 (.pointer (some ⟨b, i, none⟩)) 1).run Tryz.prog w = .ok (.pointer (some ⟨b, i + 1, none⟩)) w := by go_simp
theorem enters_greatest (xs : Array Value) (w : World) : (callFunc 166 xs).run Tryz.prog w = .ok (.enter 166 xs) w := enters Tryz.func166 (by kernel_rfl) (by kernel_rfl) xs w
theorem enters_wholekey (xs : Array Value) (w : World) : (callFunc 102 xs).run Tryz.prog w = .ok (.enter 102 xs) w := enters Tryz.func102 (by kernel_rfl) (by kernel_rfl) xs w
theorem enters_aimat (xs : Array Value) (w : World) : (callFunc 103 xs).run Tryz.prog w = .ok (.enter 103 xs) w := enters Tryz.func103 (by kernel_rfl) (by kernel_rfl) xs w
theorem enters_lcovers (xs : Array Value) (w : World) : (callFunc 167 xs).run Tryz.prog w = .ok (.enter 167 xs) w := enters Tryz.func167 (by kernel_rfl) (by kernel_rfl) xs w
theorem LiesM.block {w : World} {g b : Nat} {x : Aim} (h : LiesM w g x) (o : Obj) (hb : b ≠ g) : LiesM (setBlock w b o) g x := by
  rw [LiesM] at *
  simp [setBlock, hb, h]
theorem LiesE.block {w : World} {g b : Nat} {e : Ev} (h : LiesE w g e) (o : Obj) (hb : b ≠ g) : LiesE (setBlock w b o) g e := by
  rw [LiesE] at *
  simp [setBlock, hb, h]
end Go.Proofs.YtmlfekbmbnfkjabGreatDoor

/-
  Laws for single operations of regions that draw their order.
-/
namespace Go.Proofs.YtmlfekbmbnfkjabGreatDoor
set_option maxRecDepth 100000
open Go.RowKit
open Go.ChangeMaps (setBlock)

section
variable {o : Oper} {a : Act} {w w' : World} {K : Act → World → Prop} {Q : Exit → Act → World → Prop} {x y z u : Operand} {v p q r s : Value} {ty t1 t2 : TypeId} {ad : Addr}
theorem y_move (ho : o.op = .move x) (hx : a.eval x = v) : (execOp a.eval o).run Tryz.prog w = .ok (.value v) w := by
  unfold execOp; simp only [ho, hx]; rfl
theorem y_assign (ho : o.op = .assign x) (hx : a.eval x = v) : (execOp a.eval o).run Tryz.prog w = .ok (.value v) w := by
  unfold execOp; simp only [ho, hx]; rfl
theorem y_nil (ho : o.op = .nilCheck x) (hx : a.eval x = .pointer (some ad)) : (execOp a.eval o).run Tryz.prog w = .ok (.value (.pointer (some ad))) w := by
  unfold execOp; simp only [ho, hx]; rfl
theorem y_load (ho : o.op = .load ty x) (hx : a.eval x = .pointer (some ad)) (hr : (loadVar ty ad).run Tryz.prog w = .ok v w) : (execOp a.eval o).run Tryz.prog w = .ok (.value v) w := by
  unfold execOp
  simp only [ho, hx, Instr.loadAt, Instr.sureAddr, Sem.run_bind, Sem.run_pure, Result.andThen_ok, hr]
theorem y_index (ho : o.op = .indexAddr ty x y) (hx : a.eval x = p) (hy : a.eval y = q) (hv : (Instr.indexAt ty p q).run Tryz.prog w = .ok v w) : (execOp a.eval o).run Tryz.prog w = .ok (.value v) w := by
  unfold execOp; simp only [ho, hx, hy, Sem.run_bind, hv, Result.andThen_ok, Sem.run_pure]
theorem y_field {k : Nat} (ho : o.op = .fieldAddr ty x k) (hx : a.eval x = p) (hv : (Instr.fieldAt ty p k).run Tryz.prog w = .ok v w) : (execOp a.eval o).run Tryz.prog w = .ok (.value v) w := by
  unfold execOp; simp only [ho, hx, Sem.run_bind, hv, Result.andThen_ok, Sem.run_pure]
theorem y_extract {k : Nat} {vs : Array Value} (ho : o.op = .extract x k) (hx : a.eval x = .tuple vs) (hk : vs[k]? = some v) : (execOp a.eval o).run Tryz.prog w = .ok (.value v) w := by
  unfold execOp
  simp [ho, hx, Instr.extract, hk]
theorem y_b2 {i j : Nat} (ho : o.op = .build ty #[(i, x), (j, y)]) (hx : a.eval x = p) (hy : a.eval y = q) (hr : (Instr.build ty #[(i, p), (j, q)]).run Tryz.prog w = .ok v w) : (execOp a.eval o).run Tryz.prog w = .ok (.value v) w := by
  unfold execOp
  simp only [ho, List.map_toArray, List.map_cons, List.map_nil, hx, hy, Sem.run_bind, Sem.run_pure, Result.andThen_ok, hr]
theorem y_mapu (ho : o.op = .mapUpdate ty x y z) (hx : a.eval x = p) (hy : a.eval y = q) (hz : a.eval z = r) (hr : (Instr.mapUpdate ty p q r).run Tryz.prog w = .ok () w') (h : K (a.put o.dst undef) w') : o.wp Tryz.prog a w K Q := by
  unfold Oper.wp execOp
  simp only [ho, hx, hy, hz, Sem.run_bind, Sem.run_pure, Result.andThen_ok, hr]
  exact h
theorem y_del (ho : o.op = .call { callee := .builtin .delete, args := #[x, y], argTypes := #[t1, t2] }) (hx : a.eval x = p) (hy : a.eval y = q) (hr : (Builtin.delete_ #[t1, t2] o.type #[p, q]).run Tryz.prog w = .ok v w') (h : K (a.put o.dst v) w') : o.wp Tryz.prog a w K Q := by
  unfold Oper.wp execOp
  simp only [ho, resolve, invoke, builtin, Sem.run_bind, Sem.run_pure, Result.andThen_ok, List.map_toArray, List.map_cons, List.map_nil, hx, hy, hr]
  exact h
theorem y_call {f : FuncId} {xs : List Operand} {ts : Array TypeId} {vs : List Value} {R : Ending → World → Prop} (ho : o.op = .call ⟨.value (.func f), xs.toArray, ts⟩) (ha : xs.map a.eval = vs) (hr : (callFunc f vs.toArray).run Tryz.prog w = .ok (.enter f vs.toArray) w)
    (hc : Calls Tryz.prog f vs.toArray w R) (h : ∀ e w', R e w' → ∃ u, e = .returned u ∧ K (a.put o.dst u) w') : o.wp Tryz.prog a w K Q := by
  have ha' : xs.toArray.map a.eval = vs.toArray := by rw [List.map_toArray, ha]
  have h1 : (execOp a.eval o).run Tryz.prog w = .ok (.enter f vs.toArray) w := by
    unfold execOp
    simp only [ho, resolve, Act.eval, Deferred.ofValue, Sem.run_bind, Sem.run_pure, Result.andThen_ok, invoke, Array.append_empty, Array.empty_append]
    rw [show xs.toArray.map (fun x => a.eval x) = vs.toArray from ha']
    exact hr
  unfold Oper.wp
  rw [h1, Oper.upon_enter]
  refine hc.mono (fun e w' hR => ?_)
  obtain ⟨u, rfl, hk⟩ := h e w' hR
  exact hk
theorem y_store (ho : o.op = .store ty x y) (hx : a.eval x = .pointer (some ad)) (hy : a.eval y = v) (hr : (storeVar ty ad v).run Tryz.prog w = .ok () w') (h : K (a.put o.dst undef) w') : o.wp Tryz.prog a w K Q := by
  unfold Oper.wp execOp
  simp only [ho, hx, hy, Instr.storeAt, Instr.sureAddr, Sem.run_bind, Sem.run_pure, Result.andThen_ok, hr]
  exact h
end
section
variable {P : Program} {w w' : World} {ops : Array Oper} {rest : List Oper} {o : Oper} {a : Act} {Q : Exit → Act → World → Prop} {x y : Operand} {ty : TypeId} {ad : Addr} {v : Value}
theorem wpList_loadR (hg : o.guard = none) (ho : o.op = .load ty x) (hx : a.eval x = .pointer (some ad)) (hr : (loadVar ty ad).run P w = .ok v w) (hK : wpList P ops Q rest (a.put o.dst v) w) : wpList P ops Q (o :: rest) a w :=
  wpList_plain hg fun K hK' => by
    unfold Oper.wp execOp
    simp only [ho, hx, Instr.loadAt, Instr.sureAddr, Sem.run_bind, Sem.run_pure, Result.andThen_ok, hr]
    exact hK' _ _ hK
theorem wpList_loadW (hw : Region.wanted o (yielded ops a.tmps) = true) (ho : o.op = .load ty x) (hx : a.eval x = .pointer (some ad)) (hr : (loadVar ty ad).run P w = .ok v w) (hK : wpList P ops Q rest (a.put o.dst v) w) : wpList P ops Q (o :: rest) a w := by
  refine wpList_step fun K hK' => ?_
  rw [if_pos hw]
  unfold Oper.wp execOp
  simp only [ho, hx, Instr.loadAt, Instr.sureAddr, Sem.run_bind, Sem.run_pure, Result.andThen_ok, hr]
  exact hK' _ _ hK
theorem wpList_storeR (hg : o.guard = none) (ho : o.op = .store ty x y) (hx : a.eval x = .pointer (some ad)) (hy : a.eval y = v) (hr : (storeVar ty ad v).run P w = .ok () w') (hK : wpList P ops Q rest (a.put o.dst undef) w') : wpList P ops Q (o :: rest) a w :=
  wpList_plain hg fun K hK' => by
    unfold Oper.wp execOp
    simp only [ho, hx, hy, Instr.storeAt, Instr.sureAddr, Sem.run_bind, Sem.run_pure, Result.andThen_ok, hr]
    exact hK' _ _ hK
end Go.Proofs.YtmlfekbmbnfkjabGreatDoor

/-
  A bag's map in memory: one entry a thing, under its dot; what is stored, looked up, deleted.
-/
namespace Go.Proofs.YtmlfekbmbnfkjabGreatDoor.E
set_option maxRecDepth 100000
open Go.RowKit
open Go.ChangeMaps (setBlock heap_setBlock_same heap_setBlock_other)
open Go.MapKept (Stamped stamped_iff stamped_push stamped_modify stamped_erase stamped_empty)

def kvI (i : It (Cx 26)) : Value × Value := (.agg (dotc i.r i.n), .agg (xc i))
def kvE (e : MapEntry) : Value × Value := (e.key, e.val)
theorem dotc_inj {r n r' n' : Int} (h : (Value.agg (dotc r n)) = .agg (dotc r' n')) : r = r' ∧ n = n' := by
  simpa [dotc] using h

/-- A block is a map of these things. -/
def Mp (w : World) (b : Nat) (S : List (It (Cx 26))) : Prop :=
  ∃ (es : Array MapEntry) (clock : Nat) (L : List (It (Cx 26))), w.heap[b]? = some (.map es clock) ∧ Stamped es clock ∧ es.toList.map kvE = L.map kvI ∧ L.Perm S ∧ Srt S

theorem Mp.lt {w : World} {b : Nat} {S : List (It (Cx 26))} (h : Mp w b S) : b < w.heap.size := by
  obtain ⟨es, clock, L, hb, -⟩ := h
  exact (Array.getElem?_eq_some_iff.1 hb).1
theorem Mp.srt {w : World} {b : Nat} {S : List (It (Cx 26))} (h : Mp w b S) : Srt S := by
  obtain ⟨es, clock, L, -, -, -, -, hS⟩ := h
  exact hS
theorem Mp.kept {w w' : World} {b : Nat} {S : List (It (Cx 26))} (h : Mp w b S) (hk : w'.heap[b]? = w.heap[b]?) : Mp w' b S := by
  obtain ⟨es, clock, L, hb, rest⟩ := h
  exact ⟨es, clock, L, hk.trans hb, rest⟩
theorem Mp.below {w w' : World} {b B : Nat} {S : List (It (Cx 26))} (h : Mp w b S) (hb : Below B w w') (hB : b < B) : Mp w' b S := h.kept (hb.block b hB)
theorem Mp.alloc {w : World} {b : Nat} {S : List (It (Cx 26))} (h : Mp w b S) (o : Obj) : Mp (w.alloc o) b S := h.kept (Below.heap_alloc w o b h.lt)
theorem mp_new (w : World) : Mp (w.alloc (.map #[] 0)) w.heap.size [] :=
  ⟨#[], 0, [], MapKept.heap_alloc w _ |>.1, stamped_empty 0, rfl, List.Perm.refl _, Srt.nil⟩

theorem run_equal_dot (w : World) (r n r' n' : Int) : (Op.equal 32 (.agg (dotc r n)) (.agg (dotc r' n'))).run Tryz.prog w = .ok (decide (r = r' ∧ n = n')) w := run_equalIn_dot w 9998 r n r' n'
theorem run_checkKey_dot (w : World) (em : Bool) (r n : Int) : (Instr.checkKey em 10000 32 (.agg (dotc r n))).run Tryz.prog w = .ok () w := by kernel_rfl
theorem run_keyStays_dot (w : World) (r n : Int) : (Instr.keyThatStays (.agg (dotc r n)) (.agg (dotc r n))).run Tryz.prog w = .ok (.agg (dotc r n)) w := by
  simp [Instr.keyThatStays, Instr.sameBits, dotc]

theorem run_findAsking_dot (r n : Int) : ∀ (es : List MapEntry) (L : List (It (Cx 26))) (k : Nat), es.map kvE = L.map kvI →
    (find L r n = none ∧ ∀ w, (Instr.findAsking 32 (.agg (dotc r n)) es k).run Tryz.prog w = .ok none w) ∨
    ∃ j i, L[j]? = some i ∧ i.r = r ∧ i.n = n ∧ find L r n = some i ∧ ∀ w, (Instr.findAsking 32 (.agg (dotc r n)) es k).run Tryz.prog w = .ok (some (k + j, .agg (xc i))) w
  | [], [], k, _ => .inl ⟨rfl, fun w => by simp [Instr.findAsking]⟩
  | [], _ :: _, k, h => by simp at h
  | _ :: _, [], k, h => by simp at h
  | e :: es, i :: L, k, h => by
    simp only [List.map_cons, List.cons.injEq, kvE, kvI, Prod.mk.injEq] at h
    obtain ⟨⟨h1, h2⟩, h3⟩ := h
    have ih := run_findAsking_dot r n es L (k + 1) h3
    by_cases hd : r = i.r ∧ n = i.n
    · obtain ⟨rfl, rfl⟩ := hd
      refine .inr ⟨0, i, rfl, rfl, rfl, by simp [find, isAt], fun w => ?_⟩
      simp [Instr.findAsking, Sem.run_bind, h1, h2, run_equal_dot]
    · have hne : isAt r n i = false := by
        cases hh : isAt r n i
        · rfl
        · rw [isAt_iff] at hh; exact absurd ⟨hh.1.symm, hh.2.symm⟩ hd
      have hf : find (i :: L) r n = find L r n := by simp [find, hne]
      have hs : ∀ w, (Instr.findAsking 32 (.agg (dotc r n)) (e :: es) k).run Tryz.prog w = (Instr.findAsking 32 (.agg (dotc r n)) es (k + 1)).run Tryz.prog w := fun w => by
        simp [Instr.findAsking, Sem.run_bind, h1, run_equal_dot, hd]
      rw [hf]
      rcases ih with ⟨a, c⟩ | ⟨j, x, a, b, c, d, f⟩
      · exact .inl ⟨a, fun w => (hs w).trans (c w)⟩
      · exact .inr ⟨j + 1, x, a, b, c, d, fun w => by rw [hs w, f w, show k + 1 + j = k + (j + 1) by omega]⟩
theorem run_findKey_dot (r n : Int) (es : List MapEntry) (L : List (It (Cx 26))) (h : es.map kvE = L.map kvI) :
    (find L r n = none ∧ ∀ w, (Instr.findKey 32 (.agg (dotc r n)) es).run Tryz.prog w = .ok none w) ∨
    ∃ j i, L[j]? = some i ∧ i.r = r ∧ i.n = n ∧ find L r n = some i ∧ ∀ w, (Instr.findKey 32 (.agg (dotc r n)) es).run Tryz.prog w = .ok (some (j, .agg (xc i))) w := by
  cases es with
  | nil =>
    have hL : L = [] := by
      cases L with
      | nil => rfl
      | cons a L => simp at h
    subst hL
    exact .inl ⟨rfl, fun w => by simp [Instr.findKey, run_underlying Tryz.underlying32, Instr.findNow]⟩
  | cons e es =>
    have h0 := run_findAsking_dot r n (e :: es) L 0 h
    have hs : ∀ w, (Instr.findKey 32 (.agg (dotc r n)) (e :: es)).run Tryz.prog w = (Instr.findAsking 32 (.agg (dotc r n)) (e :: es) 0).run Tryz.prog w := fun w => by
      simp [Instr.findKey, Sem.run_bind, run_underlying Tryz.underlying32, Instr.findNow, Instr.sameNow]
    rcases h0 with ⟨a, c⟩ | ⟨j, i, a, b, c, d, f⟩
    · exact .inl ⟨a, fun w => (hs w).trans (c w)⟩
    · exact .inr ⟨j, i, a, b, c, d, fun w => by rw [hs w, f w, Nat.zero_add]⟩

theorem find_perm {L S : List (It (Cx 26))} (hp : L.Perm S) (hS : Srt S) (r n : Int) : find L r n = find S r n := by
  cases hf : find L r n with
  | none =>
    symm
    rw [find_none] at hf ⊢
    cases hh : hasD S r n
    · rfl
    · obtain ⟨i, hi, h1, h2⟩ := hasD_iff.1 hh
      have : hasD L r n = true := hasD_iff.2 ⟨i, hp.mem_iff.2 hi, h1, h2⟩
      rw [hf] at this; cases this
  | some i =>
    obtain ⟨hi, rfl, rfl⟩ := find_mem hf
    exact (find_some hS (hp.mem_iff.1 hi)).symm

/-- 'v, ok := m[d]'. -/
theorem Mp.lookup {w : World} {b : Nat} {S : List (It (Cx 26))} (h : Mp w b S) (r n : Int) :
    (Instr.lookup 79 (.map (some b)) (.agg (dotc r n)) true).run Tryz.prog w = .ok (.tuple #[.agg (xc ((find S r n).getD ⟨0, 0, zx⟩)), .bool (hasD S r n)]) w := by
  obtain ⟨es, clock, L, hb, hst, hL, hp, hS⟩ := h
  rw [hasD_find, ← find_perm hp hS]
  rcases run_findKey_dot r n es.toList L hL with ⟨h1, h2⟩ | ⟨j, i, h1, rfl, rfl, h2, h3⟩
  · simp [Instr.lookup, Sem.run_bind, run_underlying Tryz.underlying79, MapKept.run_getObj_map hb, run_checkKey_dot, h2, h1, Tryz.zeroValue112, zx_cells]
  · simp [Instr.lookup, Sem.run_bind, run_underlying Tryz.underlying79, MapKept.run_getObj_map hb, run_checkKey_dot, h3, h2]
theorem lookup_nil (w : World) (r n : Int) : (Instr.lookup 79 (.map none) (.agg (dotc r n)) true).run Tryz.prog w = .ok (.tuple #[.agg (xc ⟨0, 0, zx⟩), .bool false]) w := by
  rcases run_findKey_dot r n [] [] rfl with ⟨h1, h2⟩ | ⟨j, i, h1, _⟩
  · simp [Instr.lookup, Sem.run_bind, run_underlying Tryz.underlying79, run_checkKey_dot, h2, Tryz.zeroValue112, zx_cells]
  · simp at h1
/-- 'm[d] = Item{d, x}'. -/
theorem Mp.update {w : World} {b : Nat} {S : List (It (Cx 26))} (h : Mp w b S) (i : It (Cx 26)) :
    ∃ o : Obj, ∀ W : World, W.heap[b]? = w.heap[b]? → (Instr.mapUpdate 79 (.map (some b)) (.agg (dotc i.r i.n)) (.agg (xc i))).run Tryz.prog W = .ok () (setBlock W b o) ∧ Mp (setBlock W b o) b (put S i) := by
  obtain ⟨es, clock, L, hb0, hst, hL, hp, hS⟩ := h
  rw [hb0]
  have hkeys : ∀ x ∈ es.toList, ∃ j ∈ L, x.key = .agg (dotc j.r j.n) := fun x hx => by
    have : kvE x ∈ L.map kvI := by rw [← hL]; exact List.mem_map.2 ⟨x, hx, rfl⟩
    obtain ⟨j, hj, e⟩ := List.mem_map.1 this
    exact ⟨j, hj, (congrArg Prod.fst e).symm⟩
  rcases run_findKey_dot i.r i.n es.toList L hL with ⟨h1, h2⟩ | ⟨j, i0, h1, hr, hn, h2, h3⟩
  · have hno : ∀ x ∈ es.toList, x.key ≠ .agg (dotc i.r i.n) := fun x hx e => by
      obtain ⟨j, hj, e'⟩ := hkeys x hx
      rw [e'] at e
      obtain ⟨e1, e2⟩ := dotc_inj e
      rw [find_none] at h1
      have : hasD L i.r i.n = true := hasD_iff.2 ⟨j, hj, e1, e2⟩
      rw [h1] at this; cases this
    refine ⟨.map (es.push ⟨.agg (dotc i.r i.n), .agg (xc i), clock⟩) (clock + 1), fun w hb => ⟨?_, _, _, L ++ [i], heap_setBlock_same hb _, stamped_push hst hno, ?_, ?_, hS.put i⟩⟩
    · simp [Instr.mapUpdate, Sem.run_bind, run_underlying Tryz.underlying79, MapKept.run_getObj_map hb, run_checkKey_dot, h2, MapKept.run_setObj_map _ hb, setBlock]
    · rw [Array.toList_push, List.map_append, hL, List.map_append]; rfl
    · refine (List.perm_append_singleton i L).trans (((hp.cons i).trans ?_).trans (put_perm S i).symm)
      rw [del_of_not]
      rw [find_perm hp hS, find_none] at h1
      exact h1
  · have hkey : i0.r = i.r ∧ i0.n = i.n := ⟨hr, hn⟩
    have hjl : j < es.toList.length := by
      have h4 := (List.getElem?_eq_some_iff.1 h1).1
      have h5 := congrArg List.length hL
      simp only [List.length_map] at h5
      omega
    have hjs : j < es.size := by simpa using hjl
    obtain ⟨e0, he0⟩ : ∃ e0, es.toList[j]? = some e0 := ⟨_, List.getElem?_eq_getElem hjl⟩
    have hej : kvE e0 = kvI i0 := by
      have h4 : (es.toList.map kvE)[j]? = (L.map kvI)[j]? := by rw [hL]
      rw [List.getElem?_map, List.getElem?_map, h1, he0] at h4
      simpa using h4
    have hk0 : e0.key = .agg (dotc i.r i.n) := by
      have := congrArg Prod.fst hej
      simpa [kvE, kvI, hkey.1, hkey.2] using this
    have hj? : es[j]? = some e0 := by simpa using he0
    refine ⟨.map (es.modify j fun e => { e with key := .agg (dotc i.r i.n), val := .agg (xc i) }) clock, fun w hb => ⟨?_, _, _, L.set j i, heap_setBlock_same hb _, stamped_modify hst _ _ (fun _ _ => rfl) (fun e _ he => ?_), ?_, ?_, hS.put i⟩⟩
    · simp [Instr.mapUpdate, Sem.run_bind, run_underlying Tryz.underlying79, MapKept.run_getObj_map hb, run_checkKey_dot, h3, MapKept.run_setObj_map _ hb, setBlock, hj?, hk0, run_keyStays_dot]
    · rw [hj?] at he
      cases he
      exact hk0.symm
    · rw [Array.toList_modify]
      apply List.ext_getElem?
      intro m
      by_cases hm : m = j
      · subst hm
        rw [List.getElem?_map, List.getElem?_map, List.getElem?_modify_eq, he0, List.getElem?_set_self (List.getElem?_eq_some_iff.1 h1).1]
        rfl
      · rw [List.getElem?_map, List.getElem?_map, List.getElem?_modify, List.getElem?_set_ne (fun e => hm (Eq.symm e))]
        have h8 : (es.toList.map kvE)[m]? = (L.map kvI)[m]? := by rw [hL]
        have h9 : ¬ j = m := fun e => hm e.symm
        simpa [h9] using h8
    · have p1 : L.Perm (i0 :: L.eraseIdx j) := perm_erase h1
      have p2 : (L.set j i).Perm (i :: L.eraseIdx j) := perm_set h1
      refine p2.trans (List.Perm.trans ?_ (put_perm S i).symm)
      refine List.Perm.cons i ?_
      have p3 : (i0 :: L.eraseIdx j).Perm S := p1.symm.trans hp
      have p4 := p3.filter (fun x => !isAt i.r i.n x)
      rw [List.filter_cons_of_neg (by simp [isAt, hr, hn])] at p4
      refine List.Perm.trans (List.Perm.of_eq (List.filter_eq_self.2 fun x hx => ?_).symm) p4
      have ap : (i0 :: L.eraseIdx j).Pairwise fun a b => ¬ (a.r = b.r ∧ a.n = b.n) := (p3.symm.pairwise_iff (fun {a b} (hh : ¬ (a.r = b.r ∧ a.n = b.n)) e => hh ⟨e.1.symm, e.2.symm⟩)).1 hS.apart
      have := (List.pairwise_cons.1 ap).1 x hx
      cases hh : isAt i.r i.n x
      · rfl
      · rw [isAt_iff] at hh; exact absurd ⟨hr.trans hh.1.symm, hn.trans hh.2.symm⟩ this
/-- 'delete(m, d)'. -/
theorem Mp.delete {w : World} {b : Nat} {S : List (It (Cx 26))} (h : Mp w b S) (r n : Int) (ty : TypeId) :
    ∃ o : Obj, ∀ W : World, W.heap[b]? = w.heap[b]? → (Builtin.delete_ #[79, 32] ty #[.map (some b), .agg (dotc r n)]).run Tryz.prog W = .ok (.tuple #[]) (setBlock W b o) ∧ Mp (setBlock W b o) b (del S r n) := by
  obtain ⟨es, clock, L, hb0, hst, hL, hp, hS⟩ := h
  rw [hb0]
  rcases run_findKey_dot r n es.toList L hL with ⟨h1, h2⟩ | ⟨j, i0, h1, hr, hn, h2, h3⟩
  · refine ⟨.map es clock, fun w hb => ⟨?_, _, _, L, heap_setBlock_same hb _, hst, hL, ?_, hS.del r n⟩⟩
    · simp [Builtin.delete_, Sem.run_bind, run_underlying Tryz.underlying79, MapKept.run_getObj_map hb, run_checkKey_dot, h2, MapKept.run_setObj_map _ hb, setBlock]
    · rw [find_perm hp hS, find_none] at h1
      rw [del_of_not h1]; exact hp
  · have hjL := (List.getElem?_eq_some_iff.1 h1).1
    have hjl : j < es.toList.length := by
      have h5 := congrArg List.length hL
      simp only [List.length_map] at h5
      omega
    have hjs : j < es.size := by simpa using hjl
    have hsub : (es.eraseIdxIfInBounds j).toList = es.toList.eraseIdx j := by
      unfold Array.eraseIdxIfInBounds
      rw [dif_pos hjs]
      simp
    refine ⟨.map (es.eraseIdxIfInBounds j) clock, fun w hb => ⟨?_, _, _, L.eraseIdx j, heap_setBlock_same hb _, stamped_erase hst j, ?_, ?_, hS.del r n⟩⟩
    · simp [Builtin.delete_, Sem.run_bind, run_underlying Tryz.underlying79, MapKept.run_getObj_map hb, run_checkKey_dot, h3, MapKept.run_setObj_map _ hb, setBlock]
    · rw [hsub, map_erase, hL, map_erase]
    · have p1 : L.Perm (i0 :: L.eraseIdx j) := perm_erase h1
      have p3 : (i0 :: L.eraseIdx j).Perm S := p1.symm.trans hp
      have p4 := p3.filter (fun x => !isAt r n x)
      rw [List.filter_cons_of_neg (by simp [isAt, hr, hn])] at p4
      refine List.Perm.trans (List.Perm.of_eq (List.filter_eq_self.2 fun x hx => ?_).symm) p4
      have ap : (i0 :: L.eraseIdx j).Pairwise fun a b => ¬ (a.r = b.r ∧ a.n = b.n) := (p3.symm.pairwise_iff (fun {a b} (hh : ¬ (a.r = b.r ∧ a.n = b.n)) e => hh ⟨e.1.symm, e.2.symm⟩)).1 hS.apart
      have := (List.pairwise_cons.1 ap).1 x hx
      cases hh : isAt r n x
      · rfl
      · rw [isAt_iff] at hh; exact absurd ⟨hr.trans hh.1.symm, hn.trans hh.2.symm⟩ this
theorem delete_nil (w : World) (r n : Int) (ty : TypeId) : (Builtin.delete_ #[79, 32] ty #[.map none, .agg (dotc r n)]).run Tryz.prog w = .ok (.tuple #[]) w := by
  simp [Builtin.delete_, Sem.run_bind, run_underlying Tryz.underlying79, run_checkKey_dot]
theorem Mp.len {w : World} {b : Nat} {S : List (It (Cx 26))} (h : Mp w b S) (ty : TypeId) : (Builtin.len_ #[79] ty #[.map (some b)]).run Tryz.prog w = .ok (.int .i64 (S.length : Int)) w := by
  obtain ⟨es, clock, L, hb, hst, hL, hp, hS⟩ := h
  have h5 := congrArg List.length hL
  simp only [List.length_map, Array.length_toList] at h5
  simp [Builtin.len_, Sem.run_bind, run_underlying Tryz.underlying79, MapKept.run_getObj_map hb, goInt, h5, hp.length_eq]
theorem len_nil (w : World) (ty : TypeId) : (Builtin.len_ #[79] ty #[.map none]).run Tryz.prog w = .ok (.int .i64 0) w := by
  simp [Builtin.len_, Sem.run_bind, run_underlying Tryz.underlying79, goInt]
theorem grownBy_setBlock (w : World) (b : Nat) (o : Obj) : w.grownBy (setBlock w b o) (some b) :=
  ⟨rfl, rfl, rfl, by simp [setBlock], fun k _ hk => by
    have hne : b ≠ k := fun e => hk (by rw [e])
    simp [setBlock, hne]⟩
end Go.Proofs.YtmlfekbmbnfkjabGreatDoor.E

/-
  A bag in memory, alone or within another block; what New, orZero, Put and Len come to (28 cells an item).
-/
namespace Go.Proofs.YtmlfekbmbnfkjabGreatDoor.E
set_option maxRecDepth 100000
open Go.RowKit
open Go.ChangeMaps (setBlock heap_setBlock_same heap_setBlock_other)

/-- A thing lies in a block. -/
def LiesX (w : World) (g : Nat) (x : Cx 26) : Prop := w.heap[g]? = some (.cells x.l.toArray 47 (0, 0))
theorem LiesX.lt {w : World} {g : Nat} {x : Cx 26} (h : LiesX w g x) : g < w.heap.size := (Array.getElem?_eq_some_iff.1 h).1
theorem size_x (x : Cx 26) : (Tryz.prog.info? 47).map (·.size) = some x.l.toArray.size := by
  rw [List.size_toArray, x.len]; kernel_rfl
theorem load_x {w : World} {g : Nat} {x : Cx 26} (h : LiesX w g x) : (loadVar 47 ⟨g, 0, none⟩).run Tryz.prog w = .ok (.agg x.l.toArray) w :=
  run_loadVar_row w g 47 47 _ (0, 0) _ h Tryz.underlying47 rfl (size_x x)
theorem size_d (r n : Int) : (Tryz.prog.info? 32).map (·.size) = some (dotc r n).size := by kernel_rfl
theorem load_d {w : World} {g : Nat} {r n : Int} (h : LiesD w g r n) : (loadVar 32 ⟨g, 0, none⟩).run Tryz.prog w = .ok (.agg (dotc r n)) w :=
  run_loadVar_row w g 32 32 _ (0, 0) _ h Tryz.underlying32 rfl (size_d r n)
theorem load_m {w : World} {ad : Addr} {m : Option Nat} (h : w.cell? ad = some (.map m)) : (loadVar 79 ad).run Tryz.prog w = .ok (.map m) w := by go_simp
theorem field_b (w : World) (g o : Nat) : (Instr.fieldAt 81 (.pointer (some ⟨g, o, none⟩)) 0).run Tryz.prog w = .ok (.pointer (some ⟨g, o, none⟩)) w := by go_simp
theorem build_it (w : World) (i : It (Cx 26)) : (Instr.build 112 #[(0, .agg (dotc i.r i.n)), (1, .agg i.x.l.toArray)]).run Tryz.prog w = .ok (.agg (xc i)) w := by
  obtain ⟨r, n, l, hl, h1⟩ := i
  match l, hl with
  | [a0, a1, a2, a3, a4, a5, a6, a7, a8, a9, a10, a11, a12, a13, a14, a15, a16, a17, a18, a19, a20, a21, a22, a23, a24, a25], hl =>
    refine Eq.trans (b := Result.ok (Value.agg (.int .i64 r :: .int .i64 n :: [a0, a1, a2, a3, a4, a5, a6, a7, a8, a9, a10, a11, a12, a13, a14, a15, a16, a17, a18, a19, a20, a21, a22, a23, a24, a25]).toArray) w) ?_ rfl
    kernel_rfl

/-- A bag lies in a block's cell: its map is nil, or lies in a block of its own. -/
structure Bg (w : World) (g o : Nat) (cs : Array Value) (ty : TypeId) (m : Option Nat) (S : List (It (Cx 26))) : Prop where
  blk : w.heap[g]? = some (.cells cs ty (0, 0))
  at' : cs[o]? = some (.map m)
  map : (m = none ∧ S = []) ∨ ∃ b, m = some b ∧ Mp w b S
section
variable {w w' : World} {g o B : Nat} {cs : Array Value} {ty : TypeId} {m : Option Nat} {S : List (It (Cx 26))}
theorem Bg.lt (h : Bg w g o cs ty m S) : g < w.heap.size := (Array.getElem?_eq_some_iff.1 h.blk).1
theorem Bg.own (h : Bg w g o cs ty m S) : ∀ k, m = some k → k < w.heap.size ∧ k ≠ g := by
  intro k hk
  rcases h.map with ⟨rfl, -⟩ | ⟨b, rfl, hb⟩
  · cases hk
  · obtain rfl := Option.some.inj hk
    refine ⟨hb.lt, ?_⟩
    rintro rfl
    obtain ⟨es, clock, L, hb, -⟩ := hb
    rw [h.blk] at hb
    cases hb
theorem Bg.srt (h : Bg w g o cs ty m S) : Srt S := by
  rcases h.map with ⟨-, rfl⟩ | ⟨b, -, hb⟩
  · exact Srt.nil
  · exact hb.srt
theorem Bg.c0 (h : Bg w g o cs ty m S) : w.cell? ⟨g, o, none⟩ = some (.map m) := by rw [cell_of_row w g o _ _ _ h.blk]; exact h.at'
theorem Bg.fz (h : Bg w g o cs ty m S) (i : Nat) : w.frozen? ⟨g, i, none⟩ = false := frozen_of_row w g i _ _ h.blk
theorem Bg.kept (h : Bg w g o cs ty m S) (hb : ∀ k, k < w.heap.size → (k = g ∨ m = some k) → w'.heap[k]? = w.heap[k]?) : Bg w' g o cs ty m S := by
  refine ⟨by rw [hb g h.lt (.inl rfl)]; exact h.blk, h.at', ?_⟩
  rcases h.map with hn | ⟨b, rfl, hm⟩
  · exact .inl hn
  · exact .inr ⟨b, rfl, hm.kept (hb b hm.lt (.inr rfl))⟩
theorem Bg.below (h : Bg w g o cs ty m S) (hb : Below B w w') (hB : w.heap.size ≤ B) : Bg w' g o cs ty m S :=
  h.kept fun k hk _ => hb.block k (by omega)
theorem Bg.alloc (h : Bg w g o cs ty m S) (ob : Obj) : Bg (w.alloc ob) g o cs ty m S := h.kept fun k hk _ => Below.heap_alloc w ob k hk
/-- Another cell of its block is another one then. -/
theorem Bg.other (h : Bg w g o cs ty m S) {cs' : Array Value} (hg : w'.heap[g]? = some (.cells cs' ty (0, 0))) (ho : cs'[o]? = cs[o]?) (hb : ∀ k, k < w.heap.size → m = some k → w'.heap[k]? = w.heap[k]?) : Bg w' g o cs' ty m S := by
  refine ⟨hg, ho.trans h.at', ?_⟩
  rcases h.map with hn | ⟨b, rfl, hm⟩
  · exact .inl hn
  · exact .inr ⟨b, rfl, hm.kept (hb b hm.lt rfl)⟩
theorem Bg.self (h : Bg w g o cs ty m S) : cs.setIfInBounds o (.map m) = cs := by
  obtain ⟨h1, h2⟩ := Array.getElem?_eq_some_iff.1 h.at'
  refine Array.ext (by simp) fun j hj hj2 => ?_
  rw [Array.getElem_setIfInBounds]
  split
  · rename_i e
    subst e
    exact h2.symm
  · rfl
end
theorem orz_some (g o : Nat) (w : World) : Calls Tryz.prog 58 #[.pointer (some ⟨g, o, none⟩)] w fun e w' => e = .returned (.pointer (some ⟨g, o, none⟩)) ∧ w' = w := by
  go_enter Tryz.func58, Tryz.ntmps58
  go_wp2
  go_ret
  exact ⟨rfl, rfl⟩
theorem eql_map_some (w : World) (b : Nat) : (binOp .eql 79 (.map (some b)) (.map none)).run Tryz.prog w = .ok (.bool false) w := by kernel_rfl
theorem eql_map_none (w : World) : (binOp .eql 79 (.map none) (.map none)).run Tryz.prog w = .ok (.bool true) w := by kernel_rfl
/-- Its map's block is another one then. -/
theorem Bg.blocked {w W : World} {g o b : Nat} {cs : Array Value} {ty : TypeId} {S S' : List (It (Cx 26))} {ob : Obj} (h : Bg w g o cs ty (some b) S) (hW : W.heap = w.heap) (hm : Mp (setBlock W b ob) b S') : Bg (setBlock W b ob) g o cs ty (some b) S' :=
  ⟨by
    have hne := (h.own b rfl).2
    have : (setBlock W b ob).heap[g]? = W.heap[g]? := (grownBy_setBlock W b ob).block g (by rw [hW]; exact h.lt) (fun e => hne (Option.some.inj e).symm)
    rw [this, hW]; exact h.blk, h.at', .inr ⟨b, rfl, hm⟩⟩
theorem tn_blocked (g b : Nat) (w W : World) (ob : Obj) (hW : W.heap = w.heap) (h1 : W.os = w.os) (h2 : W.tape = w.tape) (h3 : W.output = w.output) : Tn g (some b) (some b) w (setBlock W b ob) :=
  ⟨h1, h2, h3, by simp [setBlock, hW], fun k hk _ hb => by
    rw [← hW]
    exact (grownBy_setBlock W b ob).block k (by rw [hW]; exact hk) (fun e => hb e.symm), fun _ e => .inl e⟩
/-- A new map. -/
theorem Bg.mapped {w : World} {g o : Nat} {cs : Array Value} {ty : TypeId} (h : Bg w g o cs ty none []) : Bg ((w.alloc (.map #[] 0)).setCell ⟨g, o, none⟩ (.map (some w.heap.size))) g o (cs.setIfInBounds o (.map (some w.heap.size))) ty (some w.heap.size) ([] : List (It (Cx 26))) ∧ Tn g none (some w.heap.size) w ((w.alloc (.map #[] 0)).setCell ⟨g, o, none⟩ (.map (some w.heap.size))) := by
  have h1 := h.alloc (.map #[] 0)
  have hne : w.heap.size ≠ g := by have := h.lt; omega
  obtain ⟨ho, -⟩ := Array.getElem?_eq_some_iff.1 h.at'
  refine ⟨⟨heap_setCell_same _ g o _ _ _ h1.blk, by simp [ho], .inr ⟨_, rfl, (mp_new w).kept (Below.heap_setCell _ _ _ _ hne)⟩⟩, rfl, rfl, rfl, by simp [World.setCell], fun k hk hg _ => ?_, fun k e => .inr (by have := Option.some.inj e; omega)⟩
  rw [Below.heap_setCell _ _ _ k hg]
  exact Below.heap_alloc w _ k hk
/-- The last step of Put. -/
theorem put_held {w W : World} {g o b B0 : Nat} {cs : Array Value} {ty : TypeId} {S : List (It (Cx 26))} {i : It (Cx 26)} {ob : Obj} (h : Bg w g o cs ty (some b) S) (hD : LiesD w B0 i.r i.n) (hX : LiesX w (B0 + 1) i.x) (hW : W.heap = w.heap) (hb : ∃ es c, w.heap[b]? = some (.map es c)) :
    (setBlock W b ob).cell? ⟨g, o, none⟩ = some (.map (some b)) ∧ LiesD (setBlock W b ob) B0 i.r i.n ∧ LiesX (setBlock W b ob) (B0 + 1) i.x := by
  have key : ∀ k, k < w.heap.size → k ≠ b → (setBlock W b ob).heap[k]? = w.heap[k]? := fun k hk hne => by
    rw [← hW]
    exact (grownBy_setBlock W b ob).block k (by rw [hW]; exact hk) (fun e => hne (Option.some.inj e))
  obtain ⟨es, c, hb⟩ := hb
  have hg : (setBlock W b ob).heap[g]? = w.heap[g]? := key g h.lt (h.own b rfl).2.symm
  refine ⟨?_, ?_, ?_⟩
  · rw [cell_of_row _ g o _ _ _ (hg.trans h.blk)]; exact h.at'
  · rw [LiesD, key B0 hD.lt (by rintro rfl; rw [hD] at hb; cases hb)]; exact hD
  · rw [LiesX, key (B0 + 1) hX.lt (by rintro rfl; rw [hX] at hb; cases hb)]; exact hX
theorem Mp.blk {w : World} {b : Nat} {S : List (It (Cx 26))} (h : Mp w b S) : ∃ es c, w.heap[b]? = some (.map es c) := by
  obtain ⟨es, clock, L, hb, -⟩ := h
  exact ⟨es, clock, hb⟩

set_option maxHeartbeats 1000000 in
theorem put_any (g o : Nat) (cs : Array Value) (ty : TypeId) (m : Option Nat) (S : List (It (Cx 26))) (i : It (Cx 26)) (w : World) (h : Bg w g o cs ty m S) :
    Calls Tryz.prog 37 #[.pointer (some ⟨g, o, none⟩), .agg (dotc i.r i.n), .agg i.x.l.toArray] w fun e w' => e = .returned (.tuple #[]) ∧ ∃ m', Bg w' g o (cs.setIfInBounds o (.map m')) ty m' (put S i) ∧ Tn g m m' w w' := by
  have hz := orz_some g o ((w.alloc (.cells (dotc i.r i.n) 32)).alloc (.cells i.x.l.toArray 47))
  have hb0 : Below w.heap.size w ((w.alloc (.cells (dotc i.r i.n) 32)).alloc (.cells i.x.l.toArray 47)) := ((Below.refl _ w).alloc (Nat.le_refl _) _).alloc (by simp) _
  have hB := h.below hb0 (Nat.le_refl _)
  have hD : LiesD ((w.alloc (.cells (dotc i.r i.n) 32)).alloc (.cells i.x.l.toArray 47)) w.heap.size i.r i.n := (liesD_new w i.r i.n).alloc _
  have hX : LiesX ((w.alloc (.cells (dotc i.r i.n) 32)).alloc (.cells i.x.l.toArray 47)) (w.heap.size + 1) i.x := by
    have := heap_alloc_new (w.alloc (.cells (dotc i.r i.n) 32)) (.cells i.x.l.toArray 47)
    rwa [World.size_alloc] at this
  have T0 : Hid _ := Tn.of_below (g := g) m hb0
  obtain ⟨B0, hB0⟩ : ∃ B0, w.heap.size = B0 := ⟨_, rfl⟩
  rw [hB0] at hD hX
  generalize hxl : i.x.l.toArray = xl0 at *
  generalize hW0 : (w.alloc (.cells (dotc i.r i.n) 32)).alloc (.cells xl0 47) = W0 at *
  rcases h.map with ⟨rfl, rfl⟩ | ⟨b, rfl, hm⟩
  · obtain ⟨h1, t1⟩ := hB.mapped
    have hc0 := hB.c0
    have hac : (W0.alloc (.map #[] 0)).cell? ⟨g, o, none⟩ = some (.map none) := (hB.alloc _).c0
    have haf : (W0.alloc (.map #[] 0)).frozen? ⟨g, o, none⟩ = false := (hB.alloc _).fz o
    have hgne : g < W0.heap.size := hB.lt
    have hDg : ∀ j, j < W0.heap.size → j ≠ g → ((W0.alloc (.map #[] 0)).setCell ⟨g, o, none⟩ (.map (some W0.heap.size))).heap[j]? = W0.heap[j]? := fun j hj hne => by
      rw [Below.heap_setCell _ _ _ j hne]; exact Below.heap_alloc W0 _ j hj
    have hg0 : g < B0 := by have := h.lt; omega
    have hD1 : LiesD ((W0.alloc (.map #[] 0)).setCell ⟨g, o, none⟩ (.map (some W0.heap.size))) B0 i.r i.n := by rw [LiesD, hDg B0 hD.lt (by omega)]; exact hD
    have hX1 : LiesX ((W0.alloc (.map #[] 0)).setCell ⟨g, o, none⟩ (.map (some W0.heap.size))) (B0 + 1) i.x := by rw [LiesX, hDg (B0 + 1) hX.lt (by omega)]; exact hX
    obtain ⟨b', e', hm⟩ := (h1.map.resolve_left (by simp))
    obtain rfl := Option.some.inj e'
    obtain ⟨b, hb⟩ : ∃ b, W0.heap.size = b := ⟨_, rfl⟩
    obtain ⟨W2, hW2⟩ : ∃ W2, (W0.alloc (.map #[] 0)).setCell ⟨g, o, none⟩ (.map (some W0.heap.size)) = W2 := ⟨_, rfl⟩
    rw [hW2] at h1 t1 hD1 hX1 hm
    rw [hb] at h1 t1 hm hW2
    obtain ⟨ob, ho⟩ := hm.update i
    have hu := (ho W2.drew rfl).1
    have hHs : W2.drew.cell? ⟨g, o, none⟩ = some (.map (some b)) ∧ LiesD W2.drew B0 i.r i.n ∧ LiesX W2.drew (B0 + 1) i.x := ⟨h1.c0, hD1, hX1⟩
    have HS2 : Hid _ := put_held (W := W2.drew) (ob := ob) h1 hD1 hX1 rfl hm.blk
    have FIN : Hid _ := And.intro (h1.blocked (W := W2.drew) rfl (ho W2.drew rfl).2) (t1.trans (tn_blocked g b W2 W2.drew ob rfl rfl rfl rfl))
    have hmk := run_makeMap (P := Tryz.prog) (w := W0)
    clear ho h1 t1 hD1 hX1 hm h hB hD hX e' hDg
    have he := fun W => eql_map_none W
    go_enter Tryz.func37, Tryz.ntmps37
    go_wp2_with (first | (go_at_call 58; refine Calls.mono hz ?_; rintro e w2 ⟨rfl, hw2⟩; obtain rfl := hw2.symm))
    clear hW2 hz
    refine wp_region_noPanic ?_
    refine wp_region_held_drew (S := fun W' : World => W'.cell? ⟨g, o, none⟩ = some (.map (some b)) ∧ LiesD W' B0 i.r i.n ∧ LiesX W' (B0 + 1) i.x) (by kernel_rfl) hHs (fun hHeld => ?_)
    refine wpAnyH_take (i := 0) (oi := { dst := some 17, op := _, type := _, pos := _, after := _, guard := _ }) (v := .pointer (some ⟨g, o, none⟩)) rfl (by kernel_rfl) (by kernel_rfl) (by kernel_rfl) (fun _ _ _ h => h) (Or.inl ⟨by rfl, ?_⟩) (by assumption) ?_
    · intro w9 hSw
      exact y_move rfl rfl
    simp only [Act.put, List.setIfInBounds_toArray, List.set_cons_zero, List.set_cons_succ]
    refine wpAnyH_take (i := 1) (oi := { dst := some 18, op := _, type := _, pos := _, after := _, guard := _ }) (v := .pointer (some ⟨g, o, none⟩)) rfl (by kernel_rfl) (by kernel_rfl) (by kernel_rfl) (fun _ _ _ h => h) (Or.inl ⟨by rfl, ?_⟩) (by assumption) ?_
    · intro w9 hSw
      exact y_nil rfl rfl
    simp only [Act.put, List.setIfInBounds_toArray, List.set_cons_zero, List.set_cons_succ]
    refine wpAnyH_take (i := 2) (oi := { dst := some 19, op := _, type := _, pos := _, after := _, guard := _ }) (v := .pointer (some ⟨g, o, none⟩)) rfl (by kernel_rfl) (by kernel_rfl) (by kernel_rfl) (fun _ _ _ h => h) (Or.inl ⟨by rfl, ?_⟩) (by assumption) ?_
    · intro w9 hSw
      exact y_field rfl rfl (field_b _ _ _)
    simp only [Act.put, List.setIfInBounds_toArray, List.set_cons_zero, List.set_cons_succ]
    refine wpAnyH_take (i := 3) (oi := { dst := some 20, op := _, type := _, pos := _, after := _, guard := _ }) (v := .map (some b)) rfl (by kernel_rfl) (by kernel_rfl) (by kernel_rfl) (fun _ _ _ h => h) (Or.inl ⟨by rfl, ?_⟩) (by assumption) ?_
    · intro w9 hSw
      exact y_load rfl rfl (load_m hSw.1)
    simp only [Act.put, List.setIfInBounds_toArray, List.set_cons_zero, List.set_cons_succ]
    refine wpAnyH_take (i := 4) (oi := { dst := some 21, op := _, type := _, pos := _, after := _, guard := _ }) (v := .agg (dotc i.r i.n)) rfl (by kernel_rfl) (by kernel_rfl) (by kernel_rfl) (fun _ _ _ h => h) (Or.inl ⟨by rfl, ?_⟩) (by assumption) ?_
    · intro w9 hSw
      exact y_load rfl rfl (load_d hSw.2.1)
    simp only [Act.put, List.setIfInBounds_toArray, List.set_cons_zero, List.set_cons_succ]
    refine wpAnyH_take (i := 5) (oi := { dst := some 22, op := _, type := _, pos := _, after := _, guard := _ }) (v := .agg (dotc i.r i.n)) rfl (by kernel_rfl) (by kernel_rfl) (by kernel_rfl) (fun _ _ _ h => h) (Or.inl ⟨by rfl, ?_⟩) (by assumption) ?_
    · intro w9 hSw
      exact y_load rfl rfl (load_d hSw.2.1)
    simp only [Act.put, List.setIfInBounds_toArray, List.set_cons_zero, List.set_cons_succ]
    refine wpAnyH_take (i := 6) (oi := { dst := some 23, op := _, type := _, pos := _, after := _, guard := _ }) (v := .agg i.x.l.toArray) rfl (by kernel_rfl) (by kernel_rfl) (by kernel_rfl) (fun _ _ _ h => h) (Or.inl ⟨by rfl, ?_⟩) (by assumption) ?_
    · intro w9 hSw
      exact y_load rfl rfl (load_x hSw.2.2)
    simp only [Act.put, List.setIfInBounds_toArray, List.set_cons_zero, List.set_cons_succ]
    refine wpAnyH_take (i := 7) (oi := { dst := some 24, op := _, type := _, pos := _, after := _, guard := _ }) (v := .agg (xc i)) rfl (by kernel_rfl) (by kernel_rfl) (by kernel_rfl) (fun _ _ _ h => h) (Or.inl ⟨by rfl, ?_⟩) (by assumption) ?_
    · intro w9 hSw
      exact y_b2 (ty := 112) (i := 0) (j := 1) (x := .tmp 22) (y := .tmp 23) (p := .agg (dotc i.r i.n)) (q := .agg i.x.l.toArray) rfl rfl rfl (build_it _ _)
    simp only [Act.put, List.setIfInBounds_toArray, List.set_cons_zero, List.set_cons_succ]
    refine wpAnyH_ready (rs := [8]) (by kernel_rfl) (by simp) ?_
    refine AllReadyH.cons (o := { dst := none, op := _, type := _, pos := _, after := _, guard := _ }) rfl (fun K hK => ?_) AllReadyH.nil
    rw [if_pos (by rfl)]
    refine y_mapu (ty := 79) (x := .tmp 20) (y := .tmp 21) (z := .tmp 24) (p := .map (some b)) (q := .agg (dotc i.r i.n)) (r := .agg (xc i)) rfl rfl rfl rfl hu ?_
    refine hK.out _ _ HS2.out (fun hHeld => ?_)
    clear hK K
    simp only [Act.put]
    refine wpAnyH_done (by kernel_rfl) ?_ _
    refine NoPanic.normal ?_
    clear hHeld
    go_wp2
    go_end0
    exact ⟨rfl, _, FIN.out.1, T0.out.trans FIN.out.2⟩
  · obtain ⟨hm0⟩ : Nonempty (Mp W0 b S) := by
      rcases hB.map with ⟨e, -⟩ | ⟨b', e, hm'⟩
      · cases e
      · obtain rfl := Option.some.inj e
        exact ⟨hm'⟩
    obtain ⟨ob, ho⟩ := hm0.update i
    have hu := (ho W0.drew rfl).1
    have hc0 := hB.c0
    have hHs : W0.drew.cell? ⟨g, o, none⟩ = some (.map (some b)) ∧ LiesD W0.drew B0 i.r i.n ∧ LiesX W0.drew (B0 + 1) i.x := ⟨hB.c0, hD, hX⟩
    have HS2 : Hid _ := put_held (W := W0.drew) (ob := ob) hB hD hX rfl hm0.blk
    have FIN : Hid _ := And.intro (hB.blocked (W := W0.drew) rfl (ho W0.drew rfl).2) (tn_blocked g b W0 W0.drew ob rfl rfl rfl rfl)
    have HSF : Hid _ := h.self
    clear ho hm0 hm h hB hD hX
    have he := fun W => eql_map_some W b
    go_enter Tryz.func37, Tryz.ntmps37
    go_wp2_with (first | (go_at_call 58; refine Calls.mono hz ?_; rintro e w2 ⟨rfl, hw2⟩; obtain rfl := hw2.symm))
    clear hz
    refine wp_region_noPanic ?_
    refine wp_region_held_drew (S := fun W' : World => W'.cell? ⟨g, o, none⟩ = some (.map (some b)) ∧ LiesD W' B0 i.r i.n ∧ LiesX W' (B0 + 1) i.x) (by kernel_rfl) hHs (fun hHeld => ?_)
    refine wpAnyH_take (i := 0) (oi := { dst := some 17, op := _, type := _, pos := _, after := _, guard := _ }) (v := .pointer (some ⟨g, o, none⟩)) rfl (by kernel_rfl) (by kernel_rfl) (by kernel_rfl) (fun _ _ _ h => h) (Or.inl ⟨by rfl, ?_⟩) (by assumption) ?_
    · intro w9 hSw
      exact y_move rfl rfl
    simp only [Act.put, List.setIfInBounds_toArray, List.set_cons_zero, List.set_cons_succ]
    refine wpAnyH_take (i := 1) (oi := { dst := some 18, op := _, type := _, pos := _, after := _, guard := _ }) (v := .pointer (some ⟨g, o, none⟩)) rfl (by kernel_rfl) (by kernel_rfl) (by kernel_rfl) (fun _ _ _ h => h) (Or.inl ⟨by rfl, ?_⟩) (by assumption) ?_
    · intro w9 hSw
      exact y_nil rfl rfl
    simp only [Act.put, List.setIfInBounds_toArray, List.set_cons_zero, List.set_cons_succ]
    refine wpAnyH_take (i := 2) (oi := { dst := some 19, op := _, type := _, pos := _, after := _, guard := _ }) (v := .pointer (some ⟨g, o, none⟩)) rfl (by kernel_rfl) (by kernel_rfl) (by kernel_rfl) (fun _ _ _ h => h) (Or.inl ⟨by rfl, ?_⟩) (by assumption) ?_
    · intro w9 hSw
      exact y_field rfl rfl (field_b _ _ _)
    simp only [Act.put, List.setIfInBounds_toArray, List.set_cons_zero, List.set_cons_succ]
    refine wpAnyH_take (i := 3) (oi := { dst := some 20, op := _, type := _, pos := _, after := _, guard := _ }) (v := .map (some b)) rfl (by kernel_rfl) (by kernel_rfl) (by kernel_rfl) (fun _ _ _ h => h) (Or.inl ⟨by rfl, ?_⟩) (by assumption) ?_
    · intro w9 hSw
      exact y_load rfl rfl (load_m hSw.1)
    simp only [Act.put, List.setIfInBounds_toArray, List.set_cons_zero, List.set_cons_succ]
    refine wpAnyH_take (i := 4) (oi := { dst := some 21, op := _, type := _, pos := _, after := _, guard := _ }) (v := .agg (dotc i.r i.n)) rfl (by kernel_rfl) (by kernel_rfl) (by kernel_rfl) (fun _ _ _ h => h) (Or.inl ⟨by rfl, ?_⟩) (by assumption) ?_
    · intro w9 hSw
      exact y_load rfl rfl (load_d hSw.2.1)
    simp only [Act.put, List.setIfInBounds_toArray, List.set_cons_zero, List.set_cons_succ]
    refine wpAnyH_take (i := 5) (oi := { dst := some 22, op := _, type := _, pos := _, after := _, guard := _ }) (v := .agg (dotc i.r i.n)) rfl (by kernel_rfl) (by kernel_rfl) (by kernel_rfl) (fun _ _ _ h => h) (Or.inl ⟨by rfl, ?_⟩) (by assumption) ?_
    · intro w9 hSw
      exact y_load rfl rfl (load_d hSw.2.1)
    simp only [Act.put, List.setIfInBounds_toArray, List.set_cons_zero, List.set_cons_succ]
    refine wpAnyH_take (i := 6) (oi := { dst := some 23, op := _, type := _, pos := _, after := _, guard := _ }) (v := .agg i.x.l.toArray) rfl (by kernel_rfl) (by kernel_rfl) (by kernel_rfl) (fun _ _ _ h => h) (Or.inl ⟨by rfl, ?_⟩) (by assumption) ?_
    · intro w9 hSw
      exact y_load rfl rfl (load_x hSw.2.2)
    simp only [Act.put, List.setIfInBounds_toArray, List.set_cons_zero, List.set_cons_succ]
    refine wpAnyH_take (i := 7) (oi := { dst := some 24, op := _, type := _, pos := _, after := _, guard := _ }) (v := .agg (xc i)) rfl (by kernel_rfl) (by kernel_rfl) (by kernel_rfl) (fun _ _ _ h => h) (Or.inl ⟨by rfl, ?_⟩) (by assumption) ?_
    · intro w9 hSw
      exact y_b2 (ty := 112) (i := 0) (j := 1) (x := .tmp 22) (y := .tmp 23) (p := .agg (dotc i.r i.n)) (q := .agg i.x.l.toArray) rfl rfl rfl (build_it _ _)
    simp only [Act.put, List.setIfInBounds_toArray, List.set_cons_zero, List.set_cons_succ]
    refine wpAnyH_ready (rs := [8]) (by kernel_rfl) (by simp) ?_
    refine AllReadyH.cons (o := { dst := none, op := _, type := _, pos := _, after := _, guard := _ }) rfl (fun K hK => ?_) AllReadyH.nil
    rw [if_pos (by rfl)]
    refine y_mapu (ty := 79) (x := .tmp 20) (y := .tmp 21) (z := .tmp 24) (p := .map (some b)) (q := .agg (dotc i.r i.n)) (r := .agg (xc i)) rfl rfl rfl rfl hu ?_
    refine hK.out _ _ HS2.out (fun hHeld => ?_)
    clear hK K
    simp only [Act.put]
    refine wpAnyH_done (by kernel_rfl) ?_ _
    refine NoPanic.normal ?_
    clear hHeld
    go_wp2
    go_end0
    exact ⟨rfl, some b, by rw [HSF.out]; exact FIN.out.1, T0.out.trans FIN.out.2⟩
theorem len_any (g o : Nat) (cs : Array Value) (ty : TypeId) (m : Option Nat) (S : List (It (Cx 26))) (w : World) (h : Bg w g o cs ty m S) :
    Calls Tryz.prog 59 #[.pointer (some ⟨g, o, none⟩)] w fun e w' => e = .returned (.int .i64 (S.length : Int)) ∧ w' = w := by
  have hz := orz_some g o w
  have hc := h.c0
  have hl : (Builtin.len_ #[79] 3 #[.map m]).run Tryz.prog w = .ok (.int .i64 (S.length : Int)) w := by
    rcases h.map with ⟨rfl, rfl⟩ | ⟨b, rfl, hm⟩
    · exact len_nil w _
    · exact hm.len _
  generalize (S.length : Int) = n at *
  clear h
  go_enter Tryz.func59, Tryz.ntmps59
  go_wp2_with (first | (go_at_call 58; refine Calls.mono hz ?_; rintro e w2 ⟨rfl, hw2⟩; obtain rfl := hw2.symm))
  go_ret
  exact ⟨rfl, rfl⟩
end Go.Proofs.YtmlfekbmbnfkjabGreatDoor.E

/-
  A bag's map in memory: one entry a thing, under its dot; what is stored, looked up, deleted.
-/
namespace Go.Proofs.YtmlfekbmbnfkjabGreatDoor.D
set_option maxRecDepth 100000
open Go.RowKit
open Go.ChangeMaps (setBlock heap_setBlock_same heap_setBlock_other)
open Go.MapKept (Stamped stamped_iff stamped_push stamped_modify stamped_erase stamped_empty)

def kvI (i : It (Cx 28)) : Value × Value := (.agg (dotc i.r i.n), .agg (xc i))
def kvE (e : MapEntry) : Value × Value := (e.key, e.val)
theorem dotc_inj {r n r' n' : Int} (h : (Value.agg (dotc r n)) = .agg (dotc r' n')) : r = r' ∧ n = n' := by
  simpa [dotc] using h

/-- A block is a map of these things. -/
def Mp (w : World) (b : Nat) (S : List (It (Cx 28))) : Prop :=
  ∃ (es : Array MapEntry) (clock : Nat) (L : List (It (Cx 28))), w.heap[b]? = some (.map es clock) ∧ Stamped es clock ∧ es.toList.map kvE = L.map kvI ∧ L.Perm S ∧ Srt S

theorem Mp.lt {w : World} {b : Nat} {S : List (It (Cx 28))} (h : Mp w b S) : b < w.heap.size := by
  obtain ⟨es, clock, L, hb, -⟩ := h
  exact (Array.getElem?_eq_some_iff.1 hb).1
theorem Mp.srt {w : World} {b : Nat} {S : List (It (Cx 28))} (h : Mp w b S) : Srt S := by
  obtain ⟨es, clock, L, -, -, -, -, hS⟩ := h
  exact hS
theorem Mp.kept {w w' : World} {b : Nat} {S : List (It (Cx 28))} (h : Mp w b S) (hk : w'.heap[b]? = w.heap[b]?) : Mp w' b S := by
  obtain ⟨es, clock, L, hb, rest⟩ := h
  exact ⟨es, clock, L, hk.trans hb, rest⟩
theorem Mp.below {w w' : World} {b B : Nat} {S : List (It (Cx 28))} (h : Mp w b S) (hb : Below B w w') (hB : b < B) : Mp w' b S := h.kept (hb.block b hB)
theorem Mp.alloc {w : World} {b : Nat} {S : List (It (Cx 28))} (h : Mp w b S) (o : Obj) : Mp (w.alloc o) b S := h.kept (Below.heap_alloc w o b h.lt)
theorem mp_new (w : World) : Mp (w.alloc (.map #[] 0)) w.heap.size [] :=
  ⟨#[], 0, [], MapKept.heap_alloc w _ |>.1, stamped_empty 0, rfl, List.Perm.refl _, Srt.nil⟩

theorem run_equal_dot (w : World) (r n r' n' : Int) : (Op.equal 32 (.agg (dotc r n)) (.agg (dotc r' n'))).run Tryz.prog w = .ok (decide (r = r' ∧ n = n')) w := run_equalIn_dot w 9998 r n r' n'
theorem run_checkKey_dot (w : World) (em : Bool) (r n : Int) : (Instr.checkKey em 10000 32 (.agg (dotc r n))).run Tryz.prog w = .ok () w := by kernel_rfl
theorem run_keyStays_dot (w : World) (r n : Int) : (Instr.keyThatStays (.agg (dotc r n)) (.agg (dotc r n))).run Tryz.prog w = .ok (.agg (dotc r n)) w := by
  simp [Instr.keyThatStays, Instr.sameBits, dotc]

theorem run_findAsking_dot (r n : Int) : ∀ (es : List MapEntry) (L : List (It (Cx 28))) (k : Nat), es.map kvE = L.map kvI →
    (find L r n = none ∧ ∀ w, (Instr.findAsking 32 (.agg (dotc r n)) es k).run Tryz.prog w = .ok none w) ∨
    ∃ j i, L[j]? = some i ∧ i.r = r ∧ i.n = n ∧ find L r n = some i ∧ ∀ w, (Instr.findAsking 32 (.agg (dotc r n)) es k).run Tryz.prog w = .ok (some (k + j, .agg (xc i))) w
  | [], [], k, _ => .inl ⟨rfl, fun w => by simp [Instr.findAsking]⟩
  | [], _ :: _, k, h => by simp at h
  | _ :: _, [], k, h => by simp at h
  | e :: es, i :: L, k, h => by
    simp only [List.map_cons, List.cons.injEq, kvE, kvI, Prod.mk.injEq] at h
    obtain ⟨⟨h1, h2⟩, h3⟩ := h
    have ih := run_findAsking_dot r n es L (k + 1) h3
    by_cases hd : r = i.r ∧ n = i.n
    · obtain ⟨rfl, rfl⟩ := hd
      refine .inr ⟨0, i, rfl, rfl, rfl, by simp [find, isAt], fun w => ?_⟩
      simp [Instr.findAsking, Sem.run_bind, h1, h2, run_equal_dot]
    · have hne : isAt r n i = false := by
        cases hh : isAt r n i
        · rfl
        · rw [isAt_iff] at hh; exact absurd ⟨hh.1.symm, hh.2.symm⟩ hd
      have hf : find (i :: L) r n = find L r n := by simp [find, hne]
      have hs : ∀ w, (Instr.findAsking 32 (.agg (dotc r n)) (e :: es) k).run Tryz.prog w = (Instr.findAsking 32 (.agg (dotc r n)) es (k + 1)).run Tryz.prog w := fun w => by
        simp [Instr.findAsking, Sem.run_bind, h1, run_equal_dot, hd]
      rw [hf]
      rcases ih with ⟨a, c⟩ | ⟨j, x, a, b, c, d, f⟩
      · exact .inl ⟨a, fun w => (hs w).trans (c w)⟩
      · exact .inr ⟨j + 1, x, a, b, c, d, fun w => by rw [hs w, f w, show k + 1 + j = k + (j + 1) by omega]⟩
theorem run_findKey_dot (r n : Int) (es : List MapEntry) (L : List (It (Cx 28))) (h : es.map kvE = L.map kvI) :
    (find L r n = none ∧ ∀ w, (Instr.findKey 32 (.agg (dotc r n)) es).run Tryz.prog w = .ok none w) ∨
    ∃ j i, L[j]? = some i ∧ i.r = r ∧ i.n = n ∧ find L r n = some i ∧ ∀ w, (Instr.findKey 32 (.agg (dotc r n)) es).run Tryz.prog w = .ok (some (j, .agg (xc i))) w := by
  cases es with
  | nil =>
    have hL : L = [] := by
      cases L with
      | nil => rfl
      | cons a L => simp at h
    subst hL
    exact .inl ⟨rfl, fun w => by simp [Instr.findKey, run_underlying Tryz.underlying32, Instr.findNow]⟩
  | cons e es =>
    have h0 := run_findAsking_dot r n (e :: es) L 0 h
    have hs : ∀ w, (Instr.findKey 32 (.agg (dotc r n)) (e :: es)).run Tryz.prog w = (Instr.findAsking 32 (.agg (dotc r n)) (e :: es) 0).run Tryz.prog w := fun w => by
      simp [Instr.findKey, Sem.run_bind, run_underlying Tryz.underlying32, Instr.findNow, Instr.sameNow]
    rcases h0 with ⟨a, c⟩ | ⟨j, i, a, b, c, d, f⟩
    · exact .inl ⟨a, fun w => (hs w).trans (c w)⟩
    · exact .inr ⟨j, i, a, b, c, d, fun w => by rw [hs w, f w, Nat.zero_add]⟩

theorem find_perm {L S : List (It (Cx 28))} (hp : L.Perm S) (hS : Srt S) (r n : Int) : find L r n = find S r n := by
  cases hf : find L r n with
  | none =>
    symm
    rw [find_none] at hf ⊢
    cases hh : hasD S r n
    · rfl
    · obtain ⟨i, hi, h1, h2⟩ := hasD_iff.1 hh
      have : hasD L r n = true := hasD_iff.2 ⟨i, hp.mem_iff.2 hi, h1, h2⟩
      rw [hf] at this; cases this
  | some i =>
    obtain ⟨hi, rfl, rfl⟩ := find_mem hf
    exact (find_some hS (hp.mem_iff.1 hi)).symm

/-- 'v, ok := m[d]'. -/
theorem Mp.lookup {w : World} {b : Nat} {S : List (It (Cx 28))} (h : Mp w b S) (r n : Int) :
    (Instr.lookup 82 (.map (some b)) (.agg (dotc r n)) true).run Tryz.prog w = .ok (.tuple #[.agg (xc ((find S r n).getD ⟨0, 0, zx⟩)), .bool (hasD S r n)]) w := by
  obtain ⟨es, clock, L, hb, hst, hL, hp, hS⟩ := h
  rw [hasD_find, ← find_perm hp hS]
  rcases run_findKey_dot r n es.toList L hL with ⟨h1, h2⟩ | ⟨j, i, h1, rfl, rfl, h2, h3⟩
  · simp [Instr.lookup, Sem.run_bind, run_underlying Tryz.underlying82, MapKept.run_getObj_map hb, run_checkKey_dot, h2, h1, Tryz.zeroValue135, zx_cells]
  · simp [Instr.lookup, Sem.run_bind, run_underlying Tryz.underlying82, MapKept.run_getObj_map hb, run_checkKey_dot, h3, h2]
theorem lookup_nil (w : World) (r n : Int) : (Instr.lookup 82 (.map none) (.agg (dotc r n)) true).run Tryz.prog w = .ok (.tuple #[.agg (xc ⟨0, 0, zx⟩), .bool false]) w := by
  rcases run_findKey_dot r n [] [] rfl with ⟨h1, h2⟩ | ⟨j, i, h1, _⟩
  · simp [Instr.lookup, Sem.run_bind, run_underlying Tryz.underlying82, run_checkKey_dot, h2, Tryz.zeroValue135, zx_cells]
  · simp at h1
/-- 'm[d] = Item{d, x}'. -/
theorem Mp.update {w : World} {b : Nat} {S : List (It (Cx 28))} (h : Mp w b S) (i : It (Cx 28)) :
    ∃ o : Obj, ∀ W : World, W.heap[b]? = w.heap[b]? → (Instr.mapUpdate 82 (.map (some b)) (.agg (dotc i.r i.n)) (.agg (xc i))).run Tryz.prog W = .ok () (setBlock W b o) ∧ Mp (setBlock W b o) b (put S i) := by
  obtain ⟨es, clock, L, hb0, hst, hL, hp, hS⟩ := h
  rw [hb0]
  have hkeys : ∀ x ∈ es.toList, ∃ j ∈ L, x.key = .agg (dotc j.r j.n) := fun x hx => by
    have : kvE x ∈ L.map kvI := by rw [← hL]; exact List.mem_map.2 ⟨x, hx, rfl⟩
    obtain ⟨j, hj, e⟩ := List.mem_map.1 this
    exact ⟨j, hj, (congrArg Prod.fst e).symm⟩
  rcases run_findKey_dot i.r i.n es.toList L hL with ⟨h1, h2⟩ | ⟨j, i0, h1, hr, hn, h2, h3⟩
  · have hno : ∀ x ∈ es.toList, x.key ≠ .agg (dotc i.r i.n) := fun x hx e => by
      obtain ⟨j, hj, e'⟩ := hkeys x hx
      rw [e'] at e
      obtain ⟨e1, e2⟩ := dotc_inj e
      rw [find_none] at h1
      have : hasD L i.r i.n = true := hasD_iff.2 ⟨j, hj, e1, e2⟩
      rw [h1] at this; cases this
    refine ⟨.map (es.push ⟨.agg (dotc i.r i.n), .agg (xc i), clock⟩) (clock + 1), fun w hb => ⟨?_, _, _, L ++ [i], heap_setBlock_same hb _, stamped_push hst hno, ?_, ?_, hS.put i⟩⟩
    · simp [Instr.mapUpdate, Sem.run_bind, run_underlying Tryz.underlying82, MapKept.run_getObj_map hb, run_checkKey_dot, h2, MapKept.run_setObj_map _ hb, setBlock]
    · rw [Array.toList_push, List.map_append, hL, List.map_append]; rfl
    · refine (List.perm_append_singleton i L).trans (((hp.cons i).trans ?_).trans (put_perm S i).symm)
      rw [del_of_not]
      rw [find_perm hp hS, find_none] at h1
      exact h1
  · have hkey : i0.r = i.r ∧ i0.n = i.n := ⟨hr, hn⟩
    have hjl : j < es.toList.length := by
      have h4 := (List.getElem?_eq_some_iff.1 h1).1
      have h5 := congrArg List.length hL
      simp only [List.length_map] at h5
      omega
    have hjs : j < es.size := by simpa using hjl
    obtain ⟨e0, he0⟩ : ∃ e0, es.toList[j]? = some e0 := ⟨_, List.getElem?_eq_getElem hjl⟩
    have hej : kvE e0 = kvI i0 := by
      have h4 : (es.toList.map kvE)[j]? = (L.map kvI)[j]? := by rw [hL]
      rw [List.getElem?_map, List.getElem?_map, h1, he0] at h4
      simpa using h4
    have hk0 : e0.key = .agg (dotc i.r i.n) := by
      have := congrArg Prod.fst hej
      simpa [kvE, kvI, hkey.1, hkey.2] using this
    have hj? : es[j]? = some e0 := by simpa using he0
    refine ⟨.map (es.modify j fun e => { e with key := .agg (dotc i.r i.n), val := .agg (xc i) }) clock, fun w hb => ⟨?_, _, _, L.set j i, heap_setBlock_same hb _, stamped_modify hst _ _ (fun _ _ => rfl) (fun e _ he => ?_), ?_, ?_, hS.put i⟩⟩
    · simp [Instr.mapUpdate, Sem.run_bind, run_underlying Tryz.underlying82, MapKept.run_getObj_map hb, run_checkKey_dot, h3, MapKept.run_setObj_map _ hb, setBlock, hj?, hk0, run_keyStays_dot]
    · rw [hj?] at he
      cases he
      exact hk0.symm
    · rw [Array.toList_modify]
      apply List.ext_getElem?
      intro m
      by_cases hm : m = j
      · subst hm
        rw [List.getElem?_map, List.getElem?_map, List.getElem?_modify_eq, he0, List.getElem?_set_self (List.getElem?_eq_some_iff.1 h1).1]
        rfl
      · rw [List.getElem?_map, List.getElem?_map, List.getElem?_modify, List.getElem?_set_ne (fun e => hm (Eq.symm e))]
        have h8 : (es.toList.map kvE)[m]? = (L.map kvI)[m]? := by rw [hL]
        have h9 : ¬ j = m := fun e => hm e.symm
        simpa [h9] using h8
    · have p1 : L.Perm (i0 :: L.eraseIdx j) := perm_erase h1
      have p2 : (L.set j i).Perm (i :: L.eraseIdx j) := perm_set h1
      refine p2.trans (List.Perm.trans ?_ (put_perm S i).symm)
      refine List.Perm.cons i ?_
      have p3 : (i0 :: L.eraseIdx j).Perm S := p1.symm.trans hp
      have p4 := p3.filter (fun x => !isAt i.r i.n x)
      rw [List.filter_cons_of_neg (by simp [isAt, hr, hn])] at p4
      refine List.Perm.trans (List.Perm.of_eq (List.filter_eq_self.2 fun x hx => ?_).symm) p4
      have ap : (i0 :: L.eraseIdx j).Pairwise fun a b => ¬ (a.r = b.r ∧ a.n = b.n) := (p3.symm.pairwise_iff (fun {a b} (hh : ¬ (a.r = b.r ∧ a.n = b.n)) e => hh ⟨e.1.symm, e.2.symm⟩)).1 hS.apart
      have := (List.pairwise_cons.1 ap).1 x hx
      cases hh : isAt i.r i.n x
      · rfl
      · rw [isAt_iff] at hh; exact absurd ⟨hr.trans hh.1.symm, hn.trans hh.2.symm⟩ this
/-- 'delete(m, d)'. -/
theorem Mp.delete {w : World} {b : Nat} {S : List (It (Cx 28))} (h : Mp w b S) (r n : Int) (ty : TypeId) :
    ∃ o : Obj, ∀ W : World, W.heap[b]? = w.heap[b]? → (Builtin.delete_ #[82, 32] ty #[.map (some b), .agg (dotc r n)]).run Tryz.prog W = .ok (.tuple #[]) (setBlock W b o) ∧ Mp (setBlock W b o) b (del S r n) := by
  obtain ⟨es, clock, L, hb0, hst, hL, hp, hS⟩ := h
  rw [hb0]
  rcases run_findKey_dot r n es.toList L hL with ⟨h1, h2⟩ | ⟨j, i0, h1, hr, hn, h2, h3⟩
  · refine ⟨.map es clock, fun w hb => ⟨?_, _, _, L, heap_setBlock_same hb _, hst, hL, ?_, hS.del r n⟩⟩
    · simp [Builtin.delete_, Sem.run_bind, run_underlying Tryz.underlying82, MapKept.run_getObj_map hb, run_checkKey_dot, h2, MapKept.run_setObj_map _ hb, setBlock]
    · rw [find_perm hp hS, find_none] at h1
      rw [del_of_not h1]; exact hp
  · have hjL := (List.getElem?_eq_some_iff.1 h1).1
    have hjl : j < es.toList.length := by
      have h5 := congrArg List.length hL
      simp only [List.length_map] at h5
      omega
    have hjs : j < es.size := by simpa using hjl
    have hsub : (es.eraseIdxIfInBounds j).toList = es.toList.eraseIdx j := by
      unfold Array.eraseIdxIfInBounds
      rw [dif_pos hjs]
      simp
    refine ⟨.map (es.eraseIdxIfInBounds j) clock, fun w hb => ⟨?_, _, _, L.eraseIdx j, heap_setBlock_same hb _, stamped_erase hst j, ?_, ?_, hS.del r n⟩⟩
    · simp [Builtin.delete_, Sem.run_bind, run_underlying Tryz.underlying82, MapKept.run_getObj_map hb, run_checkKey_dot, h3, MapKept.run_setObj_map _ hb, setBlock]
    · rw [hsub, map_erase, hL, map_erase]
    · have p1 : L.Perm (i0 :: L.eraseIdx j) := perm_erase h1
      have p3 : (i0 :: L.eraseIdx j).Perm S := p1.symm.trans hp
      have p4 := p3.filter (fun x => !isAt r n x)
      rw [List.filter_cons_of_neg (by simp [isAt, hr, hn])] at p4
      refine List.Perm.trans (List.Perm.of_eq (List.filter_eq_self.2 fun x hx => ?_).symm) p4
      have ap : (i0 :: L.eraseIdx j).Pairwise fun a b => ¬ (a.r = b.r ∧ a.n = b.n) := (p3.symm.pairwise_iff (fun {a b} (hh : ¬ (a.r = b.r ∧ a.n = b.n)) e => hh ⟨e.1.symm, e.2.symm⟩)).1 hS.apart
      have := (List.pairwise_cons.1 ap).1 x hx
      cases hh : isAt r n x
      · rfl
      · rw [isAt_iff] at hh; exact absurd ⟨hr.trans hh.1.symm, hn.trans hh.2.symm⟩ this
theorem delete_nil (w : World) (r n : Int) (ty : TypeId) : (Builtin.delete_ #[82, 32] ty #[.map none, .agg (dotc r n)]).run Tryz.prog w = .ok (.tuple #[]) w := by
  simp [Builtin.delete_, Sem.run_bind, run_underlying Tryz.underlying82, run_checkKey_dot]
theorem Mp.len {w : World} {b : Nat} {S : List (It (Cx 28))} (h : Mp w b S) (ty : TypeId) : (Builtin.len_ #[82] ty #[.map (some b)]).run Tryz.prog w = .ok (.int .i64 (S.length : Int)) w := by
  obtain ⟨es, clock, L, hb, hst, hL, hp, hS⟩ := h
  have h5 := congrArg List.length hL
  simp only [List.length_map, Array.length_toList] at h5
  simp [Builtin.len_, Sem.run_bind, run_underlying Tryz.underlying82, MapKept.run_getObj_map hb, goInt, h5, hp.length_eq]
theorem len_nil (w : World) (ty : TypeId) : (Builtin.len_ #[82] ty #[.map none]).run Tryz.prog w = .ok (.int .i64 0) w := by
  simp [Builtin.len_, Sem.run_bind, run_underlying Tryz.underlying82, goInt]
theorem grownBy_setBlock (w : World) (b : Nat) (o : Obj) : w.grownBy (setBlock w b o) (some b) :=
  ⟨rfl, rfl, rfl, by simp [setBlock], fun k _ hk => by
    have hne : b ≠ k := fun e => hk (by rw [e])
    simp [setBlock, hne]⟩
end Go.Proofs.YtmlfekbmbnfkjabGreatDoor.D

/-
  A bag in memory, alone or within another block; what New, orZero, Put and Len come to (30 cells an item).
-/
namespace Go.Proofs.YtmlfekbmbnfkjabGreatDoor.D
set_option maxRecDepth 100000
open Go.RowKit
open Go.ChangeMaps (setBlock heap_setBlock_same heap_setBlock_other)

/-- A thing lies in a block. -/
def LiesX (w : World) (g : Nat) (x : Cx 28) : Prop := w.heap[g]? = some (.cells x.l.toArray 108 (0, 0))
theorem LiesX.lt {w : World} {g : Nat} {x : Cx 28} (h : LiesX w g x) : g < w.heap.size := (Array.getElem?_eq_some_iff.1 h).1
theorem size_x (x : Cx 28) : (Tryz.prog.info? 108).map (·.size) = some x.l.toArray.size := by
  rw [List.size_toArray, x.len]; kernel_rfl
theorem load_x {w : World} {g : Nat} {x : Cx 28} (h : LiesX w g x) : (loadVar 108 ⟨g, 0, none⟩).run Tryz.prog w = .ok (.agg x.l.toArray) w :=
  run_loadVar_row w g 108 108 _ (0, 0) _ h Tryz.underlying108 rfl (size_x x)
theorem size_d (r n : Int) : (Tryz.prog.info? 32).map (·.size) = some (dotc r n).size := by kernel_rfl
theorem load_d {w : World} {g : Nat} {r n : Int} (h : LiesD w g r n) : (loadVar 32 ⟨g, 0, none⟩).run Tryz.prog w = .ok (.agg (dotc r n)) w :=
  run_loadVar_row w g 32 32 _ (0, 0) _ h Tryz.underlying32 rfl (size_d r n)
theorem load_m {w : World} {ad : Addr} {m : Option Nat} (h : w.cell? ad = some (.map m)) : (loadVar 82 ad).run Tryz.prog w = .ok (.map m) w := by go_simp
theorem field_b (w : World) (g o : Nat) : (Instr.fieldAt 84 (.pointer (some ⟨g, o, none⟩)) 0).run Tryz.prog w = .ok (.pointer (some ⟨g, o, none⟩)) w := by go_simp
theorem build_it (w : World) (i : It (Cx 28)) : (Instr.build 135 #[(0, .agg (dotc i.r i.n)), (1, .agg i.x.l.toArray)]).run Tryz.prog w = .ok (.agg (xc i)) w := by
  obtain ⟨r, n, l, hl, h1⟩ := i
  match l, hl with
  | [a0, a1, a2, a3, a4, a5, a6, a7, a8, a9, a10, a11, a12, a13, a14, a15, a16, a17, a18, a19, a20, a21, a22, a23, a24, a25, a26, a27], hl =>
    refine Eq.trans (b := Result.ok (Value.agg (.int .i64 r :: .int .i64 n :: [a0, a1, a2, a3, a4, a5, a6, a7, a8, a9, a10, a11, a12, a13, a14, a15, a16, a17, a18, a19, a20, a21, a22, a23, a24, a25, a26, a27]).toArray) w) ?_ rfl
    kernel_rfl

/-- A bag lies in a block's cell: its map is nil, or lies in a block of its own. -/
structure Bg (w : World) (g o : Nat) (cs : Array Value) (ty : TypeId) (m : Option Nat) (S : List (It (Cx 28))) : Prop where
  blk : w.heap[g]? = some (.cells cs ty (0, 0))
  at' : cs[o]? = some (.map m)
  map : (m = none ∧ S = []) ∨ ∃ b, m = some b ∧ Mp w b S
section
variable {w w' : World} {g o B : Nat} {cs : Array Value} {ty : TypeId} {m : Option Nat} {S : List (It (Cx 28))}
theorem Bg.lt (h : Bg w g o cs ty m S) : g < w.heap.size := (Array.getElem?_eq_some_iff.1 h.blk).1
theorem Bg.own (h : Bg w g o cs ty m S) : ∀ k, m = some k → k < w.heap.size ∧ k ≠ g := by
  intro k hk
  rcases h.map with ⟨rfl, -⟩ | ⟨b, rfl, hb⟩
  · cases hk
  · obtain rfl := Option.some.inj hk
    refine ⟨hb.lt, ?_⟩
    rintro rfl
    obtain ⟨es, clock, L, hb, -⟩ := hb
    rw [h.blk] at hb
    cases hb
theorem Bg.srt (h : Bg w g o cs ty m S) : Srt S := by
  rcases h.map with ⟨-, rfl⟩ | ⟨b, -, hb⟩
  · exact Srt.nil
  · exact hb.srt
theorem Bg.c0 (h : Bg w g o cs ty m S) : w.cell? ⟨g, o, none⟩ = some (.map m) := by rw [cell_of_row w g o _ _ _ h.blk]; exact h.at'
theorem Bg.fz (h : Bg w g o cs ty m S) (i : Nat) : w.frozen? ⟨g, i, none⟩ = false := frozen_of_row w g i _ _ h.blk
theorem Bg.kept (h : Bg w g o cs ty m S) (hb : ∀ k, k < w.heap.size → (k = g ∨ m = some k) → w'.heap[k]? = w.heap[k]?) : Bg w' g o cs ty m S := by
  refine ⟨by rw [hb g h.lt (.inl rfl)]; exact h.blk, h.at', ?_⟩
  rcases h.map with hn | ⟨b, rfl, hm⟩
  · exact .inl hn
  · exact .inr ⟨b, rfl, hm.kept (hb b hm.lt (.inr rfl))⟩
theorem Bg.below (h : Bg w g o cs ty m S) (hb : Below B w w') (hB : w.heap.size ≤ B) : Bg w' g o cs ty m S :=
  h.kept fun k hk _ => hb.block k (by omega)
theorem Bg.alloc (h : Bg w g o cs ty m S) (ob : Obj) : Bg (w.alloc ob) g o cs ty m S := h.kept fun k hk _ => Below.heap_alloc w ob k hk
/-- Another cell of its block is another one then. -/
theorem Bg.other (h : Bg w g o cs ty m S) {cs' : Array Value} (hg : w'.heap[g]? = some (.cells cs' ty (0, 0))) (ho : cs'[o]? = cs[o]?) (hb : ∀ k, k < w.heap.size → m = some k → w'.heap[k]? = w.heap[k]?) : Bg w' g o cs' ty m S := by
  refine ⟨hg, ho.trans h.at', ?_⟩
  rcases h.map with hn | ⟨b, rfl, hm⟩
  · exact .inl hn
  · exact .inr ⟨b, rfl, hm.kept (hb b hm.lt rfl)⟩
theorem Bg.self (h : Bg w g o cs ty m S) : cs.setIfInBounds o (.map m) = cs := by
  obtain ⟨h1, h2⟩ := Array.getElem?_eq_some_iff.1 h.at'
  refine Array.ext (by simp) fun j hj hj2 => ?_
  rw [Array.getElem_setIfInBounds]
  split
  · rename_i e
    subst e
    exact h2.symm
  · rfl
end
theorem orz_some (g o : Nat) (w : World) : Calls Tryz.prog 104 #[.pointer (some ⟨g, o, none⟩)] w fun e w' => e = .returned (.pointer (some ⟨g, o, none⟩)) ∧ w' = w := by
  go_enter Tryz.func104, Tryz.ntmps104
  go_wp2
  go_ret
  exact ⟨rfl, rfl⟩
theorem eql_map_some (w : World) (b : Nat) : (binOp .eql 82 (.map (some b)) (.map none)).run Tryz.prog w = .ok (.bool false) w := by kernel_rfl
theorem eql_map_none (w : World) : (binOp .eql 82 (.map none) (.map none)).run Tryz.prog w = .ok (.bool true) w := by kernel_rfl
/-- Its map's block is another one then. -/
theorem Bg.blocked {w W : World} {g o b : Nat} {cs : Array Value} {ty : TypeId} {S S' : List (It (Cx 28))} {ob : Obj} (h : Bg w g o cs ty (some b) S) (hW : W.heap = w.heap) (hm : Mp (setBlock W b ob) b S') : Bg (setBlock W b ob) g o cs ty (some b) S' :=
  ⟨by
    have hne := (h.own b rfl).2
    have : (setBlock W b ob).heap[g]? = W.heap[g]? := (grownBy_setBlock W b ob).block g (by rw [hW]; exact h.lt) (fun e => hne (Option.some.inj e).symm)
    rw [this, hW]; exact h.blk, h.at', .inr ⟨b, rfl, hm⟩⟩
theorem tn_blocked (g b : Nat) (w W : World) (ob : Obj) (hW : W.heap = w.heap) (h1 : W.os = w.os) (h2 : W.tape = w.tape) (h3 : W.output = w.output) : Tn g (some b) (some b) w (setBlock W b ob) :=
  ⟨h1, h2, h3, by simp [setBlock, hW], fun k hk _ hb => by
    rw [← hW]
    exact (grownBy_setBlock W b ob).block k (by rw [hW]; exact hk) (fun e => hb e.symm), fun _ e => .inl e⟩
/-- A new map. -/
theorem Bg.mapped {w : World} {g o : Nat} {cs : Array Value} {ty : TypeId} (h : Bg w g o cs ty none []) : Bg ((w.alloc (.map #[] 0)).setCell ⟨g, o, none⟩ (.map (some w.heap.size))) g o (cs.setIfInBounds o (.map (some w.heap.size))) ty (some w.heap.size) ([] : List (It (Cx 28))) ∧ Tn g none (some w.heap.size) w ((w.alloc (.map #[] 0)).setCell ⟨g, o, none⟩ (.map (some w.heap.size))) := by
  have h1 := h.alloc (.map #[] 0)
  have hne : w.heap.size ≠ g := by have := h.lt; omega
  obtain ⟨ho, -⟩ := Array.getElem?_eq_some_iff.1 h.at'
  refine ⟨⟨heap_setCell_same _ g o _ _ _ h1.blk, by simp [ho], .inr ⟨_, rfl, (mp_new w).kept (Below.heap_setCell _ _ _ _ hne)⟩⟩, rfl, rfl, rfl, by simp [World.setCell], fun k hk hg _ => ?_, fun k e => .inr (by have := Option.some.inj e; omega)⟩
  rw [Below.heap_setCell _ _ _ k hg]
  exact Below.heap_alloc w _ k hk
/-- The last step of Put. -/
theorem put_held {w W : World} {g o b B0 : Nat} {cs : Array Value} {ty : TypeId} {S : List (It (Cx 28))} {i : It (Cx 28)} {ob : Obj} (h : Bg w g o cs ty (some b) S) (hD : LiesD w B0 i.r i.n) (hX : LiesX w (B0 + 1) i.x) (hW : W.heap = w.heap) (hb : ∃ es c, w.heap[b]? = some (.map es c)) :
    (setBlock W b ob).cell? ⟨g, o, none⟩ = some (.map (some b)) ∧ LiesD (setBlock W b ob) B0 i.r i.n ∧ LiesX (setBlock W b ob) (B0 + 1) i.x := by
  have key : ∀ k, k < w.heap.size → k ≠ b → (setBlock W b ob).heap[k]? = w.heap[k]? := fun k hk hne => by
    rw [← hW]
    exact (grownBy_setBlock W b ob).block k (by rw [hW]; exact hk) (fun e => hne (Option.some.inj e))
  obtain ⟨es, c, hb⟩ := hb
  have hg : (setBlock W b ob).heap[g]? = w.heap[g]? := key g h.lt (h.own b rfl).2.symm
  refine ⟨?_, ?_, ?_⟩
  · rw [cell_of_row _ g o _ _ _ (hg.trans h.blk)]; exact h.at'
  · rw [LiesD, key B0 hD.lt (by rintro rfl; rw [hD] at hb; cases hb)]; exact hD
  · rw [LiesX, key (B0 + 1) hX.lt (by rintro rfl; rw [hX] at hb; cases hb)]; exact hX
theorem Mp.blk {w : World} {b : Nat} {S : List (It (Cx 28))} (h : Mp w b S) : ∃ es c, w.heap[b]? = some (.map es c) := by
  obtain ⟨es, clock, L, hb, -⟩ := h
  exact ⟨es, clock, hb⟩

set_option maxHeartbeats 1000000 in
theorem put_any (g o : Nat) (cs : Array Value) (ty : TypeId) (m : Option Nat) (S : List (It (Cx 28))) (i : It (Cx 28)) (w : World) (h : Bg w g o cs ty m S) :
    Calls Tryz.prog 57 #[.pointer (some ⟨g, o, none⟩), .agg (dotc i.r i.n), .agg i.x.l.toArray] w fun e w' => e = .returned (.tuple #[]) ∧ ∃ m', Bg w' g o (cs.setIfInBounds o (.map m')) ty m' (put S i) ∧ Tn g m m' w w' := by
  have hz := orz_some g o ((w.alloc (.cells (dotc i.r i.n) 32)).alloc (.cells i.x.l.toArray 108))
  have hb0 : Below w.heap.size w ((w.alloc (.cells (dotc i.r i.n) 32)).alloc (.cells i.x.l.toArray 108)) := ((Below.refl _ w).alloc (Nat.le_refl _) _).alloc (by simp) _
  have hB := h.below hb0 (Nat.le_refl _)
  have hD : LiesD ((w.alloc (.cells (dotc i.r i.n) 32)).alloc (.cells i.x.l.toArray 108)) w.heap.size i.r i.n := (liesD_new w i.r i.n).alloc _
  have hX : LiesX ((w.alloc (.cells (dotc i.r i.n) 32)).alloc (.cells i.x.l.toArray 108)) (w.heap.size + 1) i.x := by
    have := heap_alloc_new (w.alloc (.cells (dotc i.r i.n) 32)) (.cells i.x.l.toArray 108)
    rwa [World.size_alloc] at this
  have T0 : Hid _ := Tn.of_below (g := g) m hb0
  obtain ⟨B0, hB0⟩ : ∃ B0, w.heap.size = B0 := ⟨_, rfl⟩
  rw [hB0] at hD hX
  generalize hxl : i.x.l.toArray = xl0 at *
  generalize hW0 : (w.alloc (.cells (dotc i.r i.n) 32)).alloc (.cells xl0 108) = W0 at *
  rcases h.map with ⟨rfl, rfl⟩ | ⟨b, rfl, hm⟩
  · obtain ⟨h1, t1⟩ := hB.mapped
    have hc0 := hB.c0
    have hac : (W0.alloc (.map #[] 0)).cell? ⟨g, o, none⟩ = some (.map none) := (hB.alloc _).c0
    have haf : (W0.alloc (.map #[] 0)).frozen? ⟨g, o, none⟩ = false := (hB.alloc _).fz o
    have hgne : g < W0.heap.size := hB.lt
    have hDg : ∀ j, j < W0.heap.size → j ≠ g → ((W0.alloc (.map #[] 0)).setCell ⟨g, o, none⟩ (.map (some W0.heap.size))).heap[j]? = W0.heap[j]? := fun j hj hne => by
      rw [Below.heap_setCell _ _ _ j hne]; exact Below.heap_alloc W0 _ j hj
    have hg0 : g < B0 := by have := h.lt; omega
    have hD1 : LiesD ((W0.alloc (.map #[] 0)).setCell ⟨g, o, none⟩ (.map (some W0.heap.size))) B0 i.r i.n := by rw [LiesD, hDg B0 hD.lt (by omega)]; exact hD
    have hX1 : LiesX ((W0.alloc (.map #[] 0)).setCell ⟨g, o, none⟩ (.map (some W0.heap.size))) (B0 + 1) i.x := by rw [LiesX, hDg (B0 + 1) hX.lt (by omega)]; exact hX
    obtain ⟨b', e', hm⟩ := (h1.map.resolve_left (by simp))
    obtain rfl := Option.some.inj e'
    obtain ⟨b, hb⟩ : ∃ b, W0.heap.size = b := ⟨_, rfl⟩
    obtain ⟨W2, hW2⟩ : ∃ W2, (W0.alloc (.map #[] 0)).setCell ⟨g, o, none⟩ (.map (some W0.heap.size)) = W2 := ⟨_, rfl⟩
    rw [hW2] at h1 t1 hD1 hX1 hm
    rw [hb] at h1 t1 hm hW2
    obtain ⟨ob, ho⟩ := hm.update i
    have hu := (ho W2.drew rfl).1
    have hHs : W2.drew.cell? ⟨g, o, none⟩ = some (.map (some b)) ∧ LiesD W2.drew B0 i.r i.n ∧ LiesX W2.drew (B0 + 1) i.x := ⟨h1.c0, hD1, hX1⟩
    have HS2 : Hid _ := put_held (W := W2.drew) (ob := ob) h1 hD1 hX1 rfl hm.blk
    have FIN : Hid _ := And.intro (h1.blocked (W := W2.drew) rfl (ho W2.drew rfl).2) (t1.trans (tn_blocked g b W2 W2.drew ob rfl rfl rfl rfl))
    have hmk := run_makeMap (P := Tryz.prog) (w := W0)
    clear ho h1 t1 hD1 hX1 hm h hB hD hX e' hDg
    have he := fun W => eql_map_none W
    go_enter Tryz.func57, Tryz.ntmps57
    go_wp2_with (first | (go_at_call 104; refine Calls.mono hz ?_; rintro e w2 ⟨rfl, hw2⟩; obtain rfl := hw2.symm))
    clear hW2 hz
    refine wp_region_noPanic ?_
    refine wp_region_held_drew (S := fun W' : World => W'.cell? ⟨g, o, none⟩ = some (.map (some b)) ∧ LiesD W' B0 i.r i.n ∧ LiesX W' (B0 + 1) i.x) (by kernel_rfl) hHs (fun hHeld => ?_)
    refine wpAnyH_take (i := 0) (oi := { dst := some 17, op := _, type := _, pos := _, after := _, guard := _ }) (v := .pointer (some ⟨g, o, none⟩)) rfl (by kernel_rfl) (by kernel_rfl) (by kernel_rfl) (fun _ _ _ h => h) (Or.inl ⟨by rfl, ?_⟩) (by assumption) ?_
    · intro w9 hSw
      exact y_move rfl rfl
    simp only [Act.put, List.setIfInBounds_toArray, List.set_cons_zero, List.set_cons_succ]
    refine wpAnyH_take (i := 1) (oi := { dst := some 18, op := _, type := _, pos := _, after := _, guard := _ }) (v := .pointer (some ⟨g, o, none⟩)) rfl (by kernel_rfl) (by kernel_rfl) (by kernel_rfl) (fun _ _ _ h => h) (Or.inl ⟨by rfl, ?_⟩) (by assumption) ?_
    · intro w9 hSw
      exact y_nil rfl rfl
    simp only [Act.put, List.setIfInBounds_toArray, List.set_cons_zero, List.set_cons_succ]
    refine wpAnyH_take (i := 2) (oi := { dst := some 19, op := _, type := _, pos := _, after := _, guard := _ }) (v := .pointer (some ⟨g, o, none⟩)) rfl (by kernel_rfl) (by kernel_rfl) (by kernel_rfl) (fun _ _ _ h => h) (Or.inl ⟨by rfl, ?_⟩) (by assumption) ?_
    · intro w9 hSw
      exact y_field rfl rfl (field_b _ _ _)
    simp only [Act.put, List.setIfInBounds_toArray, List.set_cons_zero, List.set_cons_succ]
    refine wpAnyH_take (i := 3) (oi := { dst := some 20, op := _, type := _, pos := _, after := _, guard := _ }) (v := .map (some b)) rfl (by kernel_rfl) (by kernel_rfl) (by kernel_rfl) (fun _ _ _ h => h) (Or.inl ⟨by rfl, ?_⟩) (by assumption) ?_
    · intro w9 hSw
      exact y_load rfl rfl (load_m hSw.1)
    simp only [Act.put, List.setIfInBounds_toArray, List.set_cons_zero, List.set_cons_succ]
    refine wpAnyH_take (i := 4) (oi := { dst := some 21, op := _, type := _, pos := _, after := _, guard := _ }) (v := .agg (dotc i.r i.n)) rfl (by kernel_rfl) (by kernel_rfl) (by kernel_rfl) (fun _ _ _ h => h) (Or.inl ⟨by rfl, ?_⟩) (by assumption) ?_
    · intro w9 hSw
      exact y_load rfl rfl (load_d hSw.2.1)
    simp only [Act.put, List.setIfInBounds_toArray, List.set_cons_zero, List.set_cons_succ]
    refine wpAnyH_take (i := 5) (oi := { dst := some 22, op := _, type := _, pos := _, after := _, guard := _ }) (v := .agg (dotc i.r i.n)) rfl (by kernel_rfl) (by kernel_rfl) (by kernel_rfl) (fun _ _ _ h => h) (Or.inl ⟨by rfl, ?_⟩) (by assumption) ?_
    · intro w9 hSw
      exact y_load rfl rfl (load_d hSw.2.1)
    simp only [Act.put, List.setIfInBounds_toArray, List.set_cons_zero, List.set_cons_succ]
    refine wpAnyH_take (i := 6) (oi := { dst := some 23, op := _, type := _, pos := _, after := _, guard := _ }) (v := .agg i.x.l.toArray) rfl (by kernel_rfl) (by kernel_rfl) (by kernel_rfl) (fun _ _ _ h => h) (Or.inl ⟨by rfl, ?_⟩) (by assumption) ?_
    · intro w9 hSw
      exact y_load rfl rfl (load_x hSw.2.2)
    simp only [Act.put, List.setIfInBounds_toArray, List.set_cons_zero, List.set_cons_succ]
    refine wpAnyH_take (i := 7) (oi := { dst := some 24, op := _, type := _, pos := _, after := _, guard := _ }) (v := .agg (xc i)) rfl (by kernel_rfl) (by kernel_rfl) (by kernel_rfl) (fun _ _ _ h => h) (Or.inl ⟨by rfl, ?_⟩) (by assumption) ?_
    · intro w9 hSw
      exact y_b2 (ty := 135) (i := 0) (j := 1) (x := .tmp 22) (y := .tmp 23) (p := .agg (dotc i.r i.n)) (q := .agg i.x.l.toArray) rfl rfl rfl (build_it _ _)
    simp only [Act.put, List.setIfInBounds_toArray, List.set_cons_zero, List.set_cons_succ]
    refine wpAnyH_ready (rs := [8]) (by kernel_rfl) (by simp) ?_
    refine AllReadyH.cons (o := { dst := none, op := _, type := _, pos := _, after := _, guard := _ }) rfl (fun K hK => ?_) AllReadyH.nil
    rw [if_pos (by rfl)]
    refine y_mapu (ty := 82) (x := .tmp 20) (y := .tmp 21) (z := .tmp 24) (p := .map (some b)) (q := .agg (dotc i.r i.n)) (r := .agg (xc i)) rfl rfl rfl rfl hu ?_
    refine hK.out _ _ HS2.out (fun hHeld => ?_)
    clear hK K
    simp only [Act.put]
    refine wpAnyH_done (by kernel_rfl) ?_ _
    refine NoPanic.normal ?_
    clear hHeld
    go_wp2
    go_end0
    exact ⟨rfl, _, FIN.out.1, T0.out.trans FIN.out.2⟩
  · obtain ⟨hm0⟩ : Nonempty (Mp W0 b S) := by
      rcases hB.map with ⟨e, -⟩ | ⟨b', e, hm'⟩
      · cases e
      · obtain rfl := Option.some.inj e
        exact ⟨hm'⟩
    obtain ⟨ob, ho⟩ := hm0.update i
    have hu := (ho W0.drew rfl).1
    have hc0 := hB.c0
    have hHs : W0.drew.cell? ⟨g, o, none⟩ = some (.map (some b)) ∧ LiesD W0.drew B0 i.r i.n ∧ LiesX W0.drew (B0 + 1) i.x := ⟨hB.c0, hD, hX⟩
    have HS2 : Hid _ := put_held (W := W0.drew) (ob := ob) hB hD hX rfl hm0.blk
    have FIN : Hid _ := And.intro (hB.blocked (W := W0.drew) rfl (ho W0.drew rfl).2) (tn_blocked g b W0 W0.drew ob rfl rfl rfl rfl)
    have HSF : Hid _ := h.self
    clear ho hm0 hm h hB hD hX
    have he := fun W => eql_map_some W b
    go_enter Tryz.func57, Tryz.ntmps57
    go_wp2_with (first | (go_at_call 104; refine Calls.mono hz ?_; rintro e w2 ⟨rfl, hw2⟩; obtain rfl := hw2.symm))
    clear hz
    refine wp_region_noPanic ?_
    refine wp_region_held_drew (S := fun W' : World => W'.cell? ⟨g, o, none⟩ = some (.map (some b)) ∧ LiesD W' B0 i.r i.n ∧ LiesX W' (B0 + 1) i.x) (by kernel_rfl) hHs (fun hHeld => ?_)
    refine wpAnyH_take (i := 0) (oi := { dst := some 17, op := _, type := _, pos := _, after := _, guard := _ }) (v := .pointer (some ⟨g, o, none⟩)) rfl (by kernel_rfl) (by kernel_rfl) (by kernel_rfl) (fun _ _ _ h => h) (Or.inl ⟨by rfl, ?_⟩) (by assumption) ?_
    · intro w9 hSw
      exact y_move rfl rfl
    simp only [Act.put, List.setIfInBounds_toArray, List.set_cons_zero, List.set_cons_succ]
    refine wpAnyH_take (i := 1) (oi := { dst := some 18, op := _, type := _, pos := _, after := _, guard := _ }) (v := .pointer (some ⟨g, o, none⟩)) rfl (by kernel_rfl) (by kernel_rfl) (by kernel_rfl) (fun _ _ _ h => h) (Or.inl ⟨by rfl, ?_⟩) (by assumption) ?_
    · intro w9 hSw
      exact y_nil rfl rfl
    simp only [Act.put, List.setIfInBounds_toArray, List.set_cons_zero, List.set_cons_succ]
    refine wpAnyH_take (i := 2) (oi := { dst := some 19, op := _, type := _, pos := _, after := _, guard := _ }) (v := .pointer (some ⟨g, o, none⟩)) rfl (by kernel_rfl) (by kernel_rfl) (by kernel_rfl) (fun _ _ _ h => h) (Or.inl ⟨by rfl, ?_⟩) (by assumption) ?_
    · intro w9 hSw
      exact y_field rfl rfl (field_b _ _ _)
    simp only [Act.put, List.setIfInBounds_toArray, List.set_cons_zero, List.set_cons_succ]
    refine wpAnyH_take (i := 3) (oi := { dst := some 20, op := _, type := _, pos := _, after := _, guard := _ }) (v := .map (some b)) rfl (by kernel_rfl) (by kernel_rfl) (by kernel_rfl) (fun _ _ _ h => h) (Or.inl ⟨by rfl, ?_⟩) (by assumption) ?_
    · intro w9 hSw
      exact y_load rfl rfl (load_m hSw.1)
    simp only [Act.put, List.setIfInBounds_toArray, List.set_cons_zero, List.set_cons_succ]
    refine wpAnyH_take (i := 4) (oi := { dst := some 21, op := _, type := _, pos := _, after := _, guard := _ }) (v := .agg (dotc i.r i.n)) rfl (by kernel_rfl) (by kernel_rfl) (by kernel_rfl) (fun _ _ _ h => h) (Or.inl ⟨by rfl, ?_⟩) (by assumption) ?_
    · intro w9 hSw
      exact y_load rfl rfl (load_d hSw.2.1)
    simp only [Act.put, List.setIfInBounds_toArray, List.set_cons_zero, List.set_cons_succ]
    refine wpAnyH_take (i := 5) (oi := { dst := some 22, op := _, type := _, pos := _, after := _, guard := _ }) (v := .agg (dotc i.r i.n)) rfl (by kernel_rfl) (by kernel_rfl) (by kernel_rfl) (fun _ _ _ h => h) (Or.inl ⟨by rfl, ?_⟩) (by assumption) ?_
    · intro w9 hSw
      exact y_load rfl rfl (load_d hSw.2.1)
    simp only [Act.put, List.setIfInBounds_toArray, List.set_cons_zero, List.set_cons_succ]
    refine wpAnyH_take (i := 6) (oi := { dst := some 23, op := _, type := _, pos := _, after := _, guard := _ }) (v := .agg i.x.l.toArray) rfl (by kernel_rfl) (by kernel_rfl) (by kernel_rfl) (fun _ _ _ h => h) (Or.inl ⟨by rfl, ?_⟩) (by assumption) ?_
    · intro w9 hSw
      exact y_load rfl rfl (load_x hSw.2.2)
    simp only [Act.put, List.setIfInBounds_toArray, List.set_cons_zero, List.set_cons_succ]
    refine wpAnyH_take (i := 7) (oi := { dst := some 24, op := _, type := _, pos := _, after := _, guard := _ }) (v := .agg (xc i)) rfl (by kernel_rfl) (by kernel_rfl) (by kernel_rfl) (fun _ _ _ h => h) (Or.inl ⟨by rfl, ?_⟩) (by assumption) ?_
    · intro w9 hSw
      exact y_b2 (ty := 135) (i := 0) (j := 1) (x := .tmp 22) (y := .tmp 23) (p := .agg (dotc i.r i.n)) (q := .agg i.x.l.toArray) rfl rfl rfl (build_it _ _)
    simp only [Act.put, List.setIfInBounds_toArray, List.set_cons_zero, List.set_cons_succ]
    refine wpAnyH_ready (rs := [8]) (by kernel_rfl) (by simp) ?_
    refine AllReadyH.cons (o := { dst := none, op := _, type := _, pos := _, after := _, guard := _ }) rfl (fun K hK => ?_) AllReadyH.nil
    rw [if_pos (by rfl)]
    refine y_mapu (ty := 82) (x := .tmp 20) (y := .tmp 21) (z := .tmp 24) (p := .map (some b)) (q := .agg (dotc i.r i.n)) (r := .agg (xc i)) rfl rfl rfl rfl hu ?_
    refine hK.out _ _ HS2.out (fun hHeld => ?_)
    clear hK K
    simp only [Act.put]
    refine wpAnyH_done (by kernel_rfl) ?_ _
    refine NoPanic.normal ?_
    clear hHeld
    go_wp2
    go_end0
    exact ⟨rfl, some b, by rw [HSF.out]; exact FIN.out.1, T0.out.trans FIN.out.2⟩
theorem len_any (g o : Nat) (cs : Array Value) (ty : TypeId) (m : Option Nat) (S : List (It (Cx 28))) (w : World) (h : Bg w g o cs ty m S) :
    Calls Tryz.prog 60 #[.pointer (some ⟨g, o, none⟩)] w fun e w' => e = .returned (.int .i64 (S.length : Int)) ∧ w' = w := by
  have hz := orz_some g o w
  have hc := h.c0
  have hl : (Builtin.len_ #[82] 3 #[.map m]).run Tryz.prog w = .ok (.int .i64 (S.length : Int)) w := by
    rcases h.map with ⟨rfl, rfl⟩ | ⟨b, rfl, hm⟩
    · exact len_nil w _
    · exact hm.len _
  generalize (S.length : Int) = n at *
  clear h
  go_enter Tryz.func60, Tryz.ntmps60
  go_wp2_with (first | (go_at_call 104; refine Calls.mono hz ?_; rintro e w2 ⟨rfl, hw2⟩; obtain rfl := hw2.symm))
  go_ret
  exact ⟨rfl, rfl⟩
end Go.Proofs.YtmlfekbmbnfkjabGreatDoor.D

/-
  A plain region walked by running it over what is known of its slots: comparisons of numbers, and what else is hard, are told ahead and shown apart.
-/
namespace Go.Proofs.YtmlfekbmbnfkjabGreatDoor
set_option maxRecDepth 100000
set_option maxRecDepth 100000
open Go.RowKit

/-- What is known of slots, the newest first. -/
def seeT : List (Nat × Value) → Nat → Option Value
  | [], _ => none
  | p :: K, t => cond (Nat.beq p.1 t) (some p.2) (seeT K t)
def seeO (K : List (Nat × Value)) : Operand → Option Value
  | .tmp t => seeT K t
  | .const v => some v
  | _ => none
/-- What is told ahead of an operation: a comparison's answer, a value. -/
inductive Tell where
  | b (t : Bool)
  | v (x : Value)
/-- What is left to be shown. -/
inductive Owe where
  | eq (m n : Int) (t : Bool)
  | ld (t : TypeId) (ad : Addr) (v : Value)
  | fa (t : TypeId) (p : Value) (k : Nat) (v : Value)
  | ix (t : TypeId) (p q v : Value)
  | bi (op : BinOp) (t : TypeId) (x y : Operand) (p q v : Value)
def pstep (K : List (Nat × Value)) : Op → List Tell → Option (Value × List Tell × List Owe)
  | .move x, ts => (seeO K x).map fun v => (v, ts, [])
  | .assign x, ts => (seeO K x).map fun v => (v, ts, [])
  | .pick c x y, ts =>
    match seeO K c with
    | some (.bool true) => (seeO K x).map fun v => (v, ts, [])
    | some (.bool false) => (seeO K y).map fun v => (v, ts, [])
    | _ => none
  | .unOp .not 4 x, ts =>
    match seeO K x with
    | some (.bool b) => some (.bool (!b), ts, [])
    | _ => none
  | .binOp .eql 3 x y 3, .b t :: ts =>
    match seeO K x, seeO K y with
    | some (.int .i64 m), some (.int .i64 n) => some (.bool t, ts, [.eq m n t])
    | _, _ => none
  | .load t x, .v v :: ts =>
    match seeO K x with
    | some (.pointer (some ad)) => some (v, ts, [.ld t ad v])
    | _ => none
  | .fieldAddr t x k, .v v :: ts => (seeO K x).map fun p => (v, ts, [.fa t p k v])
  | .indexAddr t x y, .v v :: ts =>
    match seeO K x, seeO K y with
    | some p, some q => some (v, ts, [.ix t p q v])
    | _, _ => none
  | .binOp op t x y _, .v v :: ts =>
    match seeO K x, seeO K y with
    | some p, some q => some (v, ts, [.bi op t x y p q v])
    | _, _ => none
  | _, _ => none
def Knows (a : Act) (K : List (Nat × Value)) : Prop := ∀ t v, seeT K t = some v → a.tmps[t]? = some v
theorem Knows.nil (a : Act) : Knows a [] := fun t v h => by cases h
theorem Knows.cons {a : Act} {K : List (Nat × Value)} (h : Knows a K) {d : Nat} {v : Value} (hd : a.tmps[d]? = some v) : Knows a ((d, v) :: K) := fun t u hu => by
  unfold seeT at hu
  by_cases e : d = t
  · subst e
    rw [show Nat.beq d d = true from Nat.beq_refl d] at hu
    cases hu
    exact hd
  · rw [show Nat.beq d t = false from by
      cases hb : Nat.beq d t
      · rfl
      · exact absurd (Nat.eq_of_beq_eq_true hb) e] at hu
    exact h t u hu
theorem Knows.put {a : Act} {K : List (Nat × Value)} (h : Knows a K) {d : Nat} (v : Value) (hd : d < a.tmps.size) : Knows (a.put (some d) v) ((d, v) :: K) := fun t u hu => by
  unfold seeT at hu
  simp only [Act.put]
  by_cases e : d = t
  · subst e
    rw [show Nat.beq d d = true from Nat.beq_refl d] at hu
    cases hu
    exact Array.getElem?_setIfInBounds_self_of_lt hd
  · rw [show Nat.beq d t = false from by
      cases hb : Nat.beq d t
      · rfl
      · exact absurd (Nat.eq_of_beq_eq_true hb) e] at hu
    rw [Array.getElem?_setIfInBounds_ne e]
    exact h t u hu
theorem Knows.eval {a : Act} {K : List (Nat × Value)} (h : Knows a K) {x : Operand} {v : Value} (hx : seeO K x = some v) : a.eval x = v := by
  cases x with
  | tmp t =>
    have := h t v hx
    simp only [Act.eval, Array.getD_eq_getD_getElem?, this, Option.getD_some]
  | const u => exact Option.some.inj hx
  | global g => cases hx
  | func f => cases hx
section
variable {o : Oper} {a : Act} {w : World} {x y z : Operand} {m n : Int}
end Go.Proofs.YtmlfekbmbnfkjabGreatDoor

/-
  A function made, as an operation of a region that draws its order.
-/
namespace Go.Proofs.YtmlfekbmbnfkjabGreatDoor
set_option maxRecDepth 100000
open Go.RowKit
theorem y_mkf {o : Oper} {a : Act} {w : World} {x y : Operand} {p q : Value} {f : Fn} (ho : o.op = .makeFunc f #[] #[x, y]) (hx : a.eval x = p) (hy : a.eval y = q) : (execOp a.eval o).run Tryz.prog w = .ok (.value (.func f #[] #[p, q])) w := by
  unfold execOp
  simp only [ho, List.map_toArray, List.map_cons, List.map_nil, hx, hy]
  rfl
end Go.Proofs.YtmlfekbmbnfkjabGreatDoor

