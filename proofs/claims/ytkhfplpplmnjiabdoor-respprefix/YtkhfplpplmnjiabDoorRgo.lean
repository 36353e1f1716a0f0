/-
  A region that draws its order, each of whose operations but one leaves one known value; of that one's value something is known that stays so where worlds grow.
-/
import Derived.Test.YtkhfplpplmnjiabDoorReg
namespace Go.Proofs.YtkhfplpplmnjiabDoor
set_option maxRecDepth 100000
open Go Go.RowKit

/-- One operation's outcome: a value and a world of which R holds. -/
def YieldsR (P : Program) (R : Value → World → Prop) (w : World) : Result Next → Prop
  | .ok (.value v') w' => R v' w' ∧ Below w.heap.size w w'
  | .ok (.enter f args) w' => w' = w ∧ Calls P f args w fun e w'' => ∃ v', e = .returned v' ∧ R v' w'' ∧ Below w.heap.size w w''
  | _ => False
theorem YieldsR.wp {P : Program} {o : Oper} {a : Act} {w : World} {R : Value → World → Prop} {K : Act → World → Prop} {Q : Exit → Act → World → Prop} (h : YieldsR P R w ((execOp a.eval o).run P w))
    (hK : ∀ v w', R v w' → Below w.heap.size w w' → K (a.put o.dst v) w') : Oper.wp P o a w K Q := by
  unfold Oper.wp
  generalize (execOp a.eval o).run P w = r at h
  match r, h with
  | .ok (.value v') w', h => exact hK _ _ h.1 h.2
  | .ok (.enter f args) w', h =>
    obtain ⟨rfl, hc⟩ := h
    refine hc.mono ?_
    rintro e w'' ⟨v', rfl, hr, hb⟩
    exact hK _ _ hr hb
theorem Yields.some {P : Program} {v : Value} {w : World} {r : Result Next} (h : Yields P v w r) : YieldsR P (fun v' _ => v' = v) w r := by
  match r, h with
  | .ok (.value v') w', h => exact h
  | .ok (.enter f args) w', h =>
    obtain ⟨rfl, hc⟩ := h
    refine ⟨rfl, hc.mono ?_⟩
    rintro e w'' ⟨rfl, hb⟩
    exact ⟨v, rfl, rfl, hb⟩

/-- One operation, over the values of all: v0 the one that is not known. -/
def OkOne (P : Program) (ops : Array Oper) (E : Value → Act) (w0 : World) (q : Nat) (Rq : Value → World → Prop) (v : Value) (i : Nat) (o : Oper) : Prop :=
  ∀ v0, Region.wanted o (yielded ops (E v0).tmps) = true ∧ ∀ w, Below w0.heap.size w0 w → (waits o q = true → Rq v0 w) → YieldsR P (fun v' w' => if i = q then Rq v' w' else v' = v) w ((execOp (E v0).eval o).run P w)
theorem OkOne.at {P : Program} {ops : Array Oper} {E : Value → Act} {w0 : World} {q : Nat} {Rq : Value → World → Prop} {v : Value} {i : Nat} {o : Oper} (hne : i ≠ q) (hw : ∀ v0, Region.wanted o (yielded ops (E v0).tmps) = true)
    (h : ∀ v0 w, Below w0.heap.size w0 w → (waits o q = true → Rq v0 w) → Yields P v w ((execOp (E v0).eval o).run P w)) : OkOne P ops E w0 q Rq v i o := fun v0 => ⟨hw v0, fun w hb hq => by
  have := (h v0 w hb hq).some
  simp only [if_neg hne]
  exact this⟩
theorem OkOne.it {P : Program} {ops : Array Oper} {E : Value → Act} {w0 : World} {q : Nat} {Rq : Value → World → Prop} {v : Value} {o : Oper} (hw : ∀ v0, Region.wanted o (yielded ops (E v0).tmps) = true)
    (h : ∀ v0 w, Below w0.heap.size w0 w → YieldsR P Rq w ((execOp (E v0).eval o).run P w)) : OkOne P ops E w0 q Rq v q o := fun v0 => ⟨hw v0, fun w hb _ => by
  simp only [if_true]
  exact h v0 w hb⟩

theorem yieldsR_call {P : Program} {R : Value → World → Prop} {E : Act} {w : World} {o : Oper} {f : FuncId} {xs : List Operand} {ts : Array TypeId} {vs : List Value} (ho : o.op = .call ⟨.value (.func f), xs.toArray, ts⟩) (ha : xs.map E.eval = vs) (hr : (callFunc f vs.toArray).run P w = .ok (.enter f vs.toArray) w)
    (hc : Calls P f vs.toArray w fun e w'' => ∃ v', e = .returned v' ∧ R v' w'' ∧ Below w.heap.size w w'') : YieldsR P R w ((execOp E.eval o).run P w) := by
  have ha' : xs.toArray.map E.eval = vs.toArray := by rw [List.map_toArray, ha]
  have h : (execOp E.eval o).run P w = .ok (.enter f vs.toArray) w := by
    unfold execOp
    simp only [ho, resolve, Act.eval, Deferred.ofValue, Sem.run_bind, Sem.run_pure, Result.andThen_ok, invoke, Array.append_empty, Array.empty_append]
    rw [show xs.toArray.map (fun x => E.eval x) = vs.toArray from ha']
    exact hr
  rw [h]; exact ⟨rfl, hc⟩

/-- The region, from its operations' values. -/
theorem region_one {P : Program} {l : List Oper} {Q : Exit → Act → World → Prop} {id : Nat} {a : Act} {w : World} (ds : List Tmp) (vs : List Value) (q : Nat) (Rq : Value → World → Prop) (E : Value → Act) (hm : P.follows .mixedOrders = true)
    (he : early .any l.toArray = true) (hd : l.map (·.dst) = ds.map some) (hn : ds.Nodup) (hc : covered ds l = true) (hql : q < l.length) (hE : ∀ v0, lay a ds 0 (fun j => if j = q then v0 else vs.getD j undef) = E v0)
    (hRq : ∀ v w w', Below w.heap.size w w' → Rq v w → Rq v w')
    (hop : Each (fun i o => OkOne P l.toArray E w q Rq (vs.getD i undef) i o) 0 l)
    (hend : ∀ v0 w', Below w.heap.size w w' → Rq v0 w' → Q .normal (E v0) w') : (Code.region id l.toArray true).wp P Q a w := by
  obtain rfl : (fun v0 => lay a ds 0 (fun j => if j = q then v0 else vs.getD j undef)) = E := funext hE
  clear hE
  have hlen : ds.length = l.length := by have := congrArg List.length hd; simpa using this.symm
  refine region_parts ds (fun i v w => if i = q then Rq v w else v = vs.getD i undef) hm he hd hn ?_ (Each.mono ?_ hop) ?_
  · intro i v w w' hb h
    by_cases e : i = q
    · rw [if_pos e] at h ⊢
      exact hRq v w w' hb h
    · rw [if_neg e] at h ⊢
      exact h
  · intro i o ho hok u w1 hb hdep K hK
    rw [Nat.zero_add] at hok hK
    obtain ⟨h1, h2⟩ := hok (u q)
    have hcov := List.all_eq_true.1 hc o (List.mem_of_getElem? ho)
    rw [Bool.and_eq_true] at hcov
    obtain ⟨hg, hr⟩ := hcov
    have hdep' : ∀ j, waits o j = true → u j = (if j = q then u q else vs.getD j undef) := fun j hj => by
      by_cases e : j = q
      · rw [if_pos e, e]
      · have : (if j = q then Rq (u j) w1 else u j = vs.getD j undef) := hdep j hj
        rw [if_neg e] at this ⊢
        exact this
    have hq : waits o q = true → Rq (u q) w1 := fun h => by
      have : (if q = q then Rq (u q) w1 else u q = vs.getD q undef) := hdep q h
      rwa [if_pos rfl] at this
    have hw : Region.wanted o (yielded l.toArray (lay a ds 0 u).tmps) = Region.wanted o (yielded l.toArray (lay a ds 0 (fun j => if j = q then u q else vs.getD j undef)).tmps) := by
      unfold Region.wanted
      cases hgd : o.guard with
      | none => rfl
      | some jw =>
        obtain ⟨j, want⟩ := jw
        rw [hgd] at hg
        simp only at hg ⊢
        congr 1
        unfold yielded
        cases hj : l.toArray[j]? with
        | none => rfl
        | some oj =>
          simp only [Option.bind_some]
          rw [List.getElem?_toArray] at hj
          have hdj : (ds.map some)[j]? = some oj.dst := by rw [← hd, List.getElem?_map, hj]; rfl
          rw [List.getElem?_map] at hdj
          cases hdd : ds[j]? with
          | none => rw [hdd] at hdj; cases hdj
          | some d =>
            rw [hdd] at hdj
            simp only [Option.map_some, Option.some.injEq] at hdj
            rw [← hdj]
            simp only [Option.bind_some]
            rw [lay_get a d ds 0 u (fun j => if j = q then u q else vs.getD j undef) (fun j' hj' => by
              rw [Nat.zero_add]
              have : j' = j := by
                obtain ⟨l1, e1⟩ := List.getElem?_eq_some_iff.1 hj'
                obtain ⟨l2, e2⟩ := List.getElem?_eq_some_iff.1 hdd
                have hp := List.pairwise_iff_getElem.1 hn
                rcases Nat.lt_trichotomy j' j with h | h | h
                · exact absurd (e1.trans e2.symm) (hp _ _ l1 l2 h)
                · exact h
                · exact absurd (e2.trans e1.symm) (hp _ _ l2 l1 h)
              rw [this]; exact hdep' j hg)]
    rw [hw]
    rw [if_pos h1]
    cases hrd : reads o.op with
    | none => rw [hrd] at hr; cases hr
    | some xs =>
      rw [hrd] at hr
      simp only [] at hr
      have hsame : execOp (lay a ds 0 u).eval o = execOp (lay a ds 0 (fun j => if j = q then u q else vs.getD j undef)).eval o := execOp_same hrd (fun x hx => by
        have hx' := List.all_eq_true.1 hr x hx
        cases x with
        | tmp p =>
          refine lay_eval (fun j hj => hdep' j ?_)
          have hjl : j < ds.length := (List.getElem?_eq_some_iff.1 hj).1
          have := List.all_eq_true.1 hx' j (List.mem_range.2 hjl)
          simpa [hj] using this
        | _ => rfl)
      refine YieldsR.wp (R := fun v' w' => if i = q then Rq v' w' else v' = vs.getD i undef) ?_ (fun v' w' hv hb' => hK.out _ _ hv hb')
      rw [hsame]
      exact h2 w1 hb hq
  · intro u w' hb hu
    have hq : Rq (u q) w' := by
      have := hu q hql
      rwa [if_pos rfl] at this
    have : lay a ds 0 u = lay a ds 0 (fun j => if j = q then u q else vs.getD j undef) := by
      have hall : ∀ (ds : List Tmp) (k : Nat), k + ds.length ≤ l.length → lay a ds k u = lay a ds k (fun j => if j = q then u q else vs.getD j undef) := by
        intro ds
        induction ds with
        | nil => intro k _; rfl
        | cons d ds ih =>
          intro k hk
          simp only [List.length_cons] at hk
          have hk' : u k = (if k = q then u q else vs.getD k undef) := by
            by_cases e : k = q
            · rw [if_pos e, e]
            · have := hu k (by omega)
              rw [if_neg e] at this ⊢
              exact this
          rw [lay, lay, ih (k + 1) (by omega), hk']
      exact hall ds 0 (by omega)
    rw [this]
    exact hend (u q) w' hb hq
end Go.Proofs.YtkhfplpplmnjiabDoor
