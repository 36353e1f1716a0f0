/-
  A region that draws its order, two of whose operations leave values that are not known, but for what stays so where worlds grow.
-/
import Derived.Test.YtkhfplpplmnjiaaDoorRgo
namespace Go.Proofs.YtkhfplpplmnjiaaDoor
set_option maxRecDepth 100000
open Go Go.RowKit

def TwoR (q1 q2 : Nat) (R1 R2 : Value → World → Prop) (V : Value → Value → List Value) (i : Nat) (v : Value) (w : World) : Prop :=
  if i = q1 then R1 v w else if i = q2 then R2 v w else v = (V undef undef).getD i undef
/-- One operation, over the values of all: v1, v2 those that are not known. -/
def OkTwo (P : Program) (ops : Array Oper) (E : Value → Value → Act) (w0 : World) (q1 q2 : Nat) (R1 R2 : Value → World → Prop) (V : Value → Value → List Value) (i : Nat) (o : Oper) : Prop :=
  ∀ v1 v2, Region.wanted o (yielded ops (E v1 v2).tmps) = true ∧ ∀ w, Below w0.heap.size w0 w → (waits o q1 = true → R1 v1 w) → (waits o q2 = true → R2 v2 w) → YieldsR P (TwoR q1 q2 R1 R2 V i) w ((execOp (E v1 v2).eval o).run P w)
theorem OkTwo.at {P : Program} {ops : Array Oper} {E : Value → Value → Act} {w0 : World} {q1 q2 : Nat} {R1 R2 : Value → World → Prop} {V : Value → Value → List Value} {i : Nat} {o : Oper} {v : Value} (h1 : i ≠ q1) (h2 : i ≠ q2) (hv : (V undef undef).getD i undef = v)
    (hw : ∀ v1 v2, Region.wanted o (yielded ops (E v1 v2).tmps) = true)
    (h : ∀ v1 v2 w, Below w0.heap.size w0 w → (waits o q1 = true → R1 v1 w) → (waits o q2 = true → R2 v2 w) → Yields P v w ((execOp (E v1 v2).eval o).run P w)) : OkTwo P ops E w0 q1 q2 R1 R2 V i o := fun v1 v2 => ⟨hw v1 v2, fun w hb a b => by
  have := (h v1 v2 w hb a b).some
  subst hv
  have e : TwoR q1 q2 R1 R2 V i = fun v' _ => v' = (V undef undef).getD i undef := by funext v w; simp only [TwoR, if_neg h1, if_neg h2]
  rw [e]
  exact this⟩
theorem OkTwo.one {P : Program} {ops : Array Oper} {E : Value → Value → Act} {w0 : World} {q1 q2 : Nat} {R1 R2 : Value → World → Prop} {V : Value → Value → List Value} {o : Oper}
    (hw : ∀ v1 v2, Region.wanted o (yielded ops (E v1 v2).tmps) = true) (h : ∀ v1 v2 w, Below w0.heap.size w0 w → YieldsR P R1 w ((execOp (E v1 v2).eval o).run P w)) : OkTwo P ops E w0 q1 q2 R1 R2 V q1 o := fun v1 v2 => ⟨hw v1 v2, fun w hb _ _ => by
  have e : TwoR q1 q2 R1 R2 V q1 = R1 := by funext v w; simp [TwoR]
  rw [e]; exact h v1 v2 w hb⟩
theorem OkTwo.two {P : Program} {ops : Array Oper} {E : Value → Value → Act} {w0 : World} {q1 q2 : Nat} {R1 R2 : Value → World → Prop} {V : Value → Value → List Value} {o : Oper} (hne : q2 ≠ q1)
    (hw : ∀ v1 v2, Region.wanted o (yielded ops (E v1 v2).tmps) = true) (h : ∀ v1 v2 w, Below w0.heap.size w0 w → YieldsR P R2 w ((execOp (E v1 v2).eval o).run P w)) : OkTwo P ops E w0 q1 q2 R1 R2 V q2 o := fun v1 v2 => ⟨hw v1 v2, fun w hb _ _ => by
  have e : TwoR q1 q2 R1 R2 V q2 = R2 := by funext v w; simp [TwoR, hne]
  rw [e]; exact h v1 v2 w hb⟩

theorem region_two {P : Program} {l : List Oper} {Q : Exit → Act → World → Prop} {id : Nat} {a : Act} {w : World} (ds : List Tmp) (V : Value → Value → List Value) (q1 q2 : Nat) (R1 R2 : Value → World → Prop) (E : Value → Value → Act) (hm : P.follows .mixedOrders = true)
    (he : early .any l.toArray = true) (hd : l.map (·.dst) = ds.map some) (hn : ds.Nodup) (hc : covered ds l = true) (hq1 : q1 < l.length) (hq2 : q2 < l.length) (hne : q2 ≠ q1)
    (hV1 : ∀ v1 v2, (V v1 v2).getD q1 undef = v1) (hV2 : ∀ v1 v2, (V v1 v2).getD q2 undef = v2) (hV : ∀ v1 v2 i, i ≠ q1 → i ≠ q2 → (V v1 v2).getD i undef = (V undef undef).getD i undef)
    (hE : ∀ v1 v2, lay a ds 0 (fun j => (V v1 v2).getD j undef) = E v1 v2)
    (hR1 : ∀ v w w', Below w.heap.size w w' → R1 v w → R1 v w') (hR2 : ∀ v w w', Below w.heap.size w w' → R2 v w → R2 v w')
    (hop : Each (OkTwo P l.toArray E w q1 q2 R1 R2 V) 0 l)
    (hend : ∀ v1 v2 w', Below w.heap.size w w' → R1 v1 w' → R2 v2 w' → Q .normal (E v1 v2) w') : (Code.region id l.toArray true).wp P Q a w := by
  obtain rfl : (fun v1 v2 => lay a ds 0 (fun j => (V v1 v2).getD j undef)) = E := by funext v1 v2; exact hE v1 v2
  clear hE
  have same : ∀ (u : Nat → Value) (j : Nat) (w1 : World), TwoR q1 q2 R1 R2 V j (u j) w1 → u j = (V (u q1) (u q2)).getD j undef := fun u j w1 h => by
    by_cases e1 : j = q1
    · rw [e1, hV1]
    · by_cases e2 : j = q2
      · rw [e2, hV2]
      · rw [TwoR, if_neg e1, if_neg e2] at h
        rw [h]
        exact (hV _ _ j e1 e2).symm
  have hlen : ds.length = l.length := by have := congrArg List.length hd; simpa using this.symm
  refine region_parts ds (TwoR q1 q2 R1 R2 V) hm he hd hn ?_ (Each.mono ?_ hop) ?_
  · intro i v w w' hb h
    unfold TwoR at h ⊢
    by_cases e1 : i = q1
    · rw [if_pos e1] at h ⊢; exact hR1 v w w' hb h
    · rw [if_neg e1] at h ⊢
      by_cases e2 : i = q2
      · rw [if_pos e2] at h ⊢; exact hR2 v w w' hb h
      · rw [if_neg e2] at h ⊢; exact h
  · intro i o ho hok u w1 hb hdep K hK
    rw [Nat.zero_add] at hok hK
    obtain ⟨h1, h2⟩ := hok (u q1) (u q2)
    have hcov := List.all_eq_true.1 hc o (List.mem_of_getElem? ho)
    rw [Bool.and_eq_true] at hcov
    obtain ⟨hg, hr⟩ := hcov
    have hdep' : ∀ j, waits o j = true → u j = (V (u q1) (u q2)).getD j undef := fun j hj => same u j w1 (hdep j hj)
    have hqa : waits o q1 = true → R1 (u q1) w1 := fun h => by
      have := hdep q1 h
      rwa [TwoR, if_pos rfl] at this
    have hqb : waits o q2 = true → R2 (u q2) w1 := fun h => by
      have := hdep q2 h
      rwa [TwoR, if_neg hne, if_pos rfl] at this
    have hw : Region.wanted o (yielded l.toArray (lay a ds 0 u).tmps) = Region.wanted o (yielded l.toArray (lay a ds 0 (fun j => (V (u q1) (u q2)).getD j undef)).tmps) := by
      unfold Region.wanted
      cases hgd : o.guard with
      | none => rfl
      | some jw =>
        obtain ⟨j, want⟩ := jw
        rw [hgd] at hg
        simp only at hg ⊢
        congr 1
        unfold yielded
        cases hj : l.toArray[j]? with
        | none => rfl
        | some oj =>
          simp only [Option.bind_some]
          rw [List.getElem?_toArray] at hj
          have hdj : (ds.map some)[j]? = some oj.dst := by rw [← hd, List.getElem?_map, hj]; rfl
          rw [List.getElem?_map] at hdj
          cases hdd : ds[j]? with
          | none => rw [hdd] at hdj; cases hdj
          | some d =>
            rw [hdd] at hdj
            simp only [Option.map_some, Option.some.injEq] at hdj
            rw [← hdj]
            simp only [Option.bind_some]
            rw [lay_get a d ds 0 u (fun j => (V (u q1) (u q2)).getD j undef) (fun j' hj' => by
              rw [Nat.zero_add]
              have : j' = j := by
                obtain ⟨l1, e1⟩ := List.getElem?_eq_some_iff.1 hj'
                obtain ⟨l2, e2⟩ := List.getElem?_eq_some_iff.1 hdd
                have hp := List.pairwise_iff_getElem.1 hn
                rcases Nat.lt_trichotomy j' j with h | h | h
                · exact absurd (e1.trans e2.symm) (hp _ _ l1 l2 h)
                · exact h
                · exact absurd (e2.trans e1.symm) (hp _ _ l2 l1 h)
              rw [this]; exact hdep' j hg)]
    rw [hw]
    rw [if_pos h1]
    cases hrd : reads o.op with
    | none => rw [hrd] at hr; cases hr
    | some xs =>
      rw [hrd] at hr
      simp only [] at hr
      have hsame : execOp (lay a ds 0 u).eval o = execOp (lay a ds 0 (fun j => (V (u q1) (u q2)).getD j undef)).eval o := execOp_same hrd (fun x hx => by
        have hx' := List.all_eq_true.1 hr x hx
        cases x with
        | tmp p =>
          refine lay_eval (fun j hj => hdep' j ?_)
          have hjl : j < ds.length := (List.getElem?_eq_some_iff.1 hj).1
          have := List.all_eq_true.1 hx' j (List.mem_range.2 hjl)
          simpa [hj] using this
        | _ => rfl)
      refine YieldsR.wp (R := TwoR q1 q2 R1 R2 V i) ?_ (fun v' w' hv hb' => hK.out _ _ hv hb')
      rw [hsame]
      exact h2 w1 hb hqa hqb
  · intro u w' hb hall
    have hext : lay a ds 0 u = lay a ds 0 (fun j => (V (u q1) (u q2)).getD j undef) := by
      have : ∀ (ds' : List Tmp) (k : Nat), k + ds'.length ≤ l.length → lay a ds' k u = lay a ds' k (fun j => (V (u q1) (u q2)).getD j undef) := by
        intro ds'
        induction ds' with
        | nil => intro k _; rfl
        | cons d ds' ih =>
          intro k hk
          rw [List.length_cons] at hk
          rw [lay, lay, ih (k + 1) (by omega)]
          have := same u k w' (hall k (by omega))
          rw [← this]
      exact this ds 0 (by omega)
    rw [hext]
    have h1 := hall q1 hq1
    have h2 := hall q2 hq2
    rw [TwoR, if_pos rfl] at h1
    rw [TwoR, if_neg hne, if_pos rfl] at h2
    exact hend _ _ w' hb h1 h2
end Go.Proofs.YtkhfplpplmnjiaaDoor
