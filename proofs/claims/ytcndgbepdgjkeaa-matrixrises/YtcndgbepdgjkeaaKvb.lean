/-
  A region that draws its order, where a value of no parts is built too.
-/
import Derived.Test.YtcndgbepdgjkeaaRvl
namespace Go.Proofs.Ytcndgbepdgjkeaa.B
set_option maxRecDepth 100000
open Go Go.RowKit Go.Proofs.Ytcndgbepdgjkeaa

/-- What an operation reads. -/
def reads : Op → Option (List Operand)
  | .move x => some [x]
  | .assign x => some [x]
  | .pick c x y => some [c, x, y]
  | .load _ x => some [x]
  | .binOp _ _ x y _ => some [x, y]
  | .unOp _ _ x => some [x]
  | .convert _ _ x => some [x]
  | .fieldAddr _ x _ => some [x]
  | .indexAddr _ x i => some [x, i]
  | .index _ x i => some [x, i]
  | .extract x _ => some [x]
  | .lookup _ x y _ => some [x, y]
  | .call ⟨.value f, args, _⟩ => some (f :: args.toList)
  | .call ⟨.builtin _, args, _⟩ => some args.toList
  | .build _ ⟨[]⟩ => some []
  | _ => none

theorem execOp_same {ρ ρ' : Operand → Value} {o : Oper} {xs : List Operand} (h : reads o.op = some xs) (hx : ∀ x ∈ xs, ρ x = ρ' x) : execOp ρ o = execOp ρ' o := by
  obtain ⟨dst, op, type, pos, after, guard⟩ := o
  cases op
  case call c =>
    obtain ⟨callee, args, types⟩ := c
    cases callee
    case value f =>
      simp only [reads, Option.some.injEq] at h
      subst h
      simp only [execOp, resolve, map_same args (fun x hm => hx x (List.mem_cons_of_mem _ hm)), hx f List.mem_cons_self]
    case builtin b =>
      simp only [reads, Option.some.injEq] at h
      subst h
      simp only [execOp, resolve, map_same args hx]
    case invoke => cases h
  case build t parts =>
    obtain ⟨l⟩ := parts
    cases l with
    | nil => simp only [execOp, List.map_toArray, List.map_nil]
    | cons => cases h
  all_goals first
    | cases h; done
    | (simp only [reads, Option.some.injEq] at h
       subst h
       simp only [List.mem_cons, List.not_mem_nil, or_false, forall_eq_or_imp, forall_eq] at hx
       simp only [execOp, hx])


/-- Whatever an operation reads was there ahead of the region, or is written by one that it waits for. -/
def covered (ds : List Tmp) (l : List Oper) : Bool := l.all fun o =>
  (match o.guard with | none => true | some (j, _) => waits o j) &&
  (match reads o.op with
   | none => false
   | some xs => xs.all fun
     | .tmp p => (List.range ds.length).all fun j => decide (ds[j]? ≠ some p) || waits o j
     | _ => true)

/-- The region, from its operations' values. -/
theorem region_vals {P : Program} {l : List Oper} {Q : Exit → Act → World → Prop} {id : Nat} {a : Act} {w : World} (ds : List Tmp) (vs : List Value) (E : Act) (hm : P.follows .mixedOrders = true)
    (he : early .any l.toArray = true) (hd : l.map (·.dst) = ds.map some) (hn : ds.Nodup) (hc : covered ds l = true) (hE : lay a ds 0 (vs.getD · undef) = E)
    (hop : Each (fun i o => OkAt P l.toArray E w (vs.getD i undef) o) 0 l)
    (hend : ∀ w', Below w.heap.size w w' → Q .normal E w') : (Code.region id l.toArray true).wp P Q a w := by
  subst hE
  have hlen : ds.length = l.length := by have := congrArg List.length hd; simpa using this.symm
  refine region_parts ds (fun i v _ => v = vs.getD i undef) hm he hd hn (fun _ _ _ _ _ h => h) (Each.mono ?_ hop) ?_
  · intro i o ho hok u w1 hb hdep K hK
    rw [Nat.zero_add] at hok hK
    have hcov := List.all_eq_true.1 hc o (List.mem_of_getElem? ho)
    rw [Bool.and_eq_true] at hcov
    obtain ⟨hg, hr⟩ := hcov
    have hdep' : ∀ j, waits o j = true → u j = vs.getD j undef := fun j hj => hdep j hj
    have hw : Region.wanted o (yielded l.toArray (lay a ds 0 u).tmps) = Region.wanted o (yielded l.toArray (lay a ds 0 (vs.getD · undef)).tmps) := by
      unfold Region.wanted
      cases hgd : o.guard with
      | none => rfl
      | some jw =>
        obtain ⟨j, want⟩ := jw
        rw [hgd] at hg
        simp only at hg ⊢
        congr 1
        unfold yielded
        cases hj : l.toArray[j]? with
        | none => rfl
        | some oj =>
          simp only [Option.bind_some]
          rw [List.getElem?_toArray] at hj
          have hdj : (ds.map some)[j]? = some oj.dst := by rw [← hd, List.getElem?_map, hj]; rfl
          rw [List.getElem?_map] at hdj
          cases hdd : ds[j]? with
          | none => rw [hdd] at hdj; cases hdj
          | some d =>
            rw [hdd] at hdj
            simp only [Option.map_some, Option.some.injEq] at hdj
            rw [← hdj]
            simp only [Option.bind_some]
            rw [lay_get a d ds 0 u (vs.getD · undef) (fun j' hj' => by
              rw [Nat.zero_add]
              have : j' = j := by
                have h1 := List.getElem?_eq_some_iff.1 hj'
                have h2 := List.getElem?_eq_some_iff.1 hdd
                obtain ⟨l1, e1⟩ := h1
                obtain ⟨l2, e2⟩ := h2
                have hp := List.pairwise_iff_getElem.1 hn
                rcases Nat.lt_trichotomy j' j with h | h | h
                · exact absurd (e1.trans e2.symm) (hp _ _ l1 l2 h)
                · exact h
                · exact absurd (e2.trans e1.symm) (hp _ _ l2 l1 h)
              rw [this]; exact hdep' j hg)]
    rw [hw]
    rcases hok with ⟨h1, h2⟩ | ⟨h1, h2⟩
    · rw [if_pos h1]
      cases hrd : reads o.op with
      | none => rw [hrd] at hr; cases hr
      | some xs =>
        rw [hrd] at hr
        simp only [] at hr
        have hsame : execOp (lay a ds 0 u).eval o = execOp (lay a ds 0 (vs.getD · undef)).eval o := execOp_same hrd (fun x hx => by
          have hx' := List.all_eq_true.1 hr x hx
          cases x with
          | tmp p =>
            refine lay_eval (fun j hj => hdep' j ?_)
            have hjl : j < ds.length := (List.getElem?_eq_some_iff.1 hj).1
            have := List.all_eq_true.1 hx' j (List.mem_range.2 hjl)
            simpa [hj] using this
          | _ => rfl)
        refine Yields.wp (v := vs.getD i undef) ?_ (fun w' hb' => hK.out _ _ rfl hb')
        rw [hsame]
        exact h2 w1 hb
    · rw [if_neg (by rw [h1]; decide)]
      exact hK.out _ _ h2.symm (Below.refl _ _)
  · intro u w' hb hu
    have : lay a ds 0 u = lay a ds 0 (vs.getD · undef) := by
      have hall : ∀ (ds : List Tmp) (k : Nat), k + ds.length ≤ l.length → lay a ds k u = lay a ds k (vs.getD · undef) := by
        intro ds
        induction ds with
        | nil => intro k _; rfl
        | cons d ds ih =>
          intro k hk
          simp only [List.length_cons] at hk
          rw [lay, lay, ih (k + 1) (by omega), hu k (by omega)]
      exact hall ds 0 (by omega)
    rw [this]
    exact hend w' hb

end Go.Proofs.Ytcndgbepdgjkeaa.B
