/-
  A region that draws its order, operation by operation and not order by order: each operation is shown once, from what those that it waits for have left. Worlds only grow on the way.
-/
import Derived.Deep.RegionHeld3
import Derived.Below
import Derived.Test.YtmlfekbmbnfkjabGreatDoorR01
import Derived.BigQuiet
import Derived.Deep.MidRow
namespace Go.Proofs.YtmlfekbmbnfkjabGreatDoor
set_option maxRecDepth 100000
open Go Go.RowKit

def upd (u : Nat → Value) (i : Nat) (v : Value) : Nat → Value := fun j => if j = i then v else u j

/-- A state with u k in the k-th of the slots. -/
def lay (a : Act) : List Tmp → Nat → (Nat → Value) → Act
  | [], _, _ => a
  | d :: ds, k, u => (lay a ds (k + 1) u).put (some d) (u k)

theorem lay_congr (a : Act) : ∀ (ds : List Tmp) (k : Nat) (u u' : Nat → Value), (∀ j, k ≤ j → u j = u' j) → lay a ds k u = lay a ds k u'
  | [], _, _, _, _ => rfl
  | d :: ds, k, u, u', h => by rw [lay, lay, lay_congr a ds (k + 1) u u' (fun j hj => h j (by omega)), h k (Nat.le_refl _)]

theorem put_again (a : Act) (d : Tmp) (v v' : Value) : (a.put (some d) v).put (some d) v' = a.put (some d) v' := by
  simp [Act.put]

theorem lay_put (a : Act) : ∀ (ds : List Tmp) (k i : Nat) (d : Tmp) (u : Nat → Value) (v : Value), ds.Nodup → ds[i]? = some d → (lay a ds k u).put (some d) v = lay a ds k (upd u (k + i) v)
  | [], _, _, _, _, _, _, h => by simp at h
  | e :: ds, k, 0, d, u, v, _, h => by
    simp only [List.getElem?_cons_zero, Option.some.injEq] at h
    subst h
    rw [lay, lay, put_again, Nat.add_zero, lay_congr a ds (k + 1) u (upd u k v) (fun j hj => by simp [upd]; omega)]
    simp [upd]
  | e :: ds, k, i + 1, d, u, v, hn, h => by
    rw [List.getElem?_cons_succ] at h
    have hne : e ≠ d := fun he => (List.nodup_cons.1 hn).1 (he ▸ List.mem_of_getElem? h)
    rw [lay, lay, Act.put_comm _ _ _ (fun x hx => by cases hx; simpa using hne.symm), lay_put a ds (k + 1) i d u v (List.nodup_cons.1 hn).2 h]
    rw [show k + 1 + i = k + (i + 1) by omega]
    congr 1
    simp [upd]

theorem lay_self (a : Act) : ∀ (ds : List Tmp) (k : Nat), ∃ u0 : Nat → Value, lay a ds k u0 = a
  | [], _ => ⟨fun _ => undef, rfl⟩
  | d :: ds, k => by
    obtain ⟨u0, h⟩ := lay_self a ds (k + 1)
    refine ⟨upd u0 k (a.tmps.getD d undef), ?_⟩
    rw [lay, lay_congr a ds (k + 1) (upd u0 k (a.tmps.getD d undef)) u0 (fun j hj => by simp [upd]; omega), h]
    have e : upd u0 k (a.tmps.getD d undef) k = a.tmps.getD d undef := by simp [upd]
    rw [e, Act.put]
    obtain ⟨t, f⟩ := a
    simp only [Act.mk.injEq, and_true]
    by_cases hd : d < t.size
    · rw [Array.setIfInBounds, dif_pos hd]
      simp [Array.getD, hd]
    · rw [Array.setIfInBounds, dif_neg hd]

/-- Each waits for earlier ones alone. -/
def early (md : Region.Mode) (ops : Array Oper) : Bool := (List.range ops.size).all fun i => (ops[i]?.map (fun o => o.after.all fun e => !Region.binds md e || decide (e.on < i))).getD true

theorem early_spec {md : Region.Mode} {ops : Array Oper} (h : early md ops = true) {i : Nat} {o : Oper} (ho : ops[i]? = some o) : ∀ e ∈ o.after, Region.binds md e = true → e.on < i := by
  intro e he hb
  have hi : i < ops.size := (Array.getElem?_eq_some_iff.1 ho).1
  have h1 := List.all_eq_true.1 h i (List.mem_range.2 hi)
  rw [ho] at h1
  simp only [Option.map_some, Option.getD_some] at h1
  have h2 := Array.all_eq_true_iff_forall_mem.1 h1 e he
  simpa [hb] using h2

section
variable {P : Program} {ops : Array Oper} {Q : Exit → Act → World → Prop} {md : Region.Mode}

/-- One operation, whatever came ahead of it: what those that it waits for have left is there. -/
def OpOk (P : Program) (md : Region.Mode) (ops : Array Oper) (Q : Exit → Act → World → Prop) (A : (Nat → Value) → Act) (R : Nat → Value → World → Prop) (w0 : World) (i : Nat) (o : Oper) : Prop :=
  ∀ (u : Nat → Value) (w : World), Below w0.heap.size w0 w → (∀ j, o.after.any (fun e => e.on == j && Region.binds md e) = true → R j (u j) w) →
    ∀ K : Act → World → Prop, Shut (∀ v w', R i v w' → Below w.heap.size w w' → K ((A u).put o.dst v) w') →
      if Region.wanted o (yielded ops (A u).tmps) = true then Oper.wp P o (A u) w K Q else K ((A u).put o.dst undef) w

theorem all_listed (he : early md ops = true) {listed : Array Bool} (hs : listed.size = ops.size) (hr : Region.ready md ops listed = []) : ∀ i, i < ops.size → listed.getD i false = true := by
  intro i
  induction i using Nat.strongRecOn with
  | ind i ih =>
    intro hi
    apply Classical.byContradiction
    intro hf
    have h0 : listed.getD i true = false := by
      have hi' : i < listed.size := by omega
      simp only [Array.getD, hi', dif_pos] at hf ⊢
      simpa using hf
    have ho : ops[i]? = some ops[i] := Array.getElem?_eq_getElem hi
    have hm : i ∈ Region.ready md ops listed := mem_ready.2 ⟨h0, ops[i], ho, fun e hem hb => by
      have hlt := early_spec he ho e hem hb
      exact ih e.on hlt (by omega)⟩
    rw [hr] at hm
    cases hm

theorem wpAny_parts (he : early md ops = true) (A : (Nat → Value) → Act) (R : Nat → Value → World → Prop) (w0 : World)
    (hput : ∀ i o u v, ops[i]? = some o → (A u).put o.dst v = A (upd u i v))
    (hR : ∀ i v w w', Below w.heap.size w w' → R i v w → R i v w')
    (hop : ∀ i o, ops[i]? = some o → OpOk P md ops Q A R w0 i o)
    (hend : ∀ u w, Below w0.heap.size w0 w → (∀ i, i < ops.size → R i (u i) w) → Q .normal (A u) w) :
    ∀ (fuel : Nat) (listed : Array Bool) (u : Nat → Value) (w : World), listed.size = ops.size → listed.toList.count false = fuel → Below w0.heap.size w0 w →
      (∀ i, listed.getD i false = true → R i (u i) w) → wpAny P md ops Q fuel listed (A u) w := by
  intro fuel
  induction fuel with
  | zero =>
    intro listed u w hs hc hb hl
    have hall : ∀ i, i < ops.size → listed.getD i false = true := by
      intro i hi
      have hi' : i < listed.size := by omega
      have hnot : false ∉ listed.toList := List.count_eq_zero.1 hc
      simp only [Array.getD, hi', dif_pos]
      rcases Bool.eq_false_or_eq_true listed[i] with h | h
      · exact h
      · exact absurd (by rw [← h]; simp) hnot
    refine ⟨?_, hend u w hb (fun i hi => hl i (hall i hi))⟩
    rw [List.eq_nil_iff_forall_not_mem]
    intro i hi
    obtain ⟨h0, o, ho, _⟩ := mem_ready.1 hi
    have hlt : i < ops.size := (Array.getElem?_eq_some_iff.1 ho).1
    have := hall i hlt
    have hi' : i < listed.size := by omega
    simp only [Array.getD, hi', dif_pos] at this h0
    rw [this] at h0
    cases h0
  | succ fuel ih =>
    intro listed u w hs hc hb hl
    refine ⟨fun hr => hend u w hb (fun i hi => hl i (all_listed he hs hr i hi)), fun i hi => ?_⟩
    obtain ⟨h0, o, ho, hall⟩ := mem_ready.1 hi
    have hlt : i < ops.size := (Array.getElem?_eq_some_iff.1 ho).1
    have hi' : i < listed.size := by omega
    have h0' : listed[i] = false := by simpa [Array.getD, hi'] using h0
    refine wpOp_step ho fun K' hK => ?_
    refine hop i o ho u w hb (fun j hj => ?_) K' (fun v w' hv hbw => ?_)
    · obtain ⟨e, hem, heq⟩ := Array.any_eq_true'.1 hj
      simp only [Bool.and_eq_true, beq_iff_eq] at heq
      rw [← heq.1]
      exact hl e.on (hall e hem heq.2)
    · rw [hput i o u v ho]
      refine hK _ _ (ih _ _ _ (by simpa using hs) ?_ (hb.trans (hbw.mono hb.size)) ?_)
      · rw [Array.toList_setIfInBounds, List.count_set (by simpa using hi')]
        simp [h0', hc]
      · intro j hj
        by_cases hji : j = i
        · subst hji
          simpa [upd] using hv
        · have : listed.getD j false = true := by
            simp only [Array.getD, Array.size_setIfInBounds] at hj ⊢
            split at hj
            · rename_i hjs
              rw [dif_pos hjs]
              have := Array.getElem_setIfInBounds_ne (xs := listed) (i := i) (j := j) (a := true) hjs (Ne.symm hji)
              rw [← hj]; exact this.symm
            · cases hj
          have e : upd u i v j = u j := by simp [upd, hji]
          rw [e]
          exact hR j _ w w' hbw (hl j this)
end

def Each (p : Nat → Oper → Prop) : Nat → List Oper → Prop
  | _, [] => True
  | k, o :: os => p k o ∧ Each p (k + 1) os
theorem Each.get {p : Nat → Oper → Prop} : ∀ {l : List Oper} {k i : Nat} {o : Oper}, Each p k l → l[i]? = some o → p (k + i) o
  | [], _, _, _, _, h => by simp at h
  | _ :: _, _, 0, _, h, ho => by
    simp only [List.getElem?_cons_zero, Option.some.injEq] at ho
    subst ho; exact h.1
  | _ :: _, k, i + 1, _, h, ho => by
    rw [List.getElem?_cons_succ] at ho
    have := Each.get h.2 ho
    rwa [show k + 1 + i = k + (i + 1) by omega] at this

/-- The region, from its operations. -/
theorem region_parts {P : Program} {l : List Oper} {Q : Exit → Act → World → Prop} {id : Nat} {a : Act} {w : World} (ds : List Tmp) (R : Nat → Value → World → Prop) (hm : P.follows .mixedOrders = true)
    (he : early .any l.toArray = true) (hd : l.map (·.dst) = ds.map some) (hn : ds.Nodup)
    (hR : ∀ i v w w', Below w.heap.size w w' → R i v w → R i v w')
    (hop : Each (OpOk P .any l.toArray Q (lay a ds 0) R w) 0 l)
    (hend : ∀ u w', Below w.heap.size w w' → (∀ i, i < l.length → R i (u i) w') → Q .normal (lay a ds 0 u) w') : (Code.region id l.toArray true).wp P Q a w := by
  refine wp_region_any hm ?_
  obtain ⟨u0, h0⟩ := lay_self a ds 0
  have hput : ∀ i o u v, l.toArray[i]? = some o → (lay a ds 0 u).put o.dst v = lay a ds 0 (upd u i v) := by
    intro i o u v ho
    rw [List.getElem?_toArray] at ho
    have h1 : (ds.map some)[i]? = some o.dst := by rw [← hd, List.getElem?_map, ho]; rfl
    rw [List.getElem?_map] at h1
    cases hdi : ds[i]? with
    | none => rw [hdi] at h1; cases h1
    | some d =>
      rw [hdi] at h1
      simp only [Option.map_some, Option.some.injEq] at h1
      rw [← h1, lay_put a ds 0 i d u v hn hdi, Nat.zero_add]
  have h := wpAny_parts (P := P) (Q := Q) (md := .any) he (lay a ds 0) R w hput hR (fun i o ho => by
    rw [List.getElem?_toArray] at ho
    have := hop.get ho
    rwa [Nat.zero_add] at this) (fun u w' hb hi => hend u w' hb (fun i hl => hi i (by simpa using hl)))
    l.toArray.size (Array.replicate l.toArray.size false) u0 w.drew (by simp) (by simp) ⟨rfl, rfl, rfl, Nat.le_refl _, fun _ _ => rfl⟩ (fun i hi => by
      simp only [Array.getD, Array.size_replicate] at hi
      split at hi
      · simp at hi
      · cases hi)
  rw [h0] at h
  exact h
end Go.Proofs.YtmlfekbmbnfkjabGreatDoor

/-
  A region that draws its order, each of whose operations leaves one known value, whatever the order: the values are laid once, and each operation is shown once, over them all.
-/
namespace Go.Proofs.YtmlfekbmbnfkjabGreatDoor
set_option maxRecDepth 100000
open Go Go.RowKit

/-- What an operation reads. -/
def reads : Op → Option (List Operand)
  | .move x => some [x]
  | .assign x => some [x]
  | .pick c x y => some [c, x, y]
  | .load _ x => some [x]
  | .binOp _ _ x y _ => some [x, y]
  | .unOp _ _ x => some [x]
  | .convert _ _ x => some [x]
  | .fieldAddr _ x _ => some [x]
  | .indexAddr _ x i => some [x, i]
  | .index _ x i => some [x, i]
  | .extract x _ => some [x]
  | .lookup _ x y _ => some [x, y]
  | .call ⟨.value f, args, _⟩ => some (f :: args.toList)
  | .call ⟨.builtin _, args, _⟩ => some args.toList
  | _ => none

theorem map_same {ρ ρ' : Operand → Value} (xs : Array Operand) (h : ∀ x ∈ xs.toList, ρ x = ρ' x) : xs.map ρ = xs.map ρ' :=
  Array.map_congr_left fun x hx => h x (by simpa using hx)

theorem execOp_same {ρ ρ' : Operand → Value} {o : Oper} {xs : List Operand} (h : reads o.op = some xs) (hx : ∀ x ∈ xs, ρ x = ρ' x) : execOp ρ o = execOp ρ' o := by
  obtain ⟨dst, op, type, pos, after, guard⟩ := o
  cases op
  case call c =>
    obtain ⟨callee, args, types⟩ := c
    cases callee
    case value f =>
      simp only [reads, Option.some.injEq] at h
      subst h
      simp only [execOp, resolve, map_same args (fun x hm => hx x (List.mem_cons_of_mem _ hm)), hx f List.mem_cons_self]
    case builtin b =>
      simp only [reads, Option.some.injEq] at h
      subst h
      simp only [execOp, resolve, map_same args hx]
    case invoke => cases h
  all_goals first
    | cases h; done
    | (simp only [reads, Option.some.injEq] at h
       subst h
       simp only [List.mem_cons, List.not_mem_nil, or_false, forall_eq_or_imp, forall_eq] at hx
       simp only [execOp, hx])

def waits (o : Oper) (j : Nat) : Bool := o.after.any fun e => e.on == j && Region.binds .any e

/-- Whatever an operation reads was there ahead of the region, or is written by one that it waits for. -/
def covered (ds : List Tmp) (l : List Oper) : Bool := l.all fun o =>
  (match o.guard with | none => true | some (j, _) => waits o j) &&
  (match reads o.op with
   | none => false
   | some xs => xs.all fun
     | .tmp p => (List.range ds.length).all fun j => decide (ds[j]? ≠ some p) || waits o j
     | _ => true)

theorem lay_size (a : Act) : ∀ (ds : List Tmp) (k : Nat) (u : Nat → Value), (lay a ds k u).tmps.size = a.tmps.size
  | [], _, _ => rfl
  | _ :: ds, k, u => by rw [lay, Act.put]; simp [lay_size a ds (k + 1) u]

theorem lay_get (a : Act) (p : Tmp) : ∀ (ds : List Tmp) (k : Nat) (u u' : Nat → Value), (∀ j, ds[j]? = some p → u (k + j) = u' (k + j)) → (lay a ds k u).tmps[p]? = (lay a ds k u').tmps[p]?
  | [], _, _, _, _ => rfl
  | d :: ds, k, u, u', h => by
    have ih := lay_get a p ds (k + 1) u u' (fun j hj => by
      have := h (j + 1) (by simpa using hj)
      rwa [show k + (j + 1) = k + 1 + j by omega] at this)
    rw [lay, lay, Act.put, Act.put]
    by_cases hd : d = p
    · subst hd
      have := h 0 (by simp)
      rw [Nat.add_zero] at this
      simp only [Array.getElem?_setIfInBounds, if_true, this, lay_size]
    · simp only [Array.getElem?_setIfInBounds, hd, if_false, ih]

theorem lay_eval {a : Act} {p : Tmp} {ds : List Tmp} {u u' : Nat → Value} (h : ∀ j, ds[j]? = some p → u j = u' j) : (lay a ds 0 u).eval (.tmp p) = (lay a ds 0 u').eval (.tmp p) := by
  have := lay_get a p ds 0 u u' (fun j hj => by rw [Nat.zero_add]; exact h j hj)
  simp only [Act.eval, Array.getD_eq_getD_getElem?, this]

/-- One operation's outcome: the value v, the world grown. -/
def Yields (P : Program) (v : Value) (w : World) : Result Next → Prop
  | .ok (.value v') w' => v' = v ∧ Below w.heap.size w w'
  | .ok (.enter f args) w' => w' = w ∧ Calls P f args w fun e w'' => e = .returned v ∧ Below w.heap.size w w''
  | _ => False

theorem Yields.wp {P : Program} {o : Oper} {a : Act} {w : World} {v : Value} {K : Act → World → Prop} {Q : Exit → Act → World → Prop} (h : Yields P v w ((execOp a.eval o).run P w))
    (hK : ∀ w', Below w.heap.size w w' → K (a.put o.dst v) w') : Oper.wp P o a w K Q := by
  unfold Oper.wp
  generalize (execOp a.eval o).run P w = r at h
  match r, h with
  | .ok (.value v') w', h => obtain ⟨rfl, hb⟩ := h; exact hK _ hb
  | .ok (.enter f args) w', h =>
    obtain ⟨rfl, hc⟩ := h
    refine hc.mono ?_
    rintro e w'' ⟨rfl, hb⟩
    exact hK _ hb

/-- One operation, over the values of all. -/
def OkAt (P : Program) (ops : Array Oper) (E : Act) (w0 : World) (v : Value) (o : Oper) : Prop :=
  (Region.wanted o (yielded ops E.tmps) = true ∧ ∀ w, Below w0.heap.size w0 w → Yields P v w ((execOp E.eval o).run P w)) ∨ (Region.wanted o (yielded ops E.tmps) = false ∧ v = undef)

theorem Each.mono {p q : Nat → Oper → Prop} : ∀ {l : List Oper} {k : Nat}, (∀ i o, l[i]? = some o → p (k + i) o → q (k + i) o) → Each p k l → Each q k l
  | [], _, _, _ => trivial
  | o :: os, k, h, hp => ⟨h 0 o (by simp) hp.1, Each.mono (fun i o' ho hp' => by
      have := h (i + 1) o' (by simpa using ho)
      rw [show k + (i + 1) = k + 1 + i by omega] at this
      exact this hp') hp.2⟩

/-- The region, from its operations' values. -/
theorem region_vals {P : Program} {l : List Oper} {Q : Exit → Act → World → Prop} {id : Nat} {a : Act} {w : World} (ds : List Tmp) (vs : List Value) (E : Act) (hm : P.follows .mixedOrders = true)
    (he : early .any l.toArray = true) (hd : l.map (·.dst) = ds.map some) (hn : ds.Nodup) (hc : covered ds l = true) (hE : lay a ds 0 (vs.getD · undef) = E)
    (hop : Each (fun i o => OkAt P l.toArray E w (vs.getD i undef) o) 0 l)
    (hend : ∀ w', Below w.heap.size w w' → Q .normal E w') : (Code.region id l.toArray true).wp P Q a w := by
  subst hE
  have hlen : ds.length = l.length := by have := congrArg List.length hd; simpa using this.symm
  refine region_parts ds (fun i v _ => v = vs.getD i undef) hm he hd hn (fun _ _ _ _ _ h => h) (Each.mono ?_ hop) ?_
  · intro i o ho hok u w1 hb hdep K hK
    rw [Nat.zero_add] at hok hK
    have hcov := List.all_eq_true.1 hc o (List.mem_of_getElem? ho)
    rw [Bool.and_eq_true] at hcov
    obtain ⟨hg, hr⟩ := hcov
    have hdep' : ∀ j, waits o j = true → u j = vs.getD j undef := fun j hj => hdep j hj
    have hw : Region.wanted o (yielded l.toArray (lay a ds 0 u).tmps) = Region.wanted o (yielded l.toArray (lay a ds 0 (vs.getD · undef)).tmps) := by
      unfold Region.wanted
      cases hgd : o.guard with
      | none => rfl
      | some jw =>
        obtain ⟨j, want⟩ := jw
        rw [hgd] at hg
        simp only at hg ⊢
        congr 1
        unfold yielded
        cases hj : l.toArray[j]? with
        | none => rfl
        | some oj =>
          simp only [Option.bind_some]
          rw [List.getElem?_toArray] at hj
          have hdj : (ds.map some)[j]? = some oj.dst := by rw [← hd, List.getElem?_map, hj]; rfl
          rw [List.getElem?_map] at hdj
          cases hdd : ds[j]? with
          | none => rw [hdd] at hdj; cases hdj
          | some d =>
            rw [hdd] at hdj
            simp only [Option.map_some, Option.some.injEq] at hdj
            rw [← hdj]
            simp only [Option.bind_some]
            rw [lay_get a d ds 0 u (vs.getD · undef) (fun j' hj' => by
              rw [Nat.zero_add]
              have : j' = j := by
                have h1 := List.getElem?_eq_some_iff.1 hj'
                have h2 := List.getElem?_eq_some_iff.1 hdd
                obtain ⟨l1, e1⟩ := h1
                obtain ⟨l2, e2⟩ := h2
                have hp := List.pairwise_iff_getElem.1 hn
                rcases Nat.lt_trichotomy j' j with h | h | h
                · exact absurd (e1.trans e2.symm) (hp _ _ l1 l2 h)
                · exact h
                · exact absurd (e2.trans e1.symm) (hp _ _ l2 l1 h)
              rw [this]; exact hdep' j hg)]
    rw [hw]
    rcases hok with ⟨h1, h2⟩ | ⟨h1, h2⟩
    · rw [if_pos h1]
      cases hrd : reads o.op with
      | none => rw [hrd] at hr; cases hr
      | some xs =>
        rw [hrd] at hr
        simp only [] at hr
        have hsame : execOp (lay a ds 0 u).eval o = execOp (lay a ds 0 (vs.getD · undef)).eval o := execOp_same hrd (fun x hx => by
          have hx' := List.all_eq_true.1 hr x hx
          cases x with
          | tmp p =>
            refine lay_eval (fun j hj => hdep' j ?_)
            have hjl : j < ds.length := (List.getElem?_eq_some_iff.1 hj).1
            have := List.all_eq_true.1 hx' j (List.mem_range.2 hjl)
            simpa [hj] using this
          | _ => rfl)
        refine Yields.wp (v := vs.getD i undef) ?_ (fun w' hb' => hK.out _ _ rfl hb')
        rw [hsame]
        exact h2 w1 hb
    · rw [if_neg (by rw [h1]; decide)]
      exact hK.out _ _ h2.symm (Below.refl _ _)
  · intro u w' hb hu
    have : lay a ds 0 u = lay a ds 0 (vs.getD · undef) := by
      have hall : ∀ (ds : List Tmp) (k : Nat), k + ds.length ≤ l.length → lay a ds k u = lay a ds k (vs.getD · undef) := by
        intro ds
        induction ds with
        | nil => intro k _; rfl
        | cons d ds ih =>
          intro k hk
          simp only [List.length_cons] at hk
          rw [lay, lay, ih (k + 1) (by omega), hu k (by omega)]
      exact hall ds 0 (by omega)
    rw [this]
    exact hend w' hb

theorem enters {P : Program} {f : FuncId} {fn : Func} (hf : P.funcs[f]? = some fn) (hname : (fn.name == "runtime.NumGoroutine") = false) (hb : fn.body.isNone = false) (as9 : Array Value) (w : World) : (callFunc f as9).run P w = .ok (.enter f as9) w := by
  have h1 : ¬ fn.name = "runtime.NumGoroutine" := by simpa using hname
  have h2 : ¬ fn.body = none := by intro e; rw [e] at hb; cases hb
  simp [callFunc, hf, h1, h2]

section
variable {P : Program} {E : Act} {w : World} {o : Oper}
theorem yields_move {x : Operand} (ho : o.op = .move x) {v : Value} (hv : E.eval x = v) : Yields P v w ((execOp E.eval o).run P w) := by
  unfold execOp; simp only [ho, Sem.run_pure, hv]; exact ⟨rfl, Below.refl _ _⟩
theorem yields_assign {x : Operand} (ho : o.op = .assign x) {v : Value} (hv : E.eval x = v) : Yields P v w ((execOp E.eval o).run P w) := by
  unfold execOp; simp only [ho, Sem.run_pure, hv]; exact ⟨rfl, Below.refl _ _⟩
theorem yields_pick {c x y : Operand} (ho : o.op = .pick c x y) {b : Bool} (hb : E.eval c = .bool b) {v : Value} (hv : (if b then E.eval x else E.eval y) = v) : Yields P v w ((execOp E.eval o).run P w) := by
  unfold execOp; simp only [ho, hb, asBool, Sem.run_bind, Sem.run_pure, Result.andThen_ok, hv]; exact ⟨rfl, Below.refl _ _⟩
theorem yields_bin {op : BinOp} {t r : TypeId} {x y : Operand} (ho : o.op = .binOp op t x y r) {vx vy v : Value} (hx : E.eval x = vx) (hy : E.eval y = vy) (hg : (eqGuard op t x y vx vy).run P w = .ok () w) (hv : (binOp op t vx vy).run P w = .ok v w) :
    Yields P v w ((execOp E.eval o).run P w) := by
  unfold execOp; simp only [ho, hx, hy, Sem.run_bind, hg, hv, Result.andThen_ok, Sem.run_pure]; exact ⟨rfl, Below.refl _ _⟩
theorem yields_field {t : TypeId} {x : Operand} {f : Nat} (ho : o.op = .fieldAddr t x f) {vx v : Value} (hx : E.eval x = vx) (hv : (Instr.fieldAt t vx f).run P w = .ok v w) : Yields P v w ((execOp E.eval o).run P w) := by
  unfold execOp; simp only [ho, hx, Sem.run_bind, hv, Result.andThen_ok, Sem.run_pure]; exact ⟨rfl, Below.refl _ _⟩
theorem yields_indexAddr {t : TypeId} {x y : Operand} (ho : o.op = .indexAddr t x y) {vx vy v : Value} (hx : E.eval x = vx) (hy : E.eval y = vy) (hv : (Instr.indexAt t vx vy).run P w = .ok v w) : Yields P v w ((execOp E.eval o).run P w) := by
  unfold execOp; simp only [ho, hx, hy, Sem.run_bind, hv, Result.andThen_ok, Sem.run_pure]; exact ⟨rfl, Below.refl _ _⟩
theorem yields_load {t : TypeId} {x : Operand} (ho : o.op = .load t x) {ad : Addr} {v : Value} (hx : E.eval x = .pointer (some ad)) (hv : (loadVar t ad).run P w = .ok v w) : Yields P v w ((execOp E.eval o).run P w) := by
  unfold execOp; simp only [ho, hx, Instr.loadAt, Instr.sureAddr, Sem.run_bind, Sem.run_pure, hv, Result.andThen_ok]; exact ⟨rfl, Below.refl _ _⟩
theorem yields_call {f : FuncId} {xs : List Operand} {ts : Array TypeId} {vs : List Value} {v : Value} (ho : o.op = .call ⟨.value (.func f), xs.toArray, ts⟩) (ha : xs.map E.eval = vs) (hr : (callFunc f vs.toArray).run P w = .ok (.enter f vs.toArray) w)
    (hc : Calls P f vs.toArray w fun e w' => e = .returned v ∧ Below w.heap.size w w') : Yields P v w ((execOp E.eval o).run P w) := by
  have ha' : xs.toArray.map E.eval = vs.toArray := by rw [List.map_toArray, ha]
  have h : (execOp E.eval o).run P w = .ok (.enter f vs.toArray) w := by
    unfold execOp
    simp only [ho, resolve, Act.eval, Deferred.ofValue, Sem.run_bind, Sem.run_pure, Result.andThen_ok, invoke, Array.append_empty, Array.empty_append]
    rw [show xs.toArray.map (fun x => E.eval x) = vs.toArray from ha']
    exact hr
  rw [h]; exact ⟨rfl, hc⟩
end

end Go.Proofs.YtmlfekbmbnfkjabGreatDoor

/-
  Laws for single operations: a vector or a dot is read, two are compared.
-/
namespace Go.Proofs.YtmlfekbmbnfkjabGreatDoor
set_option maxRecDepth 100000
open Go.RowKit

theorem load_dot_run {w : World} {g : Nat} {r n : Int} (h : LiesD w g r n) : (loadVar 32 ⟨g, 0, none⟩).run Tryz.prog w = .ok (.agg (dotc r n)) w :=
  run_loadVar_row w g 32 32 _ (0, 0) _ h Tryz.underlying32 rfl (sizeD r n)
theorem eqGuard_int (w : World) {op : BinOp} {x y : Operand} {a b : Int} : (eqGuard op 3 x y (.int .i64 a) (.int .i64 b)).run Tryz.prog w = .ok () w := by
  cases op <;> simp [eqGuard]
theorem load_int_run {w : World} {ad : Addr} {v : Value} (h : w.cell? ad = some v) : (loadVar 3 ad).run Tryz.prog w = .ok v w := by
  have h3 : Tryz.prog.underlying 3 = some (.int .i64) := by kernel_rfl
  simp [loadVar, isAgg, run_underlying h3, Sem.run_bind, h]
theorem field0_run (w : World) (g : Nat) : (Instr.fieldAt 32 (.pointer (some ⟨g, 0, none⟩)) 0).run Tryz.prog w = .ok (.pointer (some ⟨g, 0, none⟩)) w := by kernel_rfl
theorem field1_run (w : World) (g : Nat) : (Instr.fieldAt 32 (.pointer (some ⟨g, 0, none⟩)) 1).run Tryz.prog w = .ok (.pointer (some ⟨g, 1, none⟩)) w := by kernel_rfl
theorem leq_run (w : World) (a b : Int) : (binOp .leq 3 (.int .i64 a) (.int .i64 b)).run Tryz.prog w = .ok (.bool (decide (a ≤ b))) w := by rw [binOp_leq]; rfl
theorem neq_run (w : World) (a b : Int) : (binOp .neq 3 (.int .i64 a) (.int .i64 b)).run Tryz.prog w = .ok (.bool (a != b)) w := by rw [binOp_neq]; rfl
theorem enters_with (xs : Array Value) (w : World) : (callFunc 32 xs).run Tryz.prog w = .ok (.enter 32 xs) w := enters Tryz.func32 (by kernel_rfl) (by kernel_rfl) xs w
theorem enters_rightdot (xs : Array Value) (w : World) : (callFunc 52 xs).run Tryz.prog w = .ok (.enter 52 xs) w := enters Tryz.func52 (by kernel_rfl) (by kernel_rfl) xs w
/-- A whole vector, a dot is read by a guarded operation whose guard holds. -/
theorem load_vec_w {ops : Array Oper} {rest : List Oper} {o : Oper} {a : Act} {w : World} {Q : Exit → Act → World → Prop} {x : Operand} {g : Nat} {l : List Int} (hw : Region.wanted o (yielded ops a.tmps) = true) (ho : o.op = .load 41 x)
    (hx : a.eval x = .pointer (some ⟨g, 0, none⟩)) (hg : Lies w g l) (hl : l.length = 16)
    (h : wpList Tryz.prog ops Q rest (a.put o.dst (.agg (vals l))) w) : wpList Tryz.prog ops Q (o :: rest) a w :=
  wpList_step fun K hK => by
    rw [if_pos hw]
    exact wp_load_row 41 x ho g hx 41 _ (0, 0) _ hg Tryz.underlying41 rfl (size16 l hl) (hK _ _ h)
theorem load_dot_w {ops : Array Oper} {rest : List Oper} {o : Oper} {a : Act} {w : World} {Q : Exit → Act → World → Prop} {x : Operand} {g : Nat} {r n : Int} (hw : Region.wanted o (yielded ops a.tmps) = true) (ho : o.op = .load 32 x)
    (hx : a.eval x = .pointer (some ⟨g, 0, none⟩)) (hg : LiesD w g r n)
    (h : wpList Tryz.prog ops Q rest (a.put o.dst (.agg (dotc r n))) w) : wpList Tryz.prog ops Q (o :: rest) a w :=
  wpList_step fun K hK => by
    rw [if_pos hw]
    exact wp_load_row 32 x ho g hx 32 _ (0, 0) _ hg Tryz.underlying32 rfl (sizeD r n) (hK _ _ h)

theorem Below.drewN {B : Nat} {a w : World} (h : Below B a w) (n : Nat) : Below B a (w.drewN n) := ⟨h.os, h.tape, h.output, h.size, h.block⟩
theorem Lies.drewN {w : World} {g : Nat} {l : List Int} (h : Lies w g l) (n : Nat) : Lies (w.drewN n) g l := h
theorem LiesD.drewN {w : World} {g : Nat} {r m : Int} (h : LiesD w g r m) (n : Nat) : LiesD (w.drewN n) g r m := h

end Go.Proofs.YtmlfekbmbnfkjabGreatDoor

/-
  Events in memory: their cells, a whole event or a part of one read and laid; two compared.
-/
namespace Go.Proofs.YtmlfekbmbnfkjabGreatDoor
set_option maxRecDepth 100000
open Go.RowKit

/-- A text as the program has it. -/
def sb (s : List UInt8) : ByteArray := ⟨s.toArray⟩
theorem sb_size (s : List UInt8) : (sb s).size = s.length := by show s.toArray.size = _; simp
theorem sb_inj {s t : List UInt8} : sb s = sb t ↔ s = t := by
  constructor
  · intro h
    have := congrArg (fun b : ByteArray => b.data.toList) h
    simpa [sb] using this
  · rintro rfl; rfl
theorem data_sb (s : List UInt8) : (sb s).data.toList = s := rfl

/-- An operation's cells, an event's. -/
def opl (e : Ev) : List Value := [.int .i64 e.kind, .string (sb e.key), .string (sb e.field), .string (sb e.value), .int .i64 e.num, .int .i64 e.rr, .int .i64 e.rn]
def opc (e : Ev) : Array Value := (opl e).toArray
def evl (e : Ev) : List Value := [.int .i64 e.r, .int .i64 e.n, .int .i64 e.t] ++ (e.deps.map (Value.int .i64) ++ opl e)
def evc (e : Ev) : Array Value := (evl e).toArray
theorem evl_length (e : Ev) (h : e.deps.length = 16) : (evl e).length = 26 := by simp [evl, opl, h]
theorem evc_size (e : Ev) (h : e.deps.length = 16) : (evc e).size = 26 := by simp [evc, evl_length e h]
theorem evc_one (e : Ev) : (evc e).all (·.oneCell') = true := by
  simp [evc, evl, opl, Value.oneCell']
theorem opc_one (e : Ev) : (opc e).all (·.oneCell') = true := by
  simp [opc, opl, Value.oneCell']

/-- An event, an operation lies in a block. -/
def LiesE (w : World) (g : Nat) (e : Ev) : Prop := w.heap[g]? = some (.cells (evc e) 47 (0, 0))
def LiesO (w : World) (g : Nat) (e : Ev) : Prop := w.heap[g]? = some (.cells (opc e) 34 (0, 0))
theorem LiesE.below {B g : Nat} {w w' : World} {e : Ev} (h : LiesE w g e) (hb : Below B w w') (hg : g < B) : LiesE w' g e := by
  rw [LiesE, hb.block g hg]; exact h
theorem LiesO.below {B g : Nat} {w w' : World} {e : Ev} (h : LiesO w g e) (hb : Below B w w') (hg : g < B) : LiesO w' g e := by
  rw [LiesO, hb.block g hg]; exact h
theorem LiesE.lt {w : World} {g : Nat} {e : Ev} (h : LiesE w g e) : g < w.heap.size := by
  rw [LiesE] at h
  exact (Array.getElem?_eq_some_iff.1 h).1
theorem LiesO.lt {w : World} {g : Nat} {e : Ev} (h : LiesO w g e) : g < w.heap.size := by
  rw [LiesO] at h
  exact (Array.getElem?_eq_some_iff.1 h).1
theorem LiesE.alloc {w : World} {g : Nat} {e : Ev} (h : LiesE w g e) (o : Obj) : LiesE (w.alloc o) g e := by
  rw [LiesE, Below.heap_alloc w o g h.lt]; exact h
theorem LiesO.alloc {w : World} {g : Nat} {e : Ev} (h : LiesO w g e) (o : Obj) : LiesO (w.alloc o) g e := by
  rw [LiesO, Below.heap_alloc w o g h.lt]; exact h
theorem liesE_new (w : World) (e : Ev) : LiesE (w.alloc (.cells (evc e) 47)) w.heap.size e := heap_alloc_new w _
theorem liesO_new (w : World) (e : Ev) : LiesO (w.alloc (.cells (opc e) 34)) w.heap.size e := heap_alloc_new w _
theorem LiesE.frozen {w : World} {g k : Nat} {e : Ev} (h : LiesE w g e) : w.frozen? ⟨g, k, none⟩ = false := frozen_of_row w g k _ _ h
theorem LiesO.frozen {w : World} {g k : Nat} {e : Ev} (h : LiesO w g e) : w.frozen? ⟨g, k, none⟩ = false := frozen_of_row w g k _ _ h
theorem LiesE.row {w : World} {g : Nat} {e' : Ev} (h : LiesE w g e') (e : Ev) : LiesE (w.setRow g (evc e)) g e := setRow_heap w g _ _ _ _ h
theorem LiesO.row {w : World} {g : Nat} {e' : Ev} (h : LiesO w g e') (e : Ev) : LiesO (w.setRow g (opc e)) g e := setRow_heap w g _ _ _ _ h
theorem LiesE.rowOther {w : World} {g k : Nat} {e : Ev} (h : LiesE w k e) (cs : Array Value) (hk : k ≠ g) : LiesE (w.setRow g cs) k e := by
  rw [LiesE, setRow_other w g k cs hk]; exact h
theorem LiesO.rowOther {w : World} {g k : Nat} {e : Ev} (h : LiesO w k e) (cs : Array Value) (hk : k ≠ g) : LiesO (w.setRow g cs) k e := by
  rw [LiesO, setRow_other w g k cs hk]; exact h
theorem LiesE.drewN {w : World} {g : Nat} {e : Ev} (h : LiesE w g e) (n : Nat) : LiesE (w.drewN n) g e := h
theorem LiesO.drewN {w : World} {g : Nat} {e : Ev} (h : LiesO w g e) (n : Nat) : LiesO (w.drewN n) g e := h

/-- The parts of an event's cells. -/
theorem evc_get {e : Ev} (k : Nat) : (evc e)[k]? = (evl e)[k]? := by simp [evc]
theorem evl_hi {e : Ev} (h : e.deps.length = 16) (j : Nat) : (evl e)[19 + j]? = (opl e)[j]? := by
  rw [evl, List.getElem?_append_right (by simp; omega), List.getElem?_append_right (by simp [h]; omega)]
  simp [h]
  congr 1
  omega
theorem evl_mid {e : Ev} (h : e.deps.length = 16) (j : Nat) (hj : j < 16) : (evl e)[3 + j]? = some (.int .i64 (e.deps.getD j 0)) := by
  have hj' : j < e.deps.length := by omega
  rw [evl, List.getElem?_append_right (by simp), List.getElem?_append_left (by simp; omega)]
  simp [List.getD, hj']
theorem LiesE.c0 {w : World} {g : Nat} {e : Ev} (h : LiesE w g e) : w.cell? ⟨g, 0, none⟩ = some (.int .i64 e.r) := by rw [cell_of_row w g 0 _ _ _ h]; rfl
theorem LiesE.c1 {w : World} {g : Nat} {e : Ev} (h : LiesE w g e) : w.cell? ⟨g, 1, none⟩ = some (.int .i64 e.n) := by rw [cell_of_row w g 1 _ _ _ h]; rfl
theorem LiesE.c2 {w : World} {g : Nat} {e : Ev} (h : LiesE w g e) : w.cell? ⟨g, 2, none⟩ = some (.int .i64 e.t) := by rw [cell_of_row w g 2 _ _ _ h]; rfl
theorem LiesE.cd {w : World} {g : Nat} {e : Ev} (h : LiesE w g e) (hl : e.deps.length = 16) {j : Nat} (hj : j < 16) : w.cell? ⟨g, 3 + j, none⟩ = some (.int .i64 (e.deps.getD j 0)) := by
  rw [cell_of_row w g (3 + j) _ _ _ h, evc_get, evl_mid hl j hj]
theorem LiesE.co {w : World} {g : Nat} {e : Ev} (h : LiesE w g e) (hl : e.deps.length = 16) (j : Nat) : w.cell? ⟨g, 19 + j, none⟩ = (opl e)[j]? := by
  rw [cell_of_row w g (19 + j) _ _ _ h, evc_get, evl_hi hl]
theorem LiesE.c19 {w : World} {g : Nat} {e : Ev} (h : LiesE w g e) (hl : e.deps.length = 16) : w.cell? ⟨g, 19, none⟩ = some (.int .i64 e.kind) := h.co hl 0
theorem LiesO.co {w : World} {g : Nat} {e : Ev} (h : LiesO w g e) (j : Nat) : w.cell? ⟨g, j, none⟩ = (opl e)[j]? := by
  rw [cell_of_row w g j _ _ _ h, opc, List.getElem?_toArray]
theorem LiesO.c0 {w : World} {g : Nat} {e : Ev} (h : LiesO w g e) : w.cell? ⟨g, 0, none⟩ = some (.int .i64 e.kind) := h.co 0
theorem LiesO.c1 {w : World} {g : Nat} {e : Ev} (h : LiesO w g e) : w.cell? ⟨g, 1, none⟩ = some (.string (sb e.key)) := h.co 1
theorem LiesO.c2 {w : World} {g : Nat} {e : Ev} (h : LiesO w g e) : w.cell? ⟨g, 2, none⟩ = some (.string (sb e.field)) := h.co 2
theorem LiesO.c3 {w : World} {g : Nat} {e : Ev} (h : LiesO w g e) : w.cell? ⟨g, 3, none⟩ = some (.string (sb e.value)) := h.co 3
theorem LiesO.c4 {w : World} {g : Nat} {e : Ev} (h : LiesO w g e) : w.cell? ⟨g, 4, none⟩ = some (.int .i64 e.num) := h.co 4

/-- Parts, as ranges. -/
theorem LiesE.dot {w : World} {g : Nat} {e : Ev} (h : LiesE w g e) : w.rangeAt g 0 (dotc e.r e.n).toList := fun j v hv => by
  match j, hv with
  | 0, hv => obtain rfl := Option.some.inj hv; exact h.c0
  | 1, hv => obtain rfl := Option.some.inj hv; exact h.c1
theorem LiesE.deps {w : World} {g : Nat} {e : Ev} (h : LiesE w g e) (hl : e.deps.length = 16) : w.rangeAt g 3 (vals e.deps).toList := fun j v hv => by
  have hj : j < e.deps.length := by
    have := (List.getElem?_eq_some_iff.1 hv).1
    simpa [vals] using this
  rw [h.cd hl (by omega), ← hv]
  simp [vals, List.getD, hj]
theorem LiesE.op {w : World} {g : Nat} {e : Ev} (h : LiesE w g e) (hl : e.deps.length = 16) : w.rangeAt g 19 (opc e).toList := fun j v hv => by
  rw [h.co hl j]; exact hv
theorem LiesE.ref {w : World} {g : Nat} {e : Ev} (h : LiesE w g e) (hl : e.deps.length = 16) : w.rangeAt g 24 (dotc e.rr e.rn).toList := fun j v hv => by
  match j, hv with
  | 0, hv => obtain rfl := Option.some.inj hv; exact h.co hl 5
  | 1, hv => obtain rfl := Option.some.inj hv; exact h.co hl 6
theorem LiesO.ref {w : World} {g : Nat} {e : Ev} (h : LiesO w g e) : w.rangeAt g 5 (dotc e.rr e.rn).toList := fun j v hv => by
  match j, hv with
  | 0, hv => obtain rfl := Option.some.inj hv; exact h.co 5
  | 1, hv => obtain rfl := Option.some.inj hv; exact h.co 6

theorem size26 (e : Ev) (h : e.deps.length = 16) : (Tryz.prog.info? 47).map (·.size) = some (evc e).size := by
  rw [evc_size e h]
  kernel_rfl
theorem size7 (e : Ev) : (Tryz.prog.info? 34).map (·.size) = some (opc e).size := by
  show _ = some 7
  kernel_rfl

section
variable {ops : Array Oper} {rest : List Oper} {o : Oper} {a : Act} {w : World} {Q : Exit → Act → World → Prop} {x y : Operand} {g k : Nat} {e e' : Ev}
/-- A whole event, operation is read. -/
theorem load_ev (hw : Region.wanted o (yielded ops a.tmps) = true) (ho : o.op = .load 47 x) (hx : a.eval x = .pointer (some ⟨g, 0, none⟩)) (hg : LiesE w g e) (hl : e.deps.length = 16)
    (h : wpList Tryz.prog ops Q rest (a.put o.dst (.agg (evc e))) w) : wpList Tryz.prog ops Q (o :: rest) a w :=
  wpList_step fun K hK => by
    rw [if_pos hw]
    exact wp_load_row 47 x ho g hx 47 _ (0, 0) _ hg Tryz.underlying47 rfl (size26 e hl) (hK _ _ h)
theorem load_op (hw : Region.wanted o (yielded ops a.tmps) = true) (ho : o.op = .load 34 x) (hx : a.eval x = .pointer (some ⟨g, 0, none⟩)) (hg : LiesO w g e)
    (h : wpList Tryz.prog ops Q rest (a.put o.dst (.agg (opc e))) w) : wpList Tryz.prog ops Q (o :: rest) a w :=
  wpList_step fun K hK => by
    rw [if_pos hw]
    exact wp_load_row 34 x ho g hx 34 _ (0, 0) _ hg Tryz.underlying34 rfl (size7 e) (hK _ _ h)
/-- A part of one is read. -/
theorem load_op_at (hw : Region.wanted o (yielded ops a.tmps) = true) (ho : o.op = .load 34 x) (hx : a.eval x = .pointer (some ⟨g, k, none⟩)) (hg : w.rangeAt g k (opc e).toList)
    (h : wpList Tryz.prog ops Q rest (a.put o.dst (.agg (opc e))) w) : wpList Tryz.prog ops Q (o :: rest) a w :=
  wpList_step fun K hK => by
    rw [if_pos hw]
    exact wp_load_mid 34 x ho g k hx (opc e).toList _ hg Tryz.underlying34 rfl (size7 e) (hK _ _ h)
theorem load_vec_at {l : List Int} (hw : Region.wanted o (yielded ops a.tmps) = true) (ho : o.op = .load 41 x) (hx : a.eval x = .pointer (some ⟨g, k, none⟩)) (hg : w.rangeAt g k (vals l).toList) (hl : l.length = 16)
    (h : wpList Tryz.prog ops Q rest (a.put o.dst (.agg (vals l))) w) : wpList Tryz.prog ops Q (o :: rest) a w :=
  wpList_step fun K hK => by
    rw [if_pos hw]
    exact wp_load_mid 41 x ho g k hx (vals l).toList _ hg Tryz.underlying41 rfl (size16 l hl) (hK _ _ h)
theorem load_dot_at {r n : Int} (hw : Region.wanted o (yielded ops a.tmps) = true) (ho : o.op = .load 32 x) (hx : a.eval x = .pointer (some ⟨g, k, none⟩)) (hg : w.rangeAt g k (dotc r n).toList)
    (h : wpList Tryz.prog ops Q rest (a.put o.dst (.agg (dotc r n))) w) : wpList Tryz.prog ops Q (o :: rest) a w :=
  wpList_step fun K hK => by
    rw [if_pos hw]
    exact wp_load_mid 32 x ho g k hx (dotc r n).toList _ hg Tryz.underlying32 rfl (sizeD r n) (hK _ _ h)
/-- A whole event, operation is laid. -/
theorem store_ev (hgd : o.guard = none) (ho : o.op = .store 47 x y) (hx : a.eval x = .pointer (some ⟨g, 0, none⟩)) (hy : a.eval y = .agg (evc e)) (hg : LiesE w g e') (hl : e.deps.length = 16) (hl' : e'.deps.length = 16)
    (h : wpList Tryz.prog ops Q rest (a.put o.dst undef) (w.setRow g (evc e))) : wpList Tryz.prog ops Q (o :: rest) a w :=
  wpList_store_row hgd 47 x y ho g (evc e) hx hy 47 _ hg (size26 e hl) (by rw [evc_size e hl, evc_size e' hl']) (evc_one e) h
theorem store_op (hgd : o.guard = none) (ho : o.op = .store 34 x y) (hx : a.eval x = .pointer (some ⟨g, 0, none⟩)) (hy : a.eval y = .agg (opc e)) (hg : LiesO w g e')
    (h : wpList Tryz.prog ops Q rest (a.put o.dst undef) (w.setRow g (opc e))) : wpList Tryz.prog ops Q (o :: rest) a w :=
  wpList_store_row hgd 34 x y ho g (opc e) hx hy 34 _ hg (size7 e) rfl (opc_one e) h
end

/-- Later. -/
def laterE (b a : Ev) : Bool := if b.t ≠ a.t then decide (a.t < b.t) else if b.r ≠ a.r then decide (a.r < b.r) else decide (a.n < b.n)

theorem boxedEE (w : World) (b a : Ev) :
    LiesE ((w.alloc (.cells (evc b) 47)).alloc (.cells (evc a) 47)) w.heap.size b ∧
    LiesE ((w.alloc (.cells (evc b) 47)).alloc (.cells (evc a) 47)) (w.heap.size + 1) a ∧
    Below w.heap.size w ((w.alloc (.cells (evc b) 47)).alloc (.cells (evc a) 47)) := by
  refine ⟨(liesE_new w b).alloc _, ?_, ((Below.refl _ _).alloc (Nat.le_refl _) _).alloc (by simp) _⟩
  have := liesE_new (w.alloc (.cells (evc b) 47)) a
  simpa using this

set_option maxHeartbeats 400000 in
theorem later_any (b a : Ev) (w : World) : Calls Tryz.prog 169 #[.agg (evc b), .agg (evc a)] w fun e w' => e = .returned (.bool (laterE b a)) ∧ Below w.heap.size w w' := by
  obtain ⟨hb, ha, hB⟩ := boxedEE w b a
  have b0 := hb.c0
  have b1 := hb.c1
  have b2 := hb.c2
  have a0 := ha.c0
  have a1 := ha.c1
  have a2 := ha.c2
  clear ha hb
  have HB : Hid (Below w.heap.size w ((w.alloc (.cells (evc b) 47)).alloc (.cells (evc a) 47))) := hB
  clear hB
  unfold laterE
  go_enter Tryz.func169, Tryz.ntmps169
  go_wp2
  all_goals
    go_ret
    refine ⟨?_, HB.out⟩
    simp_all
end Go.Proofs.YtmlfekbmbnfkjabGreatDoor

/-
  What vec.isReplica, vec.rightDot and the reference's Dot come to: whether a number is a replica's, whether a dot can be.
-/
namespace Go.Proofs.YtmlfekbmbnfkjabGreatDoor
set_option maxRecDepth 100000
open Go.RowKit

def isrep (r : Int) : Bool := decide (0 ≤ r ∧ r < 16)
/-- Can a dot be? -/
def okdot (r n : Int) : Bool := decide (0 ≤ r ∧ r < 16 ∧ 1 ≤ n ∧ n ≤ 1048576)

set_option maxHeartbeats 400000 in
theorem isreplica_any (r : Int) (w : World) : Calls Tryz.prog 96 #[.int .i64 r] w fun e w' => e = .returned (.bool (isrep r)) ∧ w' = w := by
  by_cases h0 : 0 ≤ r
  · by_cases h1 : r < 16
    · go_enter Tryz.func96, Tryz.ntmps96
      go_wp2
      go_ret
      exact ⟨by rw [isrep, decide_eq_true ⟨h0, h1⟩]; rfl, rfl⟩
    · go_enter Tryz.func96, Tryz.ntmps96
      go_wp2
      go_ret
      exact ⟨by rw [isrep, decide_eq_false (by omega)]; rfl, rfl⟩
  · go_enter Tryz.func96, Tryz.ntmps96
    go_wp2
    go_ret
    exact ⟨by rw [isrep, decide_eq_false (by omega)]; rfl, rfl⟩

set_option maxHeartbeats 400000 in
theorem rightdot_any (r n : Int) (w : World) : Calls Tryz.prog 52 #[.agg (dotc r n)] w fun e w' => e = .returned (.bool (okdot r n)) ∧ Below w.heap.size w w' := by
  have hD := liesD_new w r n
  have c0 := hD.cell0
  have c1 := hD.cell1
  have hB : Hid (Below w.heap.size w (w.alloc (.cells (dotc r n) 32))) := (Below.refl _ _).alloc (Nat.le_refl _) _
  clear hD
  by_cases h0 : 0 ≤ r ∧ r < 16
  · have hr : isrep r = true := decide_eq_true h0
    by_cases h1 : 1 ≤ n
    · by_cases h2 : n ≤ 1048576
      · have Hk : Hid (okdot r n = true) := decide_eq_true ⟨h0.1, h0.2, h1, h2⟩
        go_enter Tryz.func52, Tryz.ntmps52
        go_wp2_with fail
        refine (isreplica_any r _).mono ?_
        rintro e w1 ⟨rfl, hw⟩
        obtain rfl := hw.symm
        rw [hr]
        go_wp2
        go_ret
        exact ⟨by rw [Hk.out]; first | rfl | (show Ending.returned (.bool (decide _)) = _; rw [decide_eq_false (by omega)]), hB.out⟩
      · have Hk : Hid (okdot r n = false) := decide_eq_false (fun h => h2 h.2.2.2)
        go_enter Tryz.func52, Tryz.ntmps52
        go_wp2_with fail
        refine (isreplica_any r _).mono ?_
        rintro e w1 ⟨rfl, hw⟩
        obtain rfl := hw.symm
        rw [hr]
        go_wp2
        go_ret
        exact ⟨by rw [Hk.out]; first | rfl | (show Ending.returned (.bool (decide _)) = _; rw [decide_eq_false (by omega)]), hB.out⟩
    · have Hk : Hid (okdot r n = false) := decide_eq_false (fun h => h1 h.2.2.1)
      go_enter Tryz.func52, Tryz.ntmps52
      go_wp2_with fail
      refine (isreplica_any r _).mono ?_
      rintro e w1 ⟨rfl, hw⟩
      obtain rfl := hw.symm
      rw [hr]
      go_wp2
      go_ret
      exact ⟨by rw [Hk.out]; first | rfl | (show Ending.returned (.bool (decide _)) = _; rw [decide_eq_false (by omega)]), hB.out⟩
  · have hr : isrep r = false := decide_eq_false h0
    have Hk : Hid (okdot r n = false) := decide_eq_false (fun h => h0 ⟨h.1, h.2.1⟩)
    go_enter Tryz.func52, Tryz.ntmps52
    go_wp2_with fail
    refine (isreplica_any r _).mono ?_
    rintro e w1 ⟨rfl, hw⟩
    obtain rfl := hw.symm
    rw [hr]
    go_wp2
    go_ret
    exact ⟨by rw [Hk.out]; first | rfl | (show Ending.returned (.bool (decide _)) = _; rw [decide_eq_false (by omega)]), hB.out⟩

end Go.Proofs.YtmlfekbmbnfkjabGreatDoor

