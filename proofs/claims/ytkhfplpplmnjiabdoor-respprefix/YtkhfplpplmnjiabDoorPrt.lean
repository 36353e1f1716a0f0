/-
  A region that draws its order, operation by operation and not order by order: each operation is shown once, from what those that it waits for have left. Worlds only grow on the way.
-/
import Derived.Deep.RegionHeld3
import Derived.Below
namespace Go.Proofs.YtkhfplpplmnjiabDoor
set_option maxRecDepth 100000
open Go Go.RowKit

def upd (u : Nat → Value) (i : Nat) (v : Value) : Nat → Value := fun j => if j = i then v else u j

/-- A state with u k in the k-th of the slots. -/
def lay (a : Act) : List Tmp → Nat → (Nat → Value) → Act
  | [], _, _ => a
  | d :: ds, k, u => (lay a ds (k + 1) u).put (some d) (u k)

theorem lay_congr (a : Act) : ∀ (ds : List Tmp) (k : Nat) (u u' : Nat → Value), (∀ j, k ≤ j → u j = u' j) → lay a ds k u = lay a ds k u'
  | [], _, _, _, _ => rfl
  | d :: ds, k, u, u', h => by rw [lay, lay, lay_congr a ds (k + 1) u u' (fun j hj => h j (by omega)), h k (Nat.le_refl _)]

theorem put_again (a : Act) (d : Tmp) (v v' : Value) : (a.put (some d) v).put (some d) v' = a.put (some d) v' := by
  simp [Act.put]

theorem lay_put (a : Act) : ∀ (ds : List Tmp) (k i : Nat) (d : Tmp) (u : Nat → Value) (v : Value), ds.Nodup → ds[i]? = some d → (lay a ds k u).put (some d) v = lay a ds k (upd u (k + i) v)
  | [], _, _, _, _, _, _, h => by simp at h
  | e :: ds, k, 0, d, u, v, _, h => by
    simp only [List.getElem?_cons_zero, Option.some.injEq] at h
    subst h
    rw [lay, lay, put_again, Nat.add_zero, lay_congr a ds (k + 1) u (upd u k v) (fun j hj => by simp [upd]; omega)]
    simp [upd]
  | e :: ds, k, i + 1, d, u, v, hn, h => by
    rw [List.getElem?_cons_succ] at h
    have hne : e ≠ d := fun he => (List.nodup_cons.1 hn).1 (he ▸ List.mem_of_getElem? h)
    rw [lay, lay, Act.put_comm _ _ _ (fun x hx => by cases hx; simpa using hne.symm), lay_put a ds (k + 1) i d u v (List.nodup_cons.1 hn).2 h]
    rw [show k + 1 + i = k + (i + 1) by omega]
    congr 1
    simp [upd]

theorem lay_self (a : Act) : ∀ (ds : List Tmp) (k : Nat), ∃ u0 : Nat → Value, lay a ds k u0 = a
  | [], _ => ⟨fun _ => undef, rfl⟩
  | d :: ds, k => by
    obtain ⟨u0, h⟩ := lay_self a ds (k + 1)
    refine ⟨upd u0 k (a.tmps.getD d undef), ?_⟩
    rw [lay, lay_congr a ds (k + 1) (upd u0 k (a.tmps.getD d undef)) u0 (fun j hj => by simp [upd]; omega), h]
    have e : upd u0 k (a.tmps.getD d undef) k = a.tmps.getD d undef := by simp [upd]
    rw [e, Act.put]
    obtain ⟨t, f⟩ := a
    simp only [Act.mk.injEq, and_true]
    by_cases hd : d < t.size
    · rw [Array.setIfInBounds, dif_pos hd]
      simp [Array.getD, hd]
    · rw [Array.setIfInBounds, dif_neg hd]

/-- Each waits for earlier ones alone. -/
def early (md : Region.Mode) (ops : Array Oper) : Bool := (List.range ops.size).all fun i => (ops[i]?.map (fun o => o.after.all fun e => !Region.binds md e || decide (e.on < i))).getD true

theorem early_spec {md : Region.Mode} {ops : Array Oper} (h : early md ops = true) {i : Nat} {o : Oper} (ho : ops[i]? = some o) : ∀ e ∈ o.after, Region.binds md e = true → e.on < i := by
  intro e he hb
  have hi : i < ops.size := (Array.getElem?_eq_some_iff.1 ho).1
  have h1 := List.all_eq_true.1 h i (List.mem_range.2 hi)
  rw [ho] at h1
  simp only [Option.map_some, Option.getD_some] at h1
  have h2 := Array.all_eq_true_iff_forall_mem.1 h1 e he
  simpa [hb] using h2

section
variable {P : Program} {ops : Array Oper} {Q : Exit → Act → World → Prop} {md : Region.Mode}

/-- One operation, whatever came ahead of it: what those that it waits for have left is there. -/
def OpOk (P : Program) (md : Region.Mode) (ops : Array Oper) (Q : Exit → Act → World → Prop) (A : (Nat → Value) → Act) (R : Nat → Value → World → Prop) (w0 : World) (i : Nat) (o : Oper) : Prop :=
  ∀ (u : Nat → Value) (w : World), Below w0.heap.size w0 w → (∀ j, o.after.any (fun e => e.on == j && Region.binds md e) = true → R j (u j) w) →
    ∀ K : Act → World → Prop, Shut (∀ v w', R i v w' → Below w.heap.size w w' → K ((A u).put o.dst v) w') →
      if Region.wanted o (yielded ops (A u).tmps) = true then Oper.wp P o (A u) w K Q else K ((A u).put o.dst undef) w

theorem all_listed (he : early md ops = true) {listed : Array Bool} (hs : listed.size = ops.size) (hr : Region.ready md ops listed = []) : ∀ i, i < ops.size → listed.getD i false = true := by
  intro i
  induction i using Nat.strongRecOn with
  | ind i ih =>
    intro hi
    apply Classical.byContradiction
    intro hf
    have h0 : listed.getD i true = false := by
      have hi' : i < listed.size := by omega
      simp only [Array.getD, hi', dif_pos] at hf ⊢
      simpa using hf
    have ho : ops[i]? = some ops[i] := Array.getElem?_eq_getElem hi
    have hm : i ∈ Region.ready md ops listed := mem_ready.2 ⟨h0, ops[i], ho, fun e hem hb => by
      have hlt := early_spec he ho e hem hb
      exact ih e.on hlt (by omega)⟩
    rw [hr] at hm
    cases hm

theorem wpAny_parts (he : early md ops = true) (A : (Nat → Value) → Act) (R : Nat → Value → World → Prop) (w0 : World)
    (hput : ∀ i o u v, ops[i]? = some o → (A u).put o.dst v = A (upd u i v))
    (hR : ∀ i v w w', Below w.heap.size w w' → R i v w → R i v w')
    (hop : ∀ i o, ops[i]? = some o → OpOk P md ops Q A R w0 i o)
    (hend : ∀ u w, Below w0.heap.size w0 w → (∀ i, i < ops.size → R i (u i) w) → Q .normal (A u) w) :
    ∀ (fuel : Nat) (listed : Array Bool) (u : Nat → Value) (w : World), listed.size = ops.size → listed.toList.count false = fuel → Below w0.heap.size w0 w →
      (∀ i, listed.getD i false = true → R i (u i) w) → wpAny P md ops Q fuel listed (A u) w := by
  intro fuel
  induction fuel with
  | zero =>
    intro listed u w hs hc hb hl
    have hall : ∀ i, i < ops.size → listed.getD i false = true := by
      intro i hi
      have hi' : i < listed.size := by omega
      have hnot : false ∉ listed.toList := List.count_eq_zero.1 hc
      simp only [Array.getD, hi', dif_pos]
      rcases Bool.eq_false_or_eq_true listed[i] with h | h
      · exact h
      · exact absurd (by rw [← h]; simp) hnot
    refine ⟨?_, hend u w hb (fun i hi => hl i (hall i hi))⟩
    rw [List.eq_nil_iff_forall_not_mem]
    intro i hi
    obtain ⟨h0, o, ho, _⟩ := mem_ready.1 hi
    have hlt : i < ops.size := (Array.getElem?_eq_some_iff.1 ho).1
    have := hall i hlt
    have hi' : i < listed.size := by omega
    simp only [Array.getD, hi', dif_pos] at this h0
    rw [this] at h0
    cases h0
  | succ fuel ih =>
    intro listed u w hs hc hb hl
    refine ⟨fun hr => hend u w hb (fun i hi => hl i (all_listed he hs hr i hi)), fun i hi => ?_⟩
    obtain ⟨h0, o, ho, hall⟩ := mem_ready.1 hi
    have hlt : i < ops.size := (Array.getElem?_eq_some_iff.1 ho).1
    have hi' : i < listed.size := by omega
    have h0' : listed[i] = false := by simpa [Array.getD, hi'] using h0
    refine wpOp_step ho fun K' hK => ?_
    refine hop i o ho u w hb (fun j hj => ?_) K' (fun v w' hv hbw => ?_)
    · obtain ⟨e, hem, heq⟩ := Array.any_eq_true'.1 hj
      simp only [Bool.and_eq_true, beq_iff_eq] at heq
      rw [← heq.1]
      exact hl e.on (hall e hem heq.2)
    · rw [hput i o u v ho]
      refine hK _ _ (ih _ _ _ (by simpa using hs) ?_ (hb.trans (hbw.mono hb.size)) ?_)
      · rw [Array.toList_setIfInBounds, List.count_set (by simpa using hi')]
        simp [h0', hc]
      · intro j hj
        by_cases hji : j = i
        · subst hji
          simpa [upd] using hv
        · have : listed.getD j false = true := by
            simp only [Array.getD, Array.size_setIfInBounds] at hj ⊢
            split at hj
            · rename_i hjs
              rw [dif_pos hjs]
              have := Array.getElem_setIfInBounds_ne (xs := listed) (i := i) (j := j) (a := true) hjs (Ne.symm hji)
              rw [← hj]; exact this.symm
            · cases hj
          have e : upd u i v j = u j := by simp [upd, hji]
          rw [e]
          exact hR j _ w w' hbw (hl j this)
end

def Each (p : Nat → Oper → Prop) : Nat → List Oper → Prop
  | _, [] => True
  | k, o :: os => p k o ∧ Each p (k + 1) os
theorem Each.get {p : Nat → Oper → Prop} : ∀ {l : List Oper} {k i : Nat} {o : Oper}, Each p k l → l[i]? = some o → p (k + i) o
  | [], _, _, _, _, h => by simp at h
  | _ :: _, _, 0, _, h, ho => by
    simp only [List.getElem?_cons_zero, Option.some.injEq] at ho
    subst ho; exact h.1
  | _ :: _, k, i + 1, _, h, ho => by
    rw [List.getElem?_cons_succ] at ho
    have := Each.get h.2 ho
    rwa [show k + 1 + i = k + (i + 1) by omega] at this

/-- The region, from its operations. -/
theorem region_parts {P : Program} {l : List Oper} {Q : Exit → Act → World → Prop} {id : Nat} {a : Act} {w : World} (ds : List Tmp) (R : Nat → Value → World → Prop) (hm : P.follows .mixedOrders = true)
    (he : early .any l.toArray = true) (hd : l.map (·.dst) = ds.map some) (hn : ds.Nodup)
    (hR : ∀ i v w w', Below w.heap.size w w' → R i v w → R i v w')
    (hop : Each (OpOk P .any l.toArray Q (lay a ds 0) R w) 0 l)
    (hend : ∀ u w', Below w.heap.size w w' → (∀ i, i < l.length → R i (u i) w') → Q .normal (lay a ds 0 u) w') : (Code.region id l.toArray true).wp P Q a w := by
  refine wp_region_any hm ?_
  obtain ⟨u0, h0⟩ := lay_self a ds 0
  have hput : ∀ i o u v, l.toArray[i]? = some o → (lay a ds 0 u).put o.dst v = lay a ds 0 (upd u i v) := by
    intro i o u v ho
    rw [List.getElem?_toArray] at ho
    have h1 : (ds.map some)[i]? = some o.dst := by rw [← hd, List.getElem?_map, ho]; rfl
    rw [List.getElem?_map] at h1
    cases hdi : ds[i]? with
    | none => rw [hdi] at h1; cases h1
    | some d =>
      rw [hdi] at h1
      simp only [Option.map_some, Option.some.injEq] at h1
      rw [← h1, lay_put a ds 0 i d u v hn hdi, Nat.zero_add]
  have h := wpAny_parts (P := P) (Q := Q) (md := .any) he (lay a ds 0) R w hput hR (fun i o ho => by
    rw [List.getElem?_toArray] at ho
    have := hop.get ho
    rwa [Nat.zero_add] at this) (fun u w' hb hi => hend u w' hb (fun i hl => hi i (by simpa using hl)))
    l.toArray.size (Array.replicate l.toArray.size false) u0 w.drew (by simp) (by simp) ⟨rfl, rfl, rfl, Nat.le_refl _, fun _ _ => rfl⟩ (fun i hi => by
      simp only [Array.getD, Array.size_replicate] at hi
      split at hi
      · simp at hi
      · cases hi)
  rw [h0] at h
  exact h
end Go.Proofs.YtkhfplpplmnjiabDoor
