/-
  A plain region walked by running it over what is known of its slots: comparisons of numbers, and what else is hard, are told ahead and shown apart.
-/
import Derived.Test.YtagjgamigldjnaaGdr
namespace Go.Proofs.Ytagjgamigldjnaa
set_option maxRecDepth 100000
open Go.RowKit

/-- What is known of slots, the newest first. -/
def seeT : List (Nat × Value) → Nat → Option Value
  | [], _ => none
  | p :: K, t => cond (Nat.beq p.1 t) (some p.2) (seeT K t)
def seeO (K : List (Nat × Value)) : Operand → Option Value
  | .tmp t => seeT K t
  | .const v => some v
  | _ => none
/-- What is told ahead of an operation: a comparison's answer, a value. -/
inductive Tell where
  | b (t : Bool)
  | v (x : Value)
/-- What is left to be shown. -/
inductive Owe where
  | eq (m n : Int) (t : Bool)
  | ld (t : TypeId) (ad : Addr) (v : Value)
  | fa (t : TypeId) (p : Value) (k : Nat) (v : Value)
  | ix (t : TypeId) (p q v : Value)
  | bi (op : BinOp) (t : TypeId) (x y : Operand) (p q v : Value)
def pstep (K : List (Nat × Value)) : Op → List Tell → Option (Value × List Tell × List Owe)
  | .move x, ts => (seeO K x).map fun v => (v, ts, [])
  | .assign x, ts => (seeO K x).map fun v => (v, ts, [])
  | .pick c x y, ts =>
    match seeO K c with
    | some (.bool true) => (seeO K x).map fun v => (v, ts, [])
    | some (.bool false) => (seeO K y).map fun v => (v, ts, [])
    | _ => none
  | .unOp .not 4 x, ts =>
    match seeO K x with
    | some (.bool b) => some (.bool (!b), ts, [])
    | _ => none
  | .binOp .eql 3 x y 3, .b t :: ts =>
    match seeO K x, seeO K y with
    | some (.int .i64 m), some (.int .i64 n) => some (.bool t, ts, [.eq m n t])
    | _, _ => none
  | .load t x, .v v :: ts =>
    match seeO K x with
    | some (.pointer (some ad)) => some (v, ts, [.ld t ad v])
    | _ => none
  | .fieldAddr t x k, .v v :: ts => (seeO K x).map fun p => (v, ts, [.fa t p k v])
  | .indexAddr t x y, .v v :: ts =>
    match seeO K x, seeO K y with
    | some p, some q => some (v, ts, [.ix t p q v])
    | _, _ => none
  | .binOp op t x y _, .v v :: ts =>
    match seeO K x, seeO K y with
    | some p, some q => some (v, ts, [.bi op t x y p q v])
    | _, _ => none
  | _, _ => none
def pwant (ops : Array Oper) (K : List (Nat × Value)) (o : Oper) : Option Bool :=
  match o.guard with
  | none => some true
  | some (j, want) =>
    match (ops[j]?).bind (·.dst) with
    | none => none
    | some d =>
      match seeT K d with
      | some (.bool b) => some (b == want)
      | some (.tuple _) => some false
      | _ => none
def prun (n : Nat) (ops : Array Oper) : List Oper → List (Nat × Value) → List Tell → Option (List (Nat × Value) × List Tell × List Owe)
  | [], K, ts => some (K, ts, [])
  | o :: rest, K, ts =>
    match o.dst with
    | none => none
    | some d =>
      match Nat.blt d n, pwant ops K o with
      | true, some false => prun n ops rest ((d, undef) :: K) ts
      | true, some true =>
        match pstep K o.op ts with
        | none => none
        | some (v, ts', os) =>
          match prun n ops rest ((d, v) :: K) ts' with
          | none => none
          | some (K', ts'', os') => some (K', ts'', os ++ os')
      | _, _ => none

def Knows (a : Act) (K : List (Nat × Value)) : Prop := ∀ t v, seeT K t = some v → a.tmps[t]? = some v
theorem Knows.nil (a : Act) : Knows a [] := fun t v h => by cases h
theorem Knows.cons {a : Act} {K : List (Nat × Value)} (h : Knows a K) {d : Nat} {v : Value} (hd : a.tmps[d]? = some v) : Knows a ((d, v) :: K) := fun t u hu => by
  unfold seeT at hu
  by_cases e : d = t
  · subst e
    rw [show Nat.beq d d = true from Nat.beq_refl d] at hu
    cases hu
    exact hd
  · rw [show Nat.beq d t = false from by
      cases hb : Nat.beq d t
      · rfl
      · exact absurd (Nat.eq_of_beq_eq_true hb) e] at hu
    exact h t u hu
theorem Knows.put {a : Act} {K : List (Nat × Value)} (h : Knows a K) {d : Nat} (v : Value) (hd : d < a.tmps.size) : Knows (a.put (some d) v) ((d, v) :: K) := fun t u hu => by
  unfold seeT at hu
  simp only [Act.put]
  by_cases e : d = t
  · subst e
    rw [show Nat.beq d d = true from Nat.beq_refl d] at hu
    cases hu
    exact Array.getElem?_setIfInBounds_self_of_lt hd
  · rw [show Nat.beq d t = false from by
      cases hb : Nat.beq d t
      · rfl
      · exact absurd (Nat.eq_of_beq_eq_true hb) e] at hu
    rw [Array.getElem?_setIfInBounds_ne e]
    exact h t u hu
theorem Knows.eval {a : Act} {K : List (Nat × Value)} (h : Knows a K) {x : Operand} {v : Value} (hx : seeO K x = some v) : a.eval x = v := by
  cases x with
  | tmp t =>
    have := h t v hx
    simp only [Act.eval, Array.getD_eq_getD_getElem?, this, Option.getD_some]
  | const u => exact Option.some.inj hx
  | global g => cases hx
  | func f => cases hx
def Oks (w : World) : List Owe → Prop
  | [] => True
  | .eq m n t :: os => (m == n) = t ∧ Oks w os
  | .ld t ad v :: os => (loadVar t ad).run Try.prog w = .ok v w ∧ Oks w os
  | .fa t p k v :: os => (Instr.fieldAt t p k).run Try.prog w = .ok v w ∧ Oks w os
  | .ix t p q v :: os => (Instr.indexAt t p q).run Try.prog w = .ok v w ∧ Oks w os
  | .bi op t x y p q v :: os => ((eqGuard op t x y p q).run Try.prog w = .ok () w ∧ (binOp op t p q).run Try.prog w = .ok v w) ∧ Oks w os
theorem Oks.app {w : World} : ∀ {os os' : List Owe}, Oks w (os ++ os') → Oks w os ∧ Oks w os'
  | [], _, h => ⟨trivial, h⟩
  | .eq _ _ _ :: _, _, h => ⟨⟨h.1, (Oks.app h.2).1⟩, (Oks.app h.2).2⟩
  | .ld _ _ _ :: _, _, h => ⟨⟨h.1, (Oks.app h.2).1⟩, (Oks.app h.2).2⟩
  | .fa _ _ _ _ :: _, _, h => ⟨⟨h.1, (Oks.app h.2).1⟩, (Oks.app h.2).2⟩
  | .ix _ _ _ _ :: _, _, h => ⟨⟨h.1, (Oks.app h.2).1⟩, (Oks.app h.2).2⟩
  | .bi _ _ _ _ _ _ _ :: _, _, h => ⟨⟨h.1, (Oks.app h.2).1⟩, (Oks.app h.2).2⟩
section
variable {o : Oper} {a : Act} {w : World} {x y z : Operand} {m n : Int}
theorem exec_eqi {b : Bool} (ho : o.op = .binOp .eql 3 x y 3) (hx : a.eval x = .int .i64 m) (hy : a.eval y = .int .i64 n) (hb : (m == n) = b) : (execOp a.eval o).run Try.prog w = .ok (.value (.bool b)) w := by
  subst hb
  have h3 : Try.prog.underlying 3 = some (.int .i64) := by kernel_rfl
  unfold execOp
  simp only [ho, hx, hy]
  go_simp
theorem exec_notb {b : Bool} (ho : o.op = .unOp .not 4 x) (hx : a.eval x = .bool b) : (execOp a.eval o).run Try.prog w = .ok (.value (.bool (!b))) w := by
  unfold execOp
  simp only [ho, hx]
  simp [go_sem]
theorem exec_pickb {b : Bool} {v v' : Value} (ho : o.op = .pick x y z) (hx : a.eval x = .bool b) (hy : a.eval y = v) (hz : a.eval z = v') : (execOp a.eval o).run Try.prog w = .ok (.value (if b then v else v')) w := by
  unfold execOp
  simp only [ho, hx, hy, hz]
  cases b <;> rfl
theorem exec_fieldg {t : TypeId} {k : Nat} {p v : Value} (ho : o.op = .fieldAddr t x k) (hx : a.eval x = p) (hv : (Instr.fieldAt t p k).run Try.prog w = .ok v w) : (execOp a.eval o).run Try.prog w = .ok (.value v) w := by
  unfold execOp; simp only [ho, hx, Sem.run_bind, hv, Result.andThen_ok, Sem.run_pure]
theorem exec_bing {op : BinOp} {t r : TypeId} {vx vy v : Value} (ho : o.op = .binOp op t x y r) (hx : a.eval x = vx) (hy : a.eval y = vy) (hg : (eqGuard op t x y vx vy).run Try.prog w = .ok () w) (hv : (binOp op t vx vy).run Try.prog w = .ok v w) : (execOp a.eval o).run Try.prog w = .ok (.value v) w := by
  unfold execOp; simp only [ho, hx, hy, Sem.run_bind, hg, hv, Result.andThen_ok, Sem.run_pure]
end
theorem pstep_ok {K : List (Nat × Value)} {o : Oper} {ts ts' : List Tell} {v : Value} {os : List Owe} {a : Act} {w : World} (hK : Knows a K) (h : pstep K o.op ts = some (v, ts', os)) (hO : Oks w os) : (execOp a.eval o).run Try.prog w = .ok (.value v) w := by
  generalize hop : o.op = op at h
  unfold pstep at h
  split at h
  · simp only [Option.map_eq_some_iff, Prod.mk.injEq] at h
    obtain ⟨u, hu, rfl, -⟩ := h
    exact exec_move hop (hK.eval hu)
  · simp only [Option.map_eq_some_iff, Prod.mk.injEq] at h
    obtain ⟨u, hu, rfl, -⟩ := h
    exact exec_assign hop (hK.eval hu)
  · split at h
    · rename_i hc
      simp only [Option.map_eq_some_iff, Prod.mk.injEq] at h
      obtain ⟨u, hu, rfl, -⟩ := h
      exact exec_pickb hop (hK.eval hc) (hK.eval hu) rfl
    · rename_i hc
      simp only [Option.map_eq_some_iff, Prod.mk.injEq] at h
      obtain ⟨u, hu, rfl, -⟩ := h
      exact exec_pickb hop (hK.eval hc) rfl (hK.eval hu)
    · cases h
  · split at h
    · rename_i hc
      cases h
      exact exec_notb hop (hK.eval hc)
    · cases h
  · split at h
    · rename_i hx hy
      cases h
      exact exec_eqi hop (hK.eval hx) (hK.eval hy) hO.1
    · cases h
  · split at h
    · rename_i hx
      cases h
      exact exec_load hop (hK.eval hx) hO.1
    · cases h
  · simp only [Option.map_eq_some_iff, Prod.mk.injEq] at h
    obtain ⟨u, hu, rfl, -, rfl⟩ := h
    exact exec_fieldg hop (hK.eval hu) hO.1
  · split at h
    · rename_i hx hy
      cases h
      exact exec_index hop (hK.eval hx) (hK.eval hy) hO.1
    · cases h
  · split at h
    · rename_i hx hy
      cases h
      exact exec_bing hop (hK.eval hx) (hK.eval hy) hO.1.1 hO.1.2
    · cases h
  · cases h
theorem pwant_ok {ops : Array Oper} {K : List (Nat × Value)} {o : Oper} {t : Bool} {a : Act} (hK : Knows a K) (h : pwant ops K o = some t) : Region.wanted o (yielded ops a.tmps) = t := by
  unfold pwant at h
  unfold Region.wanted
  split at h
  · rename_i hg
    cases h
    simp only [hg]
  · rename_i j want hg
    simp only [hg]
    split at h
    · cases h
    · rename_i d hd
      split at h
      · rename_i b hb
        cases h
        have := hK d _ hb
        unfold yielded
        rw [hd, Option.bind_some, this]
        cases b <;> cases want <;> rfl
      · rename_i vs hb
        cases h
        have := hK d _ hb
        unfold yielded
        rw [hd, Option.bind_some, this]
        cases want <;> rfl
      · cases h
theorem wpl_run {n : Nat} {ops : Array Oper} {Q : Exit → Act → World → Prop} {w : World} {rest : List Oper} : ∀ (l : List Oper) (K : List (Nat × Value)) (ts : List Tell) (a : Act) {K' : List (Nat × Value)} {ts' : List Tell} {os : List Owe},
    a.tmps.size = n → Knows a K → prun n ops l K ts = some (K', ts', os) → Oks w os →
    (∀ a', a'.tmps.size = n → a'.defers = a.defers → Knows a' K' → wpList Try.prog ops Q rest a' w) → wpList Try.prog ops Q (l ++ rest) a w := by
  intro l
  induction l with
  | nil =>
    intro K ts a K' ts' os hn hK h hO hQ
    cases h
    exact hQ a hn rfl hK
  | cons o l ih =>
    intro K ts a K' ts' os hn hK h hO hQ
    unfold prun at h
    split at h
    · cases h
    · rename_i d hd
      split at h
      · rename_i hlt hwant
        have hdn : d < a.tmps.size := by rw [hn]; exact Nat.lt_of_lt_of_eq (Nat.le_of_ble_eq_true hlt) rfl
        refine wpList_skip (pwant_ok hK hwant) ?_
        rw [hd]
        exact ih _ _ _ (by simp [Act.put, hn]) (hK.put undef hdn) h hO (fun a' h1 h2 h3 => hQ a' h1 (by rw [h2]; rfl) h3)
      · rename_i hlt hwant
        have hdn : d < a.tmps.size := by rw [hn]; exact Nat.lt_of_lt_of_eq (Nat.le_of_ble_eq_true hlt) rfl
        split at h
        · cases h
        · rename_i v ts1 os1 hs
          split at h
          · cases h
          · rename_i K2 ts2 os2 hr
            cases h
            obtain ⟨hO1, hO2⟩ := hO.app
            refine wpList_step (fun L hL => ?_)
            rw [if_pos (pwant_ok hK hwant)]
            unfold Oper.wp
            rw [pstep_ok hK hs hO1, Oper.upon_value]
            refine hL _ _ ?_
            rw [hd]
            exact ih _ _ _ (by simp [Act.put, hn]) (hK.put v hdn) hr hO2 (fun a' h1 h2 h3 => hQ a' h1 (by rw [h2]; rfl) h3)
      · cases h
/-- The whole list; what is in the slots 'ss' behind it is read off. -/
theorem wpl_out {n : Nat} {ops : Array Oper} {Q : Exit → Act → World → Prop} {w : World} {l : List Oper} {a : Act} (K : List (Nat × Value)) (ts : List Tell) (ss : List Nat) (vs : List Value) (os : List Owe) (hn : a.tmps.size = n) (hK : Knows a K)
    (h : (prun n ops l K ts).map (fun r => (ss.map (seeT r.1), r.2.2)) = some (vs.map some, os)) (hO : Oks w os)
    (hQ : ∀ a', a'.tmps.size = n → a'.defers = a.defers → (∀ (i t : Nat) (v : Value), ss[i]? = some t → vs[i]? = some v → a'.tmps[t]? = some v) → Q .normal a' w) : wpList Try.prog ops Q l a w := by
  rw [Option.map_eq_some_iff] at h
  obtain ⟨⟨K', ts', os'⟩, hp, he⟩ := h
  simp only [Prod.mk.injEq] at he
  obtain ⟨hs, rfl⟩ := he
  have := wpl_run (Q := Q) (rest := []) l K ts a hn hK hp hO (fun a' h1 h2 h3 => hQ a' h1 h2 (fun i t v hi hv => by
    refine h3 t v ?_
    have e := congrArg (fun L : List (Option Value) => L[i]?) hs
    simp only [List.getElem?_map, hi, hv, Option.map_some] at e
    exact Option.some.inj e))
  rwa [List.append_nil] at this
end Go.Proofs.Ytagjgamigldjnaa
