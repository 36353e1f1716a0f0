/-
  A map in memory, whatever its keys: what it tells, read and written.
-/
import Derived.Test.YtagjgamigldjnaaKpu
import Derived.Test.YtagjgamigldjnaaLmp
namespace Go.Proofs.Ytagjgamigldjnaa
set_option maxRecDepth 100000
open Go.RowKit
open Go.ChangeMaps (setBlock heap_setBlock_same heap_setBlock_other)
open Go.MapKept (Stamped stamped_iff stamped_push stamped_modify stamped_erase stamped_empty)

/-- What is asked of a key's type. -/
structure KeyOk {κ : Type} (kty : TypeId) (kv : κ → Value) : Prop where
  inj : ∀ x y, kv x = kv y → x = y
  check : ∀ (w : World) (em : Bool) (x : κ), (Instr.checkKey em 10000 kty (kv x)).run Try.prog w = .ok () w
  stays : ∀ (w : World) (x : κ), (Instr.keyThatStays (kv x) (kv x)).run Try.prog w = .ok (kv x) w
  find : ∀ (x : κ) (es : List MapEntry), (∀ e ∈ es, ∃ y, e.key = kv y) →
    ((∀ w, (Instr.findKey kty (kv x) es).run Try.prog w = .ok none w) ∧ ∀ e ∈ es, e.key ≠ kv x) ∨
    ∃ j e, es[j]? = some e ∧ e.key = kv x ∧ ∀ w, (Instr.findKey kty (kv x) es).run Try.prog w = .ok (some (j, e.val)) w
section
variable {κ : Type} [DecidableEq κ] {kty : TypeId} {kv : κ → Value}
/-- A block is a map that tells this. -/
def Mp (kv : κ → Value) (w : World) (b : Nat) (F : κ → Option Value) : Prop :=
  ∃ (es : Array MapEntry) (clock : Nat), w.heap[b]? = some (.map es clock) ∧ Stamped es clock ∧ (∀ e ∈ es.toList, ∃ y, e.key = kv y) ∧ ∀ x v, F x = some v ↔ ∃ e ∈ es.toList, e.key = kv x ∧ e.val = v
omit [DecidableEq κ] in
theorem Mp.lt {w : World} {b : Nat} {F : κ → Option Value} (h : Mp kv w b F) : b < w.heap.size := by
  obtain ⟨es, clock, hb, -⟩ := h
  exact (Array.getElem?_eq_some_iff.1 hb).1
omit [DecidableEq κ] in
theorem Mp.kept {w w' : World} {b : Nat} {F : κ → Option Value} (h : Mp kv w b F) (hk : w'.heap[b]? = w.heap[b]?) : Mp kv w' b F := by
  obtain ⟨es, clock, hb, rest⟩ := h
  exact ⟨es, clock, hk.trans hb, rest⟩
omit [DecidableEq κ] in
theorem Mp.below {w w' : World} {b B : Nat} {F : κ → Option Value} (h : Mp kv w b F) (hb : Below B w w') (hB : b < B) : Mp kv w' b F := h.kept (hb.block b hB)
omit [DecidableEq κ] in
theorem mp_new (kv : κ → Value) (w : World) : Mp kv (w.alloc (.map #[] 0)) w.heap.size (fun _ => none) :=
  ⟨#[], 0, MapKept.heap_alloc w _ |>.1, stamped_empty 0, by simp, fun x v => by simp⟩
omit [DecidableEq κ] in
theorem Mp.look (K : KeyOk kty kv) {t e : TypeId} (ht : Try.prog.underlying t = some (.map kty e)) {z : Value} (hz : ∀ w, (zeroValue e).run Try.prog w = .ok z w) {w : World} {b : Nat} {F : κ → Option Value} (h : Mp kv w b F) (x : κ) :
    (Instr.lookup t (.map (some b)) (kv x) false).run Try.prog w = .ok ((F x).getD z) w := by
  obtain ⟨es, clock, hb, hst, hks, hF⟩ := h
  rcases K.find x es.toList hks with ⟨h1, h2⟩ | ⟨j, e0, h1, h2, h3⟩
  · have hn : F x = none := by
      cases hh : F x with
      | none => rfl
      | some v => obtain ⟨e1, he, hk, -⟩ := (hF x v).1 hh; exact absurd hk (h2 e1 he)
    simp [Instr.lookup, Sem.run_bind, run_underlying ht, MapKept.run_getObj_map hb, K.check, h1, hn, hz]
  · have hn : F x = some e0.val := (hF x _).2 ⟨e0, List.mem_of_getElem? h1, h2, rfl⟩
    simp [Instr.lookup, Sem.run_bind, run_underlying ht, MapKept.run_getObj_map hb, K.check, h3, hn]
omit [DecidableEq κ] in
theorem Mp.lookOk (K : KeyOk kty kv) {t e : TypeId} (ht : Try.prog.underlying t = some (.map kty e)) {z : Value} (hz : ∀ w, (zeroValue e).run Try.prog w = .ok z w) {w : World} {b : Nat} {F : κ → Option Value} (h : Mp kv w b F) (x : κ) :
    (Instr.lookup t (.map (some b)) (kv x) true).run Try.prog w = .ok (.tuple #[(F x).getD z, .bool (F x).isSome]) w := by
  obtain ⟨es, clock, hb, hst, hks, hF⟩ := h
  rcases K.find x es.toList hks with ⟨h1, h2⟩ | ⟨j, e0, h1, h2, h3⟩
  · have hn : F x = none := by
      cases hh : F x with
      | none => rfl
      | some v => obtain ⟨e1, he, hk, -⟩ := (hF x v).1 hh; exact absurd hk (h2 e1 he)
    simp [Instr.lookup, Sem.run_bind, run_underlying ht, MapKept.run_getObj_map hb, K.check, h1, hn, hz]
  · have hn : F x = some e0.val := (hF x _).2 ⟨e0, List.mem_of_getElem? h1, h2, rfl⟩
    simp [Instr.lookup, Sem.run_bind, run_underlying ht, MapKept.run_getObj_map hb, K.check, h3, hn]
/-- 'm[x] = v'. -/
theorem Mp.update (K : KeyOk kty kv) {t e : TypeId} (ht : Try.prog.underlying t = some (.map kty e)) {w : World} {b : Nat} {F : κ → Option Value} (h : Mp kv w b F) (x : κ) (v : Value) :
    ∃ o : Obj, ∀ W : World, W.heap[b]? = w.heap[b]? → (Instr.mapUpdate t (.map (some b)) (kv x) v).run Try.prog W = .ok () (setBlock W b o) ∧ Mp kv (setBlock W b o) b (fun y => if x = y then some v else F y) := by
  obtain ⟨es, clock, hb0, hst, hks, hF⟩ := h
  rw [hb0]
  rcases K.find x es.toList hks with ⟨h2, hno⟩ | ⟨j, e0, h1, hk0, h3⟩
  · refine ⟨.map (es.push ⟨kv x, v, clock⟩) (clock + 1), fun w hb => ⟨?_, _, _, heap_setBlock_same hb _, stamped_push hst hno, ?_, fun y u => ?_⟩⟩
    · simp [Instr.mapUpdate, Sem.run_bind, run_underlying ht, MapKept.run_getObj_map hb, K.check, h2, MapKept.run_setObj_map _ hb, setBlock]
    · intro e1 he
      rw [Array.toList_push] at he
      rcases List.mem_append.1 he with he | he
      · exact hks e1 he
      · rw [List.mem_singleton.1 he]; exact ⟨x, rfl⟩
    · show (if x = y then some v else F y) = some u ↔ _
      by_cases hxy : x = y
      · subst hxy
        rw [if_pos rfl]
        constructor
        · intro h5
          exact ⟨⟨kv x, v, clock⟩, by simp, rfl, by simpa using h5⟩
        · rintro ⟨e1, he, hk, hv⟩
          rw [Array.toList_push] at he
          rcases List.mem_append.1 he with he | he
          · exact absurd hk (hno e1 he)
          · rw [List.mem_singleton.1 he] at hv; rw [← hv]
      · rw [if_neg hxy, hF y u]
        constructor
        · rintro ⟨e1, he, hk, hv⟩; exact ⟨e1, by rw [Array.toList_push]; exact List.mem_append.2 (.inl he), hk, hv⟩
        · rintro ⟨e1, he, hk, hv⟩
          rw [Array.toList_push] at he
          rcases List.mem_append.1 he with he | he
          · exact ⟨e1, he, hk, hv⟩
          · rw [List.mem_singleton.1 he] at hk; exact absurd (K.inj _ _ hk) hxy
  · have hj? : es[j]? = some e0 := by simpa using h1
    have hjs : j < es.toList.length := (List.getElem?_eq_some_iff.1 h1).1
    have hun := ((stamped_iff es clock).1 hst).2.2
    have only : ∀ (i : Nat) (e1 : MapEntry), es.toList[i]? = some e1 → e1.key = kv x → i = j := fun i e1 hi hk => by
      obtain ⟨hi1, hi2⟩ := List.getElem?_eq_some_iff.1 hi
      obtain ⟨hj1, hj2⟩ := List.getElem?_eq_some_iff.1 h1
      rcases Nat.lt_trichotomy i j with h5 | h5 | h5
      · exact absurd (by rw [hi2, hj2, hk, hk0]) (List.pairwise_iff_getElem.1 hun i j hi1 hj1 h5)
      · exact h5
      · exact absurd (by rw [hi2, hj2, hk, hk0]) (List.pairwise_iff_getElem.1 hun j i hj1 hi1 h5)
    have hget : ∀ i, (es.modify j fun e => { e with key := kv x, val := v }).toList[i]? = if i = j then some { e0 with key := kv x, val := v } else es.toList[i]? := fun i => by
      rw [Array.toList_modify, List.getElem?_modify]
      by_cases hi : i = j
      · subst hi; simp [h1]
      · have h9 : ¬ j = i := fun e => hi e.symm
        simp [h9, hi]
    refine ⟨.map (es.modify j fun e => { e with key := kv x, val := v }) clock, fun w hb => ⟨?_, _, _, heap_setBlock_same hb _, stamped_modify hst _ _ (fun _ _ => rfl) (fun e _ he => ?_), ?_, fun y u => ?_⟩⟩
    · simp [Instr.mapUpdate, Sem.run_bind, run_underlying ht, MapKept.run_getObj_map hb, K.check, h3, MapKept.run_setObj_map _ hb, setBlock, hj?, hk0, K.stays]
    · rw [hj?] at he
      cases he
      exact hk0.symm
    · intro e1 he
      obtain ⟨i, hi⟩ := List.mem_iff_getElem?.1 he
      rw [hget] at hi
      split at hi
      · cases hi; exact ⟨x, rfl⟩
      · exact hks e1 (List.mem_of_getElem? hi)
    · show (if x = y then some v else F y) = some u ↔ _
      by_cases hxy : x = y
      · subst hxy
        rw [if_pos rfl]
        constructor
        · intro h5
          exact ⟨{ e0 with key := kv x, val := v }, List.mem_of_getElem? ((hget j).trans (if_pos rfl)), rfl, by simpa using h5⟩
        · rintro ⟨e1, he, hk, hv⟩
          obtain ⟨i, hi⟩ := List.mem_iff_getElem?.1 he
          rw [hget] at hi
          split at hi
          · cases hi; rw [← hv]
          · rename_i hij
            exact absurd (only i e1 hi hk) hij
      · rw [if_neg hxy, hF y u]
        constructor
        · rintro ⟨e1, he, hk, hv⟩
          obtain ⟨i, hi⟩ := List.mem_iff_getElem?.1 he
          refine ⟨e1, List.mem_of_getElem? (i := i) ?_, hk, hv⟩
          rw [hget, if_neg (fun e => ?_)]
          · exact hi
          · subst e
            rw [h1] at hi
            cases hi
            exact hxy (K.inj _ _ (hk0.symm.trans hk))
        · rintro ⟨e1, he, hk, hv⟩
          obtain ⟨i, hi⟩ := List.mem_iff_getElem?.1 he
          rw [hget] at hi
          split at hi
          · cases hi; exact absurd (K.inj _ _ hk) hxy
          · exact ⟨e1, List.mem_of_getElem? hi, hk, hv⟩
end

/-! ### dots as keys, numbers as keys -/
abbrev Dt := Int × Int
def dv (d : Dt) : Value := .agg (dotc d.1 d.2)
def iv (n : Int) : Value := .int .i64 n
theorem dv_inj (x y : Dt) (h : dv x = dv y) : x = y := by
  cases x; cases y
  simp [dv, dotc] at h
  simp [h]
theorem equal_dv (w : World) (x y : Dt) : (Op.equal 26 (dv x) (dv y)).run Try.prog w = .ok (decide (x = y)) w := by
  have := run_equalIn_dot w 9998 x.1 x.2 y.1 y.2
  rw [show (decide (x = y)) = decide (x.1 = y.1 ∧ x.2 = y.2) by rw [decide_eq_decide]; exact Prod.ext_iff]
  exact this
theorem find_dv (x : Dt) : ∀ (es : List MapEntry) (k : Nat), (∀ e ∈ es, ∃ y, e.key = dv y) →
    ((∀ w, (Instr.findAsking 26 (dv x) es k).run Try.prog w = .ok none w) ∧ ∀ e ∈ es, e.key ≠ dv x) ∨
    ∃ j e, es[j]? = some e ∧ e.key = dv x ∧ ∀ w, (Instr.findAsking 26 (dv x) es k).run Try.prog w = .ok (some (k + j, e.val)) w
  | [], k, _ => .inl ⟨fun w => by simp [Instr.findAsking], by simp⟩
  | e :: es, k, h => by
    obtain ⟨y, hy⟩ := h e (by simp)
    by_cases hd : x = y
    · subst hd
      exact .inr ⟨0, e, rfl, hy, fun w => by simp [Instr.findAsking, Sem.run_bind, hy, equal_dv]⟩
    · have hs : ∀ w, (Instr.findAsking 26 (dv x) (e :: es) k).run Try.prog w = (Instr.findAsking 26 (dv x) es (k + 1)).run Try.prog w := fun w => by
        simp [Instr.findAsking, Sem.run_bind, hy, equal_dv, hd]
      rcases find_dv x es (k + 1) (fun e1 he => h e1 (by simp [he])) with ⟨a, c⟩ | ⟨j, e1, a, b, c⟩
      · refine .inl ⟨fun w => (hs w).trans (a w), fun e1 he => ?_⟩
        rcases List.mem_cons.1 he with rfl | he
        · rw [hy]; exact fun e2 => hd (dv_inj _ _ e2).symm
        · exact c e1 he
      · exact .inr ⟨j + 1, e1, by simpa using a, b, fun w => by rw [hs w, c w, show k + 1 + j = k + (j + 1) by omega]⟩
theorem keyDot : KeyOk 26 dv where
  inj := dv_inj
  check w em x := by kernel_rfl
  stays w x := by simp [Instr.keyThatStays, Instr.sameBits, dv, dotc]
  find x es h := by
    cases es with
    | nil => exact .inl ⟨fun w => by simp [Instr.findKey, run_underlying Try.underlying26, Instr.findNow], by simp⟩
    | cons e es =>
      obtain ⟨y, hy⟩ := h e (by simp)
      have hs : ∀ w, (Instr.findKey 26 (dv x) (e :: es)).run Try.prog w = (Instr.findAsking 26 (dv x) (e :: es) 0).run Try.prog w := fun w => by
        simp [Instr.findKey, Sem.run_bind, run_underlying Try.underlying26, Instr.findNow, Instr.sameNow]
      rcases find_dv x (e :: es) 0 h with ⟨a, c⟩ | ⟨j, e1, a, b, c⟩
      · exact .inl ⟨fun w => (hs w).trans (a w), c⟩
      · exact .inr ⟨j, e1, a, b, fun w => by rw [hs w, c w, Nat.zero_add]⟩
theorem find_iv (x : Int) : ∀ (es : List MapEntry) (k : Nat), (∀ e ∈ es, ∃ y, e.key = iv y) →
    (Instr.findNow (.int .i64) (iv x) es k = some none ∧ ∀ e ∈ es, e.key ≠ iv x) ∨
    ∃ j e, es[j]? = some e ∧ e.key = iv x ∧ Instr.findNow (.int .i64) (iv x) es k = some (some (k + j, e.val))
  | [], k, _ => .inl ⟨rfl, by simp⟩
  | e :: es, k, h => by
    obtain ⟨y, hy⟩ := h e (by simp)
    by_cases hd : x = y
    · subst hd
      exact .inr ⟨0, e, rfl, hy, by simp [Instr.findNow, hy, iv, Instr.sameNow]⟩
    · have hs : Instr.findNow (.int .i64) (iv x) (e :: es) k = Instr.findNow (.int .i64) (iv x) es (k + 1) := by
        have hb : (x == y) = false := beq_false_of_ne hd
        simp [Instr.findNow, hy, iv, Instr.sameNow, hb]
      rcases find_iv x es (k + 1) (fun e1 he => h e1 (by simp [he])) with ⟨a, c⟩ | ⟨j, e1, a, b, c⟩
      · refine .inl ⟨hs.trans a, fun e1 he => ?_⟩
        rcases List.mem_cons.1 he with rfl | he
        · rw [hy]; exact fun e2 => hd (by simpa [iv] using e2.symm)
        · exact c e1 he
      · exact .inr ⟨j + 1, e1, by simpa using a, b, by rw [hs, c, show k + 1 + j = k + (j + 1) by omega]⟩
theorem keyInt : KeyOk 3 iv where
  inj x y h := by simpa [iv] using h
  check w em x := by kernel_rfl
  stays w x := by simp [Instr.keyThatStays, Instr.sameBits, iv]
  find x es h := by
    rcases find_iv x es 0 h with ⟨a, c⟩ | ⟨j, e1, a, b, c⟩
    · exact .inl ⟨fun w => by simp [Instr.findKey, Sem.run_bind, run_underlying Try.underlying3, a], c⟩
    · exact .inr ⟨j, e1, a, b, fun w => by simp [Instr.findKey, Sem.run_bind, run_underlying Try.underlying3, c]⟩
end Go.Proofs.Ytagjgamigldjnaa
