/-
  A map from aims to vectors in memory.
-/
import Derived.Test.YtagjgamigldjnaaGe
import Derived.Maps.RangeRun
import Derived.OwnWalk
import Derived.Test.YtagjgamigldjnaaGd
namespace Go.Proofs.Ytagjgamigldjnaa
set_option maxRecDepth 100000
open Go.RowKit
open Go.ChangeMaps (setBlock heap_setBlock_same heap_setBlock_other)
open Go.MapKept (Stamped stamped_iff stamped_push stamped_modify stamped_erase stamped_empty)

abbrev AV := Aim × List Int
def kvA (p : AV) : Value × Value := (.agg (amc p.1), .agg (vals p.2))
def kvE (e : MapEntry) : Value × Value := (e.key, e.val)
/-- What is there. -/
def getA : List AV → Aim → List Int
  | [], _ => zeros
  | p :: L, x => if p.1 = x then p.2 else getA L x
theorem getA_push {L : List AV} {x : Aim} {v : List Int} (h : ∀ p ∈ L, p.1 ≠ x) (y : Aim) : getA (L ++ [(x, v)]) y = if x = y then v else getA L y := by
  induction L with
  | nil => rfl
  | cons p L ih =>
    have ih := ih (fun q hq => h q (by simp [hq]))
    have hp := h p (by simp)
    rw [List.cons_append, getA, getA]
    by_cases h1 : p.1 = y
    · have : ¬ x = y := fun e => hp (h1.trans e.symm)
      rw [if_pos h1, if_neg this, if_pos h1]
    · rw [if_neg h1, if_neg h1, ih]
theorem getA_set : ∀ {L : List AV} {x : Aim} {v v0 : List Int} {j : Nat}, L[j]? = some (x, v0) → (∀ i, i < j → ∀ p, L[i]? = some p → p.1 ≠ x) → ∀ y, getA (L.set j (x, v)) y = if x = y then v else getA L y
  | [], _, _, _, _, h, _, _ => by simp at h
  | p :: L, x, v, v0, 0, h, _, y => by
    have hp : p = (x, v0) := by simpa using h
    subst hp
    rw [List.set_cons_zero, getA, getA]
    by_cases h1 : x = y
    · rw [if_pos h1, if_pos h1]
    · rw [if_neg h1, if_neg h1, if_neg h1]
  | p :: L, x, v, v0, j + 1, h, hn, y => by
    have hp := hn 0 (by omega) p rfl
    rw [List.set_cons_succ, getA, getA, getA_set (by simpa using h) (fun i hi q hq => hn (i + 1) (by omega) q (by simpa using hq)) y]
    by_cases h1 : p.1 = y
    · have : ¬ x = y := fun e => hp (h1.trans e.symm)
      rw [if_pos h1, if_neg this, if_pos h1]
    · rw [if_neg h1, if_neg h1]
theorem amc_inj {x y : Aim} (h : Value.agg (amc x) = .agg (amc y)) : x = y := by
  cases x; cases y
  simp [amc, aml, sb_inj] at h
  simp [h]

/-- A block is a map that tells this. -/
def Mpa (w : World) (b : Nat) (F : Aim → List Int) : Prop :=
  ∃ (es : Array MapEntry) (clock : Nat) (L : List AV), w.heap[b]? = some (.map es clock) ∧ Stamped es clock ∧ es.toList.map kvE = L.map kvA ∧ (∀ x, F x = getA L x) ∧ (∀ p ∈ L, p.2.length = 16)
theorem Mpa.lt {w : World} {b : Nat} {F : Aim → List Int} (h : Mpa w b F) : b < w.heap.size := by
  obtain ⟨es, clock, L, hb, -⟩ := h
  exact (Array.getElem?_eq_some_iff.1 hb).1
theorem Mpa.kept {w w' : World} {b : Nat} {F : Aim → List Int} (h : Mpa w b F) (hk : w'.heap[b]? = w.heap[b]?) : Mpa w' b F := by
  obtain ⟨es, clock, L, hb, rest⟩ := h
  exact ⟨es, clock, L, hk.trans hb, rest⟩
theorem Mpa.below {w w' : World} {b B : Nat} {F : Aim → List Int} (h : Mpa w b F) (hb : Below B w w') (hB : b < B) : Mpa w' b F := h.kept (hb.block b hB)
theorem getA_len {L : List AV} (h : ∀ p ∈ L, p.2.length = 16) (x : Aim) : (getA L x).length = 16 := by
  induction L with
  | nil => rfl
  | cons p L ih =>
    rw [getA]
    split
    · exact h p (by simp)
    · exact ih (fun q hq => h q (by simp [hq]))
theorem Mpa.len {w : World} {b : Nat} {F : Aim → List Int} (h : Mpa w b F) (x : Aim) : (F x).length = 16 := by
  obtain ⟨es, clock, L, -, -, -, hF, hl⟩ := h
  rw [hF]; exact getA_len hl x
theorem mpa_new (w : World) : Mpa (w.alloc (.map #[] 0)) w.heap.size (fun _ => zeros) :=
  ⟨#[], 0, [], MapKept.heap_alloc w _ |>.1, stamped_empty 0, rfl, fun _ => rfl, by simp⟩

theorem run_equalIn_aim (w : World) (d : Nat) (x y : Aim) : (Op.equalIn (d + 3) 78 (.agg (amc x)) (.agg (amc y))).run Try.prog w = .ok (decide (x = y)) w := by
  rw [run_equalIn_struct w (d + 2) 78 _ _ (by kernel_rfl) (by kernel_rfl)]
  have hm : (Try.prog.fieldsOf 78).toList.map (fun f => (f.name, f.type, f.offset)) = [("key", 9, 0), ("kind", 3, 1), ("field", 9, 2), ("dot", 26, 3)] := by kernel_rfl
  have h : (Op.eqFields (d + 2) (amc x) (amc y) (Try.prog.fieldsOf 78).toList).run Try.prog w = .ok ([decide (x.key = y.key), decide (x.kind = y.kind), decide (x.field = y.field), decide (x.r = y.r ∧ x.n = y.n)].all id) w := run_eqFields hm ⟨by decide, ⟨_, _, part_str w rfl, part_str w rfl, equal_str w _ _ _⟩, by decide, ⟨_, _, part_int w rfl, part_int w rfl, equal_int w _ _ _⟩, by decide, ⟨_, _, part_str w rfl, part_str w rfl, equal_str w _ _ _⟩,
    by decide, ⟨_, _, part_dot w (ds := dotc x.r x.n) rfl, part_dot w (ds := dotc y.r y.n) rfl, run_equalIn_dot w _ _ _ _ _⟩, trivial⟩
  rw [h]
  congr 1
  cases x; cases y
  rw [Bool.eq_iff_iff]
  simp
theorem run_equal_aim (w : World) (x y : Aim) : (Op.equal 78 (.agg (amc x)) (.agg (amc y))).run Try.prog w = .ok (decide (x = y)) w := run_equalIn_aim w 9997 x y
theorem run_checkKey_aim (w : World) (em : Bool) (x : Aim) : (Instr.checkKey em 10000 78 (.agg (amc x))).run Try.prog w = .ok () w := by kernel_rfl
theorem bytes_self (s : ByteArray) : (s == s) = true := by
  show (s.data == s.data) = true
  simp
theorem run_keyStays_aim (w : World) (x : Aim) : (Instr.keyThatStays (.agg (amc x)) (.agg (amc x))).run Try.prog w = .ok (.agg (amc x)) w := by
  simp [Instr.keyThatStays, Instr.sameBits, amc, aml, bytes_self]

theorem run_findAsking_aim (x : Aim) : ∀ (es : List MapEntry) (L : List AV) (k : Nat), es.map kvE = L.map kvA →
    ((∀ p ∈ L, p.1 ≠ x) ∧ ∀ w, (Instr.findAsking 78 (.agg (amc x)) es k).run Try.prog w = .ok none w) ∨
    ∃ j v, L[j]? = some (x, v) ∧ (∀ i, i < j → ∀ p, L[i]? = some p → p.1 ≠ x) ∧ getA L x = v ∧ ∀ w, (Instr.findAsking 78 (.agg (amc x)) es k).run Try.prog w = .ok (some (k + j, .agg (vals v))) w
  | [], [], k, _ => .inl ⟨by simp, fun w => by simp [Instr.findAsking]⟩
  | [], _ :: _, k, h => by simp at h
  | _ :: _, [], k, h => by simp at h
  | e :: es, p :: L, k, h => by
    simp only [List.map_cons, List.cons.injEq, kvE, kvA, Prod.mk.injEq] at h
    obtain ⟨⟨h1, h2⟩, h3⟩ := h
    have ih := run_findAsking_aim x es L (k + 1) h3
    by_cases hd : x = p.1
    · subst hd
      refine .inr ⟨0, p.2, rfl, fun i hi => absurd hi (by omega), by rw [getA, if_pos rfl], fun w => ?_⟩
      simp [Instr.findAsking, Sem.run_bind, h1, h2, run_equal_aim]
    · have hs : ∀ w, (Instr.findAsking 78 (.agg (amc x)) (e :: es) k).run Try.prog w = (Instr.findAsking 78 (.agg (amc x)) es (k + 1)).run Try.prog w := fun w => by
        simp [Instr.findAsking, Sem.run_bind, h1, run_equal_aim, hd]
      have hd' : p.1 ≠ x := fun e => hd e.symm
      rcases ih with ⟨a, c⟩ | ⟨j, v, a, b, c, d⟩
      · refine .inl ⟨fun q hq => ?_, fun w => (hs w).trans (c w)⟩
        rcases List.mem_cons.1 hq with rfl | hq
        · exact hd'
        · exact a q hq
      · refine .inr ⟨j + 1, v, a, fun i hi q hq => ?_, by rw [getA, if_neg hd']; exact c, fun w => by rw [hs w, d w, show k + 1 + j = k + (j + 1) by omega]⟩
        cases i with
        | zero =>
          have : p = q := by simpa using hq
          rw [← this]; exact hd'
        | succ i => exact b i (by omega) q (by simpa using hq)
theorem run_findKey_aim (x : Aim) (es : List MapEntry) (L : List AV) (h : es.map kvE = L.map kvA) :
    ((∀ p ∈ L, p.1 ≠ x) ∧ getA L x = zeros ∧ ∀ w, (Instr.findKey 78 (.agg (amc x)) es).run Try.prog w = .ok none w) ∨
    ∃ j v, L[j]? = some (x, v) ∧ (∀ i, i < j → ∀ p, L[i]? = some p → p.1 ≠ x) ∧ getA L x = v ∧ ∀ w, (Instr.findKey 78 (.agg (amc x)) es).run Try.prog w = .ok (some (j, .agg (vals v))) w := by
  have hz : (∀ p ∈ L, p.1 ≠ x) → getA L x = zeros := fun hh => by
    clear h
    induction L with
    | nil => rfl
    | cons p L ih => rw [getA, if_neg (hh p (by simp)), ih (fun q hq => hh q (by simp [hq]))]
  cases es with
  | nil =>
    have hL : L = [] := by
      cases L with
      | nil => rfl
      | cons a L => simp at h
    subst hL
    exact .inl ⟨by simp, rfl, fun w => by simp [Instr.findKey, run_underlying Try.underlying78, Instr.findNow]⟩
  | cons e es =>
    have h0 := run_findAsking_aim x (e :: es) L 0 h
    have hs : ∀ w, (Instr.findKey 78 (.agg (amc x)) (e :: es)).run Try.prog w = (Instr.findAsking 78 (.agg (amc x)) (e :: es) 0).run Try.prog w := fun w => by
      simp [Instr.findKey, Sem.run_bind, run_underlying Try.underlying78, Instr.findNow, Instr.sameNow]
    rcases h0 with ⟨a, c⟩ | ⟨j, v, a, b, c, d⟩
    · exact .inl ⟨a, hz a, fun w => (hs w).trans (c w)⟩
    · exact .inr ⟨j, v, a, b, c, fun w => by rw [hs w, d w, Nat.zero_add]⟩
/-- 'm[x]'. -/
theorem Mpa.lookup {w : World} {b : Nat} {F : Aim → List Int} (h : Mpa w b F) (x : Aim) :
    (Instr.lookup 70 (.map (some b)) (.agg (amc x)) false).run Try.prog w = .ok (.agg (vals (F x))) w := by
  obtain ⟨es, clock, L, hb, hst, hL, hF, hl⟩ := h
  rw [hF]
  rcases run_findKey_aim x es.toList L hL with ⟨-, h1, h2⟩ | ⟨j, v, h1, -, h2, h3⟩
  · simp [Instr.lookup, Sem.run_bind, run_underlying Try.underlying70, MapKept.run_getObj_map hb, run_checkKey_aim, h2, h1, Try.zeroValue37, zeros_vals]
  · simp [Instr.lookup, Sem.run_bind, run_underlying Try.underlying70, MapKept.run_getObj_map hb, run_checkKey_aim, h3, h2]
/-- 'm[x] = v'. -/
theorem Mpa.update {w : World} {b : Nat} {F : Aim → List Int} (h : Mpa w b F) (x : Aim) (v : List Int) (hv : v.length = 16) :
    ∃ o : Obj, ∀ W : World, W.heap[b]? = w.heap[b]? → (Instr.mapUpdate 70 (.map (some b)) (.agg (amc x)) (.agg (vals v))).run Try.prog W = .ok () (setBlock W b o) ∧ Mpa (setBlock W b o) b (fun y => if x = y then v else F y) := by
  obtain ⟨es, clock, L, hb0, hst, hL, hF, hl⟩ := h
  rw [hb0]
  have hkeys : ∀ e ∈ es.toList, ∃ p ∈ L, e.key = .agg (amc p.1) := fun e he => by
    have : kvE e ∈ L.map kvA := by rw [← hL]; exact List.mem_map.2 ⟨e, he, rfl⟩
    obtain ⟨p, hp, e1⟩ := List.mem_map.1 this
    exact ⟨p, hp, (congrArg Prod.fst e1).symm⟩
  rcases run_findKey_aim x es.toList L hL with ⟨h1, -, h2⟩ | ⟨j, v0, h1, hn, h2, h3⟩
  · have hno : ∀ e ∈ es.toList, e.key ≠ .agg (amc x) := fun e he hk => by
      obtain ⟨p, hp, e'⟩ := hkeys e he
      rw [e'] at hk
      exact h1 p hp (amc_inj hk)
    refine ⟨.map (es.push ⟨.agg (amc x), .agg (vals v), clock⟩) (clock + 1), fun w hb => ⟨?_, _, _, L ++ [(x, v)], heap_setBlock_same hb _, stamped_push hst hno, ?_, fun y => ?_, fun p hp => ?_⟩⟩
    · simp [Instr.mapUpdate, Sem.run_bind, run_underlying Try.underlying70, MapKept.run_getObj_map hb, run_checkKey_aim, h2, MapKept.run_setObj_map _ hb, setBlock]
    · rw [Array.toList_push, List.map_append, hL, List.map_append]; rfl
    · show (if x = y then v else F y) = _
      rw [getA_push h1, hF]
    · rcases List.mem_append.1 hp with hp | hp
      · exact hl p hp
      · rw [List.mem_singleton.1 hp]; exact hv
  · have hjl : j < es.toList.length := by
      have h4 := (List.getElem?_eq_some_iff.1 h1).1
      have h5 := congrArg List.length hL
      simp only [List.length_map] at h5
      omega
    have hjs : j < es.size := by simpa using hjl
    obtain ⟨e0, he0⟩ : ∃ e0, es.toList[j]? = some e0 := ⟨_, List.getElem?_eq_getElem hjl⟩
    have hej : kvE e0 = kvA (x, v0) := by
      have h4 : (es.toList.map kvE)[j]? = (L.map kvA)[j]? := by rw [hL]
      rw [List.getElem?_map, List.getElem?_map, h1, he0] at h4
      simpa using h4
    have hk0 : e0.key = .agg (amc x) := congrArg Prod.fst hej
    have hj? : es[j]? = some e0 := by simpa using he0
    refine ⟨.map (es.modify j fun e => { e with key := .agg (amc x), val := .agg (vals v) }) clock, fun w hb => ⟨?_, _, _, L.set j (x, v), heap_setBlock_same hb _, stamped_modify hst _ _ (fun _ _ => rfl) (fun e _ he => ?_), ?_, fun y => ?_, fun p hp => ?_⟩⟩
    · simp [Instr.mapUpdate, Sem.run_bind, run_underlying Try.underlying70, MapKept.run_getObj_map hb, run_checkKey_aim, h3, MapKept.run_setObj_map _ hb, setBlock, hj?, hk0, run_keyStays_aim]
    · rw [hj?] at he
      cases he
      exact hk0.symm
    · rw [Array.toList_modify]
      apply List.ext_getElem?
      intro m
      by_cases hm : m = j
      · subst hm
        rw [List.getElem?_map, List.getElem?_map, List.getElem?_modify_eq, he0, List.getElem?_set_self (List.getElem?_eq_some_iff.1 h1).1]
        rfl
      · rw [List.getElem?_map, List.getElem?_map, List.getElem?_modify, List.getElem?_set_ne (fun e => hm (Eq.symm e))]
        have h8 : (es.toList.map kvE)[m]? = (L.map kvA)[m]? := by rw [hL]
        have h9 : ¬ j = m := fun e => hm e.symm
        simpa [h9] using h8
    · show (if x = y then v else F y) = _
      rw [getA_set h1 hn, hF]
    · rcases List.mem_or_eq_of_mem_set hp with hp | hp
      · exact hl p hp
      · rw [hp]; exact hv
theorem grownBy_setBlock (w : World) (b : Nat) (o : Obj) : w.grownBy (setBlock w b o) (some b) :=
  ⟨rfl, rfl, rfl, by simp [setBlock], fun k _ hk => by
    have hne : b ≠ k := fun e => hk (by rw [e])
    simp [setBlock, hne]⟩
end Go.Proofs.Ytagjgamigldjnaa

namespace Go.Proofs.Ytagjgamigldjnaa
set_option maxRecDepth 100000
open Go.RowKit
open Go.ChangeMaps (setBlock heap_setBlock_same heap_setBlock_other)
open Go.MapKept (Stamped stamped_iff stamped_push stamped_modify stamped_erase stamped_empty)

/-- What is asked of a key's type. -/
structure KeyOk {κ : Type} (kty : TypeId) (kv : κ → Value) : Prop where
  inj : ∀ x y, kv x = kv y → x = y
  check : ∀ (w : World) (em : Bool) (x : κ), (Instr.checkKey em 10000 kty (kv x)).run Try.prog w = .ok () w
  stays : ∀ (w : World) (x : κ), (Instr.keyThatStays (kv x) (kv x)).run Try.prog w = .ok (kv x) w
  find : ∀ (x : κ) (es : List MapEntry), (∀ e ∈ es, ∃ y, e.key = kv y) →
    ((∀ w, (Instr.findKey kty (kv x) es).run Try.prog w = .ok none w) ∧ ∀ e ∈ es, e.key ≠ kv x) ∨
    ∃ j e, es[j]? = some e ∧ e.key = kv x ∧ ∀ w, (Instr.findKey kty (kv x) es).run Try.prog w = .ok (some (j, e.val)) w
section
variable {κ : Type} [DecidableEq κ] {kty : TypeId} {kv : κ → Value}
/-- A block is a map that tells this. -/
def Mp (kv : κ → Value) (w : World) (b : Nat) (F : κ → Option Value) : Prop :=
  ∃ (es : Array MapEntry) (clock : Nat), w.heap[b]? = some (.map es clock) ∧ Stamped es clock ∧ (∀ e ∈ es.toList, ∃ y, e.key = kv y) ∧ ∀ x v, F x = some v ↔ ∃ e ∈ es.toList, e.key = kv x ∧ e.val = v
omit [DecidableEq κ] in
theorem Mp.lt {w : World} {b : Nat} {F : κ → Option Value} (h : Mp kv w b F) : b < w.heap.size := by
  obtain ⟨es, clock, hb, -⟩ := h
  exact (Array.getElem?_eq_some_iff.1 hb).1
omit [DecidableEq κ] in
theorem Mp.kept {w w' : World} {b : Nat} {F : κ → Option Value} (h : Mp kv w b F) (hk : w'.heap[b]? = w.heap[b]?) : Mp kv w' b F := by
  obtain ⟨es, clock, hb, rest⟩ := h
  exact ⟨es, clock, hk.trans hb, rest⟩
omit [DecidableEq κ] in
theorem Mp.below {w w' : World} {b B : Nat} {F : κ → Option Value} (h : Mp kv w b F) (hb : Below B w w') (hB : b < B) : Mp kv w' b F := h.kept (hb.block b hB)
omit [DecidableEq κ] in
theorem mp_new (kv : κ → Value) (w : World) : Mp kv (w.alloc (.map #[] 0)) w.heap.size (fun _ => none) :=
  ⟨#[], 0, MapKept.heap_alloc w _ |>.1, stamped_empty 0, by simp, fun x v => by simp⟩
omit [DecidableEq κ] in
theorem Mp.look (K : KeyOk kty kv) {t e : TypeId} (ht : Try.prog.underlying t = some (.map kty e)) {z : Value} (hz : ∀ w, (zeroValue e).run Try.prog w = .ok z w) {w : World} {b : Nat} {F : κ → Option Value} (h : Mp kv w b F) (x : κ) :
    (Instr.lookup t (.map (some b)) (kv x) false).run Try.prog w = .ok ((F x).getD z) w := by
  obtain ⟨es, clock, hb, hst, hks, hF⟩ := h
  rcases K.find x es.toList hks with ⟨h1, h2⟩ | ⟨j, e0, h1, h2, h3⟩
  · have hn : F x = none := by
      cases hh : F x with
      | none => rfl
      | some v => obtain ⟨e1, he, hk, -⟩ := (hF x v).1 hh; exact absurd hk (h2 e1 he)
    simp [Instr.lookup, Sem.run_bind, run_underlying ht, MapKept.run_getObj_map hb, K.check, h1, hn, hz]
  · have hn : F x = some e0.val := (hF x _).2 ⟨e0, List.mem_of_getElem? h1, h2, rfl⟩
    simp [Instr.lookup, Sem.run_bind, run_underlying ht, MapKept.run_getObj_map hb, K.check, h3, hn]
omit [DecidableEq κ] in
theorem Mp.lookOk (K : KeyOk kty kv) {t e : TypeId} (ht : Try.prog.underlying t = some (.map kty e)) {z : Value} (hz : ∀ w, (zeroValue e).run Try.prog w = .ok z w) {w : World} {b : Nat} {F : κ → Option Value} (h : Mp kv w b F) (x : κ) :
    (Instr.lookup t (.map (some b)) (kv x) true).run Try.prog w = .ok (.tuple #[(F x).getD z, .bool (F x).isSome]) w := by
  obtain ⟨es, clock, hb, hst, hks, hF⟩ := h
  rcases K.find x es.toList hks with ⟨h1, h2⟩ | ⟨j, e0, h1, h2, h3⟩
  · have hn : F x = none := by
      cases hh : F x with
      | none => rfl
      | some v => obtain ⟨e1, he, hk, -⟩ := (hF x v).1 hh; exact absurd hk (h2 e1 he)
    simp [Instr.lookup, Sem.run_bind, run_underlying ht, MapKept.run_getObj_map hb, K.check, h1, hn, hz]
  · have hn : F x = some e0.val := (hF x _).2 ⟨e0, List.mem_of_getElem? h1, h2, rfl⟩
    simp [Instr.lookup, Sem.run_bind, run_underlying ht, MapKept.run_getObj_map hb, K.check, h3, hn]
/-- 'm[x] = v'. -/
theorem Mp.update (K : KeyOk kty kv) {t e : TypeId} (ht : Try.prog.underlying t = some (.map kty e)) {w : World} {b : Nat} {F : κ → Option Value} (h : Mp kv w b F) (x : κ) (v : Value) :
    ∃ o : Obj, ∀ W : World, W.heap[b]? = w.heap[b]? → (Instr.mapUpdate t (.map (some b)) (kv x) v).run Try.prog W = .ok () (setBlock W b o) ∧ Mp kv (setBlock W b o) b (fun y => if x = y then some v else F y) := by
  obtain ⟨es, clock, hb0, hst, hks, hF⟩ := h
  rw [hb0]
  rcases K.find x es.toList hks with ⟨h2, hno⟩ | ⟨j, e0, h1, hk0, h3⟩
  · refine ⟨.map (es.push ⟨kv x, v, clock⟩) (clock + 1), fun w hb => ⟨?_, _, _, heap_setBlock_same hb _, stamped_push hst hno, ?_, fun y u => ?_⟩⟩
    · simp [Instr.mapUpdate, Sem.run_bind, run_underlying ht, MapKept.run_getObj_map hb, K.check, h2, MapKept.run_setObj_map _ hb, setBlock]
    · intro e1 he
      rw [Array.toList_push] at he
      rcases List.mem_append.1 he with he | he
      · exact hks e1 he
      · rw [List.mem_singleton.1 he]; exact ⟨x, rfl⟩
    · show (if x = y then some v else F y) = some u ↔ _
      by_cases hxy : x = y
      · subst hxy
        rw [if_pos rfl]
        constructor
        · intro h5
          exact ⟨⟨kv x, v, clock⟩, by simp, rfl, by simpa using h5⟩
        · rintro ⟨e1, he, hk, hv⟩
          rw [Array.toList_push] at he
          rcases List.mem_append.1 he with he | he
          · exact absurd hk (hno e1 he)
          · rw [List.mem_singleton.1 he] at hv; rw [← hv]
      · rw [if_neg hxy, hF y u]
        constructor
        · rintro ⟨e1, he, hk, hv⟩; exact ⟨e1, by rw [Array.toList_push]; exact List.mem_append.2 (.inl he), hk, hv⟩
        · rintro ⟨e1, he, hk, hv⟩
          rw [Array.toList_push] at he
          rcases List.mem_append.1 he with he | he
          · exact ⟨e1, he, hk, hv⟩
          · rw [List.mem_singleton.1 he] at hk; exact absurd (K.inj _ _ hk) hxy
  · have hj? : es[j]? = some e0 := by simpa using h1
    have hjs : j < es.toList.length := (List.getElem?_eq_some_iff.1 h1).1
    have hun := ((stamped_iff es clock).1 hst).2.2
    have only : ∀ (i : Nat) (e1 : MapEntry), es.toList[i]? = some e1 → e1.key = kv x → i = j := fun i e1 hi hk => by
      obtain ⟨hi1, hi2⟩ := List.getElem?_eq_some_iff.1 hi
      obtain ⟨hj1, hj2⟩ := List.getElem?_eq_some_iff.1 h1
      rcases Nat.lt_trichotomy i j with h5 | h5 | h5
      · exact absurd (by rw [hi2, hj2, hk, hk0]) (List.pairwise_iff_getElem.1 hun i j hi1 hj1 h5)
      · exact h5
      · exact absurd (by rw [hi2, hj2, hk, hk0]) (List.pairwise_iff_getElem.1 hun j i hj1 hi1 h5)
    have hget : ∀ i, (es.modify j fun e => { e with key := kv x, val := v }).toList[i]? = if i = j then some { e0 with key := kv x, val := v } else es.toList[i]? := fun i => by
      rw [Array.toList_modify, List.getElem?_modify]
      by_cases hi : i = j
      · subst hi; simp [h1]
      · have h9 : ¬ j = i := fun e => hi e.symm
        simp [h9, hi]
    refine ⟨.map (es.modify j fun e => { e with key := kv x, val := v }) clock, fun w hb => ⟨?_, _, _, heap_setBlock_same hb _, stamped_modify hst _ _ (fun _ _ => rfl) (fun e _ he => ?_), ?_, fun y u => ?_⟩⟩
    · simp [Instr.mapUpdate, Sem.run_bind, run_underlying ht, MapKept.run_getObj_map hb, K.check, h3, MapKept.run_setObj_map _ hb, setBlock, hj?, hk0, K.stays]
    · rw [hj?] at he
      cases he
      exact hk0.symm
    · intro e1 he
      obtain ⟨i, hi⟩ := List.mem_iff_getElem?.1 he
      rw [hget] at hi
      split at hi
      · cases hi; exact ⟨x, rfl⟩
      · exact hks e1 (List.mem_of_getElem? hi)
    · show (if x = y then some v else F y) = some u ↔ _
      by_cases hxy : x = y
      · subst hxy
        rw [if_pos rfl]
        constructor
        · intro h5
          exact ⟨{ e0 with key := kv x, val := v }, List.mem_of_getElem? ((hget j).trans (if_pos rfl)), rfl, by simpa using h5⟩
        · rintro ⟨e1, he, hk, hv⟩
          obtain ⟨i, hi⟩ := List.mem_iff_getElem?.1 he
          rw [hget] at hi
          split at hi
          · cases hi; rw [← hv]
          · rename_i hij
            exact absurd (only i e1 hi hk) hij
      · rw [if_neg hxy, hF y u]
        constructor
        · rintro ⟨e1, he, hk, hv⟩
          obtain ⟨i, hi⟩ := List.mem_iff_getElem?.1 he
          refine ⟨e1, List.mem_of_getElem? (i := i) ?_, hk, hv⟩
          rw [hget, if_neg (fun e => ?_)]
          · exact hi
          · subst e
            rw [h1] at hi
            cases hi
            exact hxy (K.inj _ _ (hk0.symm.trans hk))
        · rintro ⟨e1, he, hk, hv⟩
          obtain ⟨i, hi⟩ := List.mem_iff_getElem?.1 he
          rw [hget] at hi
          split at hi
          · cases hi; exact absurd (K.inj _ _ hk) hxy
          · exact ⟨e1, List.mem_of_getElem? hi, hk, hv⟩
end

/-! ### dots as keys, numbers as keys -/
abbrev Dt := Int × Int
def dv (d : Dt) : Value := .agg (dotc d.1 d.2)
def iv (n : Int) : Value := .int .i64 n
theorem dv_inj (x y : Dt) (h : dv x = dv y) : x = y := by
  cases x; cases y
  simp [dv, dotc] at h
  simp [h]
theorem equal_dv (w : World) (x y : Dt) : (Op.equal 26 (dv x) (dv y)).run Try.prog w = .ok (decide (x = y)) w := by
  have := run_equalIn_dot w 9998 x.1 x.2 y.1 y.2
  rw [show (decide (x = y)) = decide (x.1 = y.1 ∧ x.2 = y.2) by rw [decide_eq_decide]; exact Prod.ext_iff]
  exact this
theorem find_dv (x : Dt) : ∀ (es : List MapEntry) (k : Nat), (∀ e ∈ es, ∃ y, e.key = dv y) →
    ((∀ w, (Instr.findAsking 26 (dv x) es k).run Try.prog w = .ok none w) ∧ ∀ e ∈ es, e.key ≠ dv x) ∨
    ∃ j e, es[j]? = some e ∧ e.key = dv x ∧ ∀ w, (Instr.findAsking 26 (dv x) es k).run Try.prog w = .ok (some (k + j, e.val)) w
  | [], k, _ => .inl ⟨fun w => by simp [Instr.findAsking], by simp⟩
  | e :: es, k, h => by
    obtain ⟨y, hy⟩ := h e (by simp)
    by_cases hd : x = y
    · subst hd
      exact .inr ⟨0, e, rfl, hy, fun w => by simp [Instr.findAsking, Sem.run_bind, hy, equal_dv]⟩
    · have hs : ∀ w, (Instr.findAsking 26 (dv x) (e :: es) k).run Try.prog w = (Instr.findAsking 26 (dv x) es (k + 1)).run Try.prog w := fun w => by
        simp [Instr.findAsking, Sem.run_bind, hy, equal_dv, hd]
      rcases find_dv x es (k + 1) (fun e1 he => h e1 (by simp [he])) with ⟨a, c⟩ | ⟨j, e1, a, b, c⟩
      · refine .inl ⟨fun w => (hs w).trans (a w), fun e1 he => ?_⟩
        rcases List.mem_cons.1 he with rfl | he
        · rw [hy]; exact fun e2 => hd (dv_inj _ _ e2).symm
        · exact c e1 he
      · exact .inr ⟨j + 1, e1, by simpa using a, b, fun w => by rw [hs w, c w, show k + 1 + j = k + (j + 1) by omega]⟩
theorem keyDot : KeyOk 26 dv where
  inj := dv_inj
  check w em x := by kernel_rfl
  stays w x := by simp [Instr.keyThatStays, Instr.sameBits, dv, dotc]
  find x es h := by
    cases es with
    | nil => exact .inl ⟨fun w => by simp [Instr.findKey, run_underlying Try.underlying26, Instr.findNow], by simp⟩
    | cons e es =>
      obtain ⟨y, hy⟩ := h e (by simp)
      have hs : ∀ w, (Instr.findKey 26 (dv x) (e :: es)).run Try.prog w = (Instr.findAsking 26 (dv x) (e :: es) 0).run Try.prog w := fun w => by
        simp [Instr.findKey, Sem.run_bind, run_underlying Try.underlying26, Instr.findNow, Instr.sameNow]
      rcases find_dv x (e :: es) 0 h with ⟨a, c⟩ | ⟨j, e1, a, b, c⟩
      · exact .inl ⟨fun w => (hs w).trans (a w), c⟩
      · exact .inr ⟨j, e1, a, b, fun w => by rw [hs w, c w, Nat.zero_add]⟩
theorem find_iv (x : Int) : ∀ (es : List MapEntry) (k : Nat), (∀ e ∈ es, ∃ y, e.key = iv y) →
    (Instr.findNow (.int .i64) (iv x) es k = some none ∧ ∀ e ∈ es, e.key ≠ iv x) ∨
    ∃ j e, es[j]? = some e ∧ e.key = iv x ∧ Instr.findNow (.int .i64) (iv x) es k = some (some (k + j, e.val))
  | [], k, _ => .inl ⟨rfl, by simp⟩
  | e :: es, k, h => by
    obtain ⟨y, hy⟩ := h e (by simp)
    by_cases hd : x = y
    · subst hd
      exact .inr ⟨0, e, rfl, hy, by simp [Instr.findNow, hy, iv, Instr.sameNow]⟩
    · have hs : Instr.findNow (.int .i64) (iv x) (e :: es) k = Instr.findNow (.int .i64) (iv x) es (k + 1) := by
        have hb : (x == y) = false := beq_false_of_ne hd
        simp [Instr.findNow, hy, iv, Instr.sameNow, hb]
      rcases find_iv x es (k + 1) (fun e1 he => h e1 (by simp [he])) with ⟨a, c⟩ | ⟨j, e1, a, b, c⟩
      · refine .inl ⟨hs.trans a, fun e1 he => ?_⟩
        rcases List.mem_cons.1 he with rfl | he
        · rw [hy]; exact fun e2 => hd (by simpa [iv] using e2.symm)
        · exact c e1 he
      · exact .inr ⟨j + 1, e1, by simpa using a, b, by rw [hs, c, show k + 1 + j = k + (j + 1) by omega]⟩
theorem keyInt : KeyOk 3 iv where
  inj x y h := by simpa [iv] using h
  check w em x := by kernel_rfl
  stays w x := by simp [Instr.keyThatStays, Instr.sameBits, iv]
  find x es h := by
    rcases find_iv x es 0 h with ⟨a, c⟩ | ⟨j, e1, a, b, c⟩
    · exact .inl ⟨fun w => by simp [Instr.findKey, Sem.run_bind, run_underlying Try.underlying3, a], c⟩
    · exact .inr ⟨j, e1, a, b, fun w => by simp [Instr.findKey, Sem.run_bind, run_underlying Try.underlying3, c]⟩
end Go.Proofs.Ytagjgamigldjnaa
