/-
  A bag's map in memory: one entry a thing, under its dot; what is stored, looked up, deleted.
-/
import Derived.Test.YtmlfekbmbnfkjabGreatDoorQ13
import Derived.Maps.RangeRun
import Derived.OwnWalk
import Derived.RangeFuncNested
import Derived.RangeFuncStops
import Derived.Shelf.Abstract
import Derived.Shelf.AbstractIn
import Derived.WalkKit
import Derived.OwnWalkIn
import Derived.TacticsInMore
import Derived.LoopNIn
import Derived.LoopIn
import Derived.Maps.Range
import Derived.Laws.OwnMore
import Derived.Laws.AppendOwnNone
import Derived.Great.BuildSlice
import Derived.Deep.MidRow
namespace Go.Proofs.YtmlfekbmbnfkjabGreatDoor.E
set_option maxRecDepth 100000
open Go.RowKit
open Go.ChangeMaps (setBlock heap_setBlock_same heap_setBlock_other)
open Go.MapKept (Stamped stamped_iff stamped_push stamped_modify stamped_erase stamped_empty)

def kvI (i : It (Cx 26)) : Value × Value := (.agg (dotc i.r i.n), .agg (xc i))
def kvE (e : MapEntry) : Value × Value := (e.key, e.val)
theorem dotc_inj {r n r' n' : Int} (h : (Value.agg (dotc r n)) = .agg (dotc r' n')) : r = r' ∧ n = n' := by
  simpa [dotc] using h

/-- A block is a map of these things. -/
def Mp (w : World) (b : Nat) (S : List (It (Cx 26))) : Prop :=
  ∃ (es : Array MapEntry) (clock : Nat) (L : List (It (Cx 26))), w.heap[b]? = some (.map es clock) ∧ Stamped es clock ∧ es.toList.map kvE = L.map kvI ∧ L.Perm S ∧ Srt S

theorem Mp.lt {w : World} {b : Nat} {S : List (It (Cx 26))} (h : Mp w b S) : b < w.heap.size := by
  obtain ⟨es, clock, L, hb, -⟩ := h
  exact (Array.getElem?_eq_some_iff.1 hb).1
theorem Mp.srt {w : World} {b : Nat} {S : List (It (Cx 26))} (h : Mp w b S) : Srt S := by
  obtain ⟨es, clock, L, -, -, -, -, hS⟩ := h
  exact hS
theorem Mp.kept {w w' : World} {b : Nat} {S : List (It (Cx 26))} (h : Mp w b S) (hk : w'.heap[b]? = w.heap[b]?) : Mp w' b S := by
  obtain ⟨es, clock, L, hb, rest⟩ := h
  exact ⟨es, clock, L, hk.trans hb, rest⟩
theorem Mp.below {w w' : World} {b B : Nat} {S : List (It (Cx 26))} (h : Mp w b S) (hb : Below B w w') (hB : b < B) : Mp w' b S := h.kept (hb.block b hB)
theorem Mp.alloc {w : World} {b : Nat} {S : List (It (Cx 26))} (h : Mp w b S) (o : Obj) : Mp (w.alloc o) b S := h.kept (Below.heap_alloc w o b h.lt)
theorem mp_new (w : World) : Mp (w.alloc (.map #[] 0)) w.heap.size [] :=
  ⟨#[], 0, [], MapKept.heap_alloc w _ |>.1, stamped_empty 0, rfl, List.Perm.refl _, Srt.nil⟩

theorem run_equal_dot (w : World) (r n r' n' : Int) : (Op.equal 32 (.agg (dotc r n)) (.agg (dotc r' n'))).run Tryz.prog w = .ok (decide (r = r' ∧ n = n')) w := run_equalIn_dot w 9998 r n r' n'
theorem run_checkKey_dot (w : World) (em : Bool) (r n : Int) : (Instr.checkKey em 10000 32 (.agg (dotc r n))).run Tryz.prog w = .ok () w := by kernel_rfl
theorem run_keyStays_dot (w : World) (r n : Int) : (Instr.keyThatStays (.agg (dotc r n)) (.agg (dotc r n))).run Tryz.prog w = .ok (.agg (dotc r n)) w := by
  simp [Instr.keyThatStays, Instr.sameBits, dotc]

theorem run_findAsking_dot (r n : Int) : ∀ (es : List MapEntry) (L : List (It (Cx 26))) (k : Nat), es.map kvE = L.map kvI →
    (find L r n = none ∧ ∀ w, (Instr.findAsking 32 (.agg (dotc r n)) es k).run Tryz.prog w = .ok none w) ∨
    ∃ j i, L[j]? = some i ∧ i.r = r ∧ i.n = n ∧ find L r n = some i ∧ ∀ w, (Instr.findAsking 32 (.agg (dotc r n)) es k).run Tryz.prog w = .ok (some (k + j, .agg (xc i))) w
  | [], [], k, _ => .inl ⟨rfl, fun w => by simp [Instr.findAsking]⟩
  | [], _ :: _, k, h => by simp at h
  | _ :: _, [], k, h => by simp at h
  | e :: es, i :: L, k, h => by
    simp only [List.map_cons, List.cons.injEq, kvE, kvI, Prod.mk.injEq] at h
    obtain ⟨⟨h1, h2⟩, h3⟩ := h
    have ih := run_findAsking_dot r n es L (k + 1) h3
    by_cases hd : r = i.r ∧ n = i.n
    · obtain ⟨rfl, rfl⟩ := hd
      refine .inr ⟨0, i, rfl, rfl, rfl, by simp [find, isAt], fun w => ?_⟩
      simp [Instr.findAsking, Sem.run_bind, h1, h2, run_equal_dot]
    · have hne : isAt r n i = false := by
        cases hh : isAt r n i
        · rfl
        · rw [isAt_iff] at hh; exact absurd ⟨hh.1.symm, hh.2.symm⟩ hd
      have hf : find (i :: L) r n = find L r n := by simp [find, hne]
      have hs : ∀ w, (Instr.findAsking 32 (.agg (dotc r n)) (e :: es) k).run Tryz.prog w = (Instr.findAsking 32 (.agg (dotc r n)) es (k + 1)).run Tryz.prog w := fun w => by
        simp [Instr.findAsking, Sem.run_bind, h1, run_equal_dot, hd]
      rw [hf]
      rcases ih with ⟨a, c⟩ | ⟨j, x, a, b, c, d, f⟩
      · exact .inl ⟨a, fun w => (hs w).trans (c w)⟩
      · exact .inr ⟨j + 1, x, a, b, c, d, fun w => by rw [hs w, f w, show k + 1 + j = k + (j + 1) by omega]⟩
theorem run_findKey_dot (r n : Int) (es : List MapEntry) (L : List (It (Cx 26))) (h : es.map kvE = L.map kvI) :
    (find L r n = none ∧ ∀ w, (Instr.findKey 32 (.agg (dotc r n)) es).run Tryz.prog w = .ok none w) ∨
    ∃ j i, L[j]? = some i ∧ i.r = r ∧ i.n = n ∧ find L r n = some i ∧ ∀ w, (Instr.findKey 32 (.agg (dotc r n)) es).run Tryz.prog w = .ok (some (j, .agg (xc i))) w := by
  cases es with
  | nil =>
    have hL : L = [] := by
      cases L with
      | nil => rfl
      | cons a L => simp at h
    subst hL
    exact .inl ⟨rfl, fun w => by simp [Instr.findKey, run_underlying Tryz.underlying32, Instr.findNow]⟩
  | cons e es =>
    have h0 := run_findAsking_dot r n (e :: es) L 0 h
    have hs : ∀ w, (Instr.findKey 32 (.agg (dotc r n)) (e :: es)).run Tryz.prog w = (Instr.findAsking 32 (.agg (dotc r n)) (e :: es) 0).run Tryz.prog w := fun w => by
      simp [Instr.findKey, Sem.run_bind, run_underlying Tryz.underlying32, Instr.findNow, Instr.sameNow]
    rcases h0 with ⟨a, c⟩ | ⟨j, i, a, b, c, d, f⟩
    · exact .inl ⟨a, fun w => (hs w).trans (c w)⟩
    · exact .inr ⟨j, i, a, b, c, d, fun w => by rw [hs w, f w, Nat.zero_add]⟩

theorem find_perm {L S : List (It (Cx 26))} (hp : L.Perm S) (hS : Srt S) (r n : Int) : find L r n = find S r n := by
  cases hf : find L r n with
  | none =>
    symm
    rw [find_none] at hf ⊢
    cases hh : hasD S r n
    · rfl
    · obtain ⟨i, hi, h1, h2⟩ := hasD_iff.1 hh
      have : hasD L r n = true := hasD_iff.2 ⟨i, hp.mem_iff.2 hi, h1, h2⟩
      rw [hf] at this; cases this
  | some i =>
    obtain ⟨hi, rfl, rfl⟩ := find_mem hf
    exact (find_some hS (hp.mem_iff.1 hi)).symm

/-- 'v, ok := m[d]'. -/
theorem Mp.lookup {w : World} {b : Nat} {S : List (It (Cx 26))} (h : Mp w b S) (r n : Int) :
    (Instr.lookup 79 (.map (some b)) (.agg (dotc r n)) true).run Tryz.prog w = .ok (.tuple #[.agg (xc ((find S r n).getD ⟨0, 0, zx⟩)), .bool (hasD S r n)]) w := by
  obtain ⟨es, clock, L, hb, hst, hL, hp, hS⟩ := h
  rw [hasD_find, ← find_perm hp hS]
  rcases run_findKey_dot r n es.toList L hL with ⟨h1, h2⟩ | ⟨j, i, h1, rfl, rfl, h2, h3⟩
  · simp [Instr.lookup, Sem.run_bind, run_underlying Tryz.underlying79, MapKept.run_getObj_map hb, run_checkKey_dot, h2, h1, Tryz.zeroValue112, zx_cells]
  · simp [Instr.lookup, Sem.run_bind, run_underlying Tryz.underlying79, MapKept.run_getObj_map hb, run_checkKey_dot, h3, h2]
theorem lookup_nil (w : World) (r n : Int) : (Instr.lookup 79 (.map none) (.agg (dotc r n)) true).run Tryz.prog w = .ok (.tuple #[.agg (xc ⟨0, 0, zx⟩), .bool false]) w := by
  rcases run_findKey_dot r n [] [] rfl with ⟨h1, h2⟩ | ⟨j, i, h1, _⟩
  · simp [Instr.lookup, Sem.run_bind, run_underlying Tryz.underlying79, run_checkKey_dot, h2, Tryz.zeroValue112, zx_cells]
  · simp at h1
/-- 'm[d] = Item{d, x}'. -/
theorem Mp.update {w : World} {b : Nat} {S : List (It (Cx 26))} (h : Mp w b S) (i : It (Cx 26)) :
    ∃ o : Obj, ∀ W : World, W.heap[b]? = w.heap[b]? → (Instr.mapUpdate 79 (.map (some b)) (.agg (dotc i.r i.n)) (.agg (xc i))).run Tryz.prog W = .ok () (setBlock W b o) ∧ Mp (setBlock W b o) b (put S i) := by
  obtain ⟨es, clock, L, hb0, hst, hL, hp, hS⟩ := h
  rw [hb0]
  have hkeys : ∀ x ∈ es.toList, ∃ j ∈ L, x.key = .agg (dotc j.r j.n) := fun x hx => by
    have : kvE x ∈ L.map kvI := by rw [← hL]; exact List.mem_map.2 ⟨x, hx, rfl⟩
    obtain ⟨j, hj, e⟩ := List.mem_map.1 this
    exact ⟨j, hj, (congrArg Prod.fst e).symm⟩
  rcases run_findKey_dot i.r i.n es.toList L hL with ⟨h1, h2⟩ | ⟨j, i0, h1, hr, hn, h2, h3⟩
  · have hno : ∀ x ∈ es.toList, x.key ≠ .agg (dotc i.r i.n) := fun x hx e => by
      obtain ⟨j, hj, e'⟩ := hkeys x hx
      rw [e'] at e
      obtain ⟨e1, e2⟩ := dotc_inj e
      rw [find_none] at h1
      have : hasD L i.r i.n = true := hasD_iff.2 ⟨j, hj, e1, e2⟩
      rw [h1] at this; cases this
    refine ⟨.map (es.push ⟨.agg (dotc i.r i.n), .agg (xc i), clock⟩) (clock + 1), fun w hb => ⟨?_, _, _, L ++ [i], heap_setBlock_same hb _, stamped_push hst hno, ?_, ?_, hS.put i⟩⟩
    · simp [Instr.mapUpdate, Sem.run_bind, run_underlying Tryz.underlying79, MapKept.run_getObj_map hb, run_checkKey_dot, h2, MapKept.run_setObj_map _ hb, setBlock]
    · rw [Array.toList_push, List.map_append, hL, List.map_append]; rfl
    · refine (List.perm_append_singleton i L).trans (((hp.cons i).trans ?_).trans (put_perm S i).symm)
      rw [del_of_not]
      rw [find_perm hp hS, find_none] at h1
      exact h1
  · have hkey : i0.r = i.r ∧ i0.n = i.n := ⟨hr, hn⟩
    have hjl : j < es.toList.length := by
      have h4 := (List.getElem?_eq_some_iff.1 h1).1
      have h5 := congrArg List.length hL
      simp only [List.length_map] at h5
      omega
    have hjs : j < es.size := by simpa using hjl
    obtain ⟨e0, he0⟩ : ∃ e0, es.toList[j]? = some e0 := ⟨_, List.getElem?_eq_getElem hjl⟩
    have hej : kvE e0 = kvI i0 := by
      have h4 : (es.toList.map kvE)[j]? = (L.map kvI)[j]? := by rw [hL]
      rw [List.getElem?_map, List.getElem?_map, h1, he0] at h4
      simpa using h4
    have hk0 : e0.key = .agg (dotc i.r i.n) := by
      have := congrArg Prod.fst hej
      simpa [kvE, kvI, hkey.1, hkey.2] using this
    have hj? : es[j]? = some e0 := by simpa using he0
    refine ⟨.map (es.modify j fun e => { e with key := .agg (dotc i.r i.n), val := .agg (xc i) }) clock, fun w hb => ⟨?_, _, _, L.set j i, heap_setBlock_same hb _, stamped_modify hst _ _ (fun _ _ => rfl) (fun e _ he => ?_), ?_, ?_, hS.put i⟩⟩
    · simp [Instr.mapUpdate, Sem.run_bind, run_underlying Tryz.underlying79, MapKept.run_getObj_map hb, run_checkKey_dot, h3, MapKept.run_setObj_map _ hb, setBlock, hj?, hk0, run_keyStays_dot]
    · rw [hj?] at he
      cases he
      exact hk0.symm
    · rw [Array.toList_modify]
      apply List.ext_getElem?
      intro m
      by_cases hm : m = j
      · subst hm
        rw [List.getElem?_map, List.getElem?_map, List.getElem?_modify_eq, he0, List.getElem?_set_self (List.getElem?_eq_some_iff.1 h1).1]
        rfl
      · rw [List.getElem?_map, List.getElem?_map, List.getElem?_modify, List.getElem?_set_ne (fun e => hm (Eq.symm e))]
        have h8 : (es.toList.map kvE)[m]? = (L.map kvI)[m]? := by rw [hL]
        have h9 : ¬ j = m := fun e => hm e.symm
        simpa [h9] using h8
    · have p1 : L.Perm (i0 :: L.eraseIdx j) := perm_erase h1
      have p2 : (L.set j i).Perm (i :: L.eraseIdx j) := perm_set h1
      refine p2.trans (List.Perm.trans ?_ (put_perm S i).symm)
      refine List.Perm.cons i ?_
      have p3 : (i0 :: L.eraseIdx j).Perm S := p1.symm.trans hp
      have p4 := p3.filter (fun x => !isAt i.r i.n x)
      rw [List.filter_cons_of_neg (by simp [isAt, hr, hn])] at p4
      refine List.Perm.trans (List.Perm.of_eq (List.filter_eq_self.2 fun x hx => ?_).symm) p4
      have ap : (i0 :: L.eraseIdx j).Pairwise fun a b => ¬ (a.r = b.r ∧ a.n = b.n) := (p3.symm.pairwise_iff (fun {a b} (hh : ¬ (a.r = b.r ∧ a.n = b.n)) e => hh ⟨e.1.symm, e.2.symm⟩)).1 hS.apart
      have := (List.pairwise_cons.1 ap).1 x hx
      cases hh : isAt i.r i.n x
      · rfl
      · rw [isAt_iff] at hh; exact absurd ⟨hr.trans hh.1.symm, hn.trans hh.2.symm⟩ this
/-- 'delete(m, d)'. -/
theorem Mp.delete {w : World} {b : Nat} {S : List (It (Cx 26))} (h : Mp w b S) (r n : Int) (ty : TypeId) :
    ∃ o : Obj, ∀ W : World, W.heap[b]? = w.heap[b]? → (Builtin.delete_ #[79, 32] ty #[.map (some b), .agg (dotc r n)]).run Tryz.prog W = .ok (.tuple #[]) (setBlock W b o) ∧ Mp (setBlock W b o) b (del S r n) := by
  obtain ⟨es, clock, L, hb0, hst, hL, hp, hS⟩ := h
  rw [hb0]
  rcases run_findKey_dot r n es.toList L hL with ⟨h1, h2⟩ | ⟨j, i0, h1, hr, hn, h2, h3⟩
  · refine ⟨.map es clock, fun w hb => ⟨?_, _, _, L, heap_setBlock_same hb _, hst, hL, ?_, hS.del r n⟩⟩
    · simp [Builtin.delete_, Sem.run_bind, run_underlying Tryz.underlying79, MapKept.run_getObj_map hb, run_checkKey_dot, h2, MapKept.run_setObj_map _ hb, setBlock]
    · rw [find_perm hp hS, find_none] at h1
      rw [del_of_not h1]; exact hp
  · have hjL := (List.getElem?_eq_some_iff.1 h1).1
    have hjl : j < es.toList.length := by
      have h5 := congrArg List.length hL
      simp only [List.length_map] at h5
      omega
    have hjs : j < es.size := by simpa using hjl
    have hsub : (es.eraseIdxIfInBounds j).toList = es.toList.eraseIdx j := by
      unfold Array.eraseIdxIfInBounds
      rw [dif_pos hjs]
      simp
    refine ⟨.map (es.eraseIdxIfInBounds j) clock, fun w hb => ⟨?_, _, _, L.eraseIdx j, heap_setBlock_same hb _, stamped_erase hst j, ?_, ?_, hS.del r n⟩⟩
    · simp [Builtin.delete_, Sem.run_bind, run_underlying Tryz.underlying79, MapKept.run_getObj_map hb, run_checkKey_dot, h3, MapKept.run_setObj_map _ hb, setBlock]
    · rw [hsub, map_erase, hL, map_erase]
    · have p1 : L.Perm (i0 :: L.eraseIdx j) := perm_erase h1
      have p3 : (i0 :: L.eraseIdx j).Perm S := p1.symm.trans hp
      have p4 := p3.filter (fun x => !isAt r n x)
      rw [List.filter_cons_of_neg (by simp [isAt, hr, hn])] at p4
      refine List.Perm.trans (List.Perm.of_eq (List.filter_eq_self.2 fun x hx => ?_).symm) p4
      have ap : (i0 :: L.eraseIdx j).Pairwise fun a b => ¬ (a.r = b.r ∧ a.n = b.n) := (p3.symm.pairwise_iff (fun {a b} (hh : ¬ (a.r = b.r ∧ a.n = b.n)) e => hh ⟨e.1.symm, e.2.symm⟩)).1 hS.apart
      have := (List.pairwise_cons.1 ap).1 x hx
      cases hh : isAt r n x
      · rfl
      · rw [isAt_iff] at hh; exact absurd ⟨hr.trans hh.1.symm, hn.trans hh.2.symm⟩ this
theorem delete_nil (w : World) (r n : Int) (ty : TypeId) : (Builtin.delete_ #[79, 32] ty #[.map none, .agg (dotc r n)]).run Tryz.prog w = .ok (.tuple #[]) w := by
  simp [Builtin.delete_, Sem.run_bind, run_underlying Tryz.underlying79, run_checkKey_dot]
theorem Mp.len {w : World} {b : Nat} {S : List (It (Cx 26))} (h : Mp w b S) (ty : TypeId) : (Builtin.len_ #[79] ty #[.map (some b)]).run Tryz.prog w = .ok (.int .i64 (S.length : Int)) w := by
  obtain ⟨es, clock, L, hb, hst, hL, hp, hS⟩ := h
  have h5 := congrArg List.length hL
  simp only [List.length_map, Array.length_toList] at h5
  simp [Builtin.len_, Sem.run_bind, run_underlying Tryz.underlying79, MapKept.run_getObj_map hb, goInt, h5, hp.length_eq]
theorem len_nil (w : World) (ty : TypeId) : (Builtin.len_ #[79] ty #[.map none]).run Tryz.prog w = .ok (.int .i64 0) w := by
  simp [Builtin.len_, Sem.run_bind, run_underlying Tryz.underlying79, goInt]
theorem grownBy_setBlock (w : World) (b : Nat) (o : Obj) : w.grownBy (setBlock w b o) (some b) :=
  ⟨rfl, rfl, rfl, by simp [setBlock], fun k _ hk => by
    have hne : b ≠ k := fun e => hk (by rw [e])
    simp [setBlock, hne]⟩
end Go.Proofs.YtmlfekbmbnfkjabGreatDoor.E

/-
  A load and a store whose runs are known, within a fence; a block that is laid whole.
-/
namespace Go.Proofs.YtmlfekbmbnfkjabGreatDoor
set_option maxRecDepth 100000
open Go.RowKit Go.Shelf

section
variable {F : Fence} {n : Nat} {P : Program} {w w' : World} {ops : Array Oper} {rest : List Oper} {o : Oper} {a : Act} {Q : Exit → Act → World → Prop} {x y : Operand} {ty : TypeId} {ad : Addr} {v : Value}
theorem wpListIn_loadR (hg : o.guard = none) (ho : o.op = .load ty x) (hx : a.eval x = .pointer (some ad)) (hr : (loadVar ty ad).run P w = .ok v w) (hK : wpListIn F n P ops Q rest (a.put o.dst v) w) : wpListIn F n P ops Q (o :: rest) a w := by
  refine wpListIn_plain hg fun K hK' => ?_
  unfold Oper.wpIn
  refine ⟨by simp [Oper.about, ho], ?_⟩
  rw [Oper.semAt_plain F _ _ (by rw [ho]; intro c hc'; cases hc')]
  simp only [execOp, ho, hx, Instr.loadAt, Instr.sureAddr, Sem.run_bind, Sem.run_pure, Result.andThen_ok, hr]
  exact hK' _ _ hK
theorem wpListIn_storeR (hg : o.guard = none) (ho : o.op = .store ty x y) (hx : a.eval x = .pointer (some ad)) (hy : a.eval y = v) (hr : (storeVar ty ad v).run P w = .ok () w') (hK : wpListIn F n P ops Q rest (a.put o.dst undef) w') : wpListIn F n P ops Q (o :: rest) a w := by
  refine wpListIn_plain hg fun K hK' => ?_
  unfold Oper.wpIn
  refine ⟨by simp [Oper.about, ho], ?_⟩
  rw [Oper.semAt_plain F _ _ (by rw [ho]; intro c hc'; cases hc')]
  simp only [execOp, ho, hx, hy, Instr.storeAt, Instr.sureAddr, Sem.run_bind, Sem.run_pure, Result.andThen_ok, hr]
  exact hK' _ _ hK
theorem wpListIn_buildR {k : Nat} {u : Value} (hg : o.guard = none) (ho : o.op = .buildSlice ty k #[(0, x)]) (hx : a.eval x = u) (hr : (Instr.buildSlice ty k #[(0, u)]).run P w = .ok v w') (hK : wpListIn F n P ops Q rest (a.put o.dst v) w') : wpListIn F n P ops Q (o :: rest) a w := by
  refine wpListIn_plain hg fun K hK' => ?_
  unfold Oper.wpIn
  refine ⟨by simp [Oper.about, ho], ?_⟩
  rw [Oper.semAt_plain F _ _ (by rw [ho]; intro c hc'; cases hc')]
  simp only [execOp, ho, List.map_toArray, List.map_cons, List.map_nil, hx, Sem.run_bind, Sem.run_pure, Result.andThen_ok, hr]
  exact hK' _ _ hK
end

theorem setRow_new (w : World) (z cs : Array Value) (t : TypeId) : (w.alloc (.cells z t)).setRow w.heap.size cs = w.alloc (.cells cs t) := by
  unfold World.setRow World.alloc
  congr 1
  apply Array.ext_getElem?
  intro j
  rw [Array.getElem?_modify, Array.getElem?_push, Array.getElem?_push]
  by_cases hj : j = w.heap.size
  · subst hj
    simp
  · have : ¬ w.heap.size = j := fun e => hj e.symm
    simp [hj, this]
end Go.Proofs.YtmlfekbmbnfkjabGreatDoor

/-
  A range over a bag's map under way; maps.Values's iterator: each thing comes once, in some order.
-/
namespace Go.Proofs.YtmlfekbmbnfkjabGreatDoor.E
set_option maxRecDepth 100000
set_option maxRecDepth 100000
open Go.RowKit Go.Shelf
open Go.ChangeMaps (setBlock heap_setBlock_same heap_setBlock_other)
open Go.MapKept (Stamped stamped_iff)

theorem filter_born : ∀ {l : List MapEntry} {j : Nat} {e : MapEntry}, (l.map (·.born)).Nodup → l[j]? = some e → l.filter (fun x => !(x.born == e.born)) = l.eraseIdx j
  | [], j, e, _, h => by simp at h
  | a :: l, 0, e, hn, h => by
    obtain rfl : a = e := by simpa using h
    simp only [List.map_cons, List.nodup_cons] at hn
    simp only [List.filter_cons, beq_self_eq_true, Bool.not_true, Bool.false_eq_true, if_false, List.eraseIdx_cons_zero]
    refine List.filter_eq_self.2 fun x hx => ?_
    cases hb : x.born == a.born
    · rfl
    · exact absurd (List.mem_map.2 ⟨x, hx, by simpa using hb⟩) hn.1
  | a :: l, j + 1, e, hn, h => by
    simp only [List.map_cons, List.nodup_cons] at hn
    have h' : l[j]? = some e := by simpa using h
    have hne : a.born ≠ e.born := fun hb => hn.1 (List.mem_map.2 ⟨e, List.mem_of_getElem? h', hb.symm⟩)
    have hb : (a.born == e.born) = false := by simpa using hne
    simp only [List.filter_cons, hb, Bool.not_false, if_true, List.eraseIdx_cons_succ]
    rw [filter_born hn.2 h']
theorem left_push (es : Array MapEntry) (seen : Array Nat) (b : Nat) : (leftOf es (seen.push b)).toList = (leftOf es seen).toList.filter (fun x => !(x.born == b)) := by
  unfold leftOf
  rw [Array.toList_filter, Array.toList_filter, List.filter_filter]
  refine List.filter_congr fun x _ => ?_
  rw [contains_push]
  cases seen.contains x.born <;> cases x.born == b <;> rfl

theorem size_it (i : It (Cx 26)) : (Tryz.prog.info? 112).map (·.size) = some (xc i).size := by
  rw [xc_size]; kernel_rfl
theorem st_new (w : World) (i : It (Cx 26)) : (storeVar 112 ⟨w.heap.size, 0, none⟩ (.agg (xc i))).run Tryz.prog (w.alloc (.cells #[Value.int IntKind.i64 0, Value.int IntKind.i64 0, Value.int IntKind.i64 0, Value.int IntKind.i64 0, Value.int IntKind.i64 0, Value.int IntKind.i64 0, Value.int IntKind.i64 0, Value.int IntKind.i64 0, Value.int IntKind.i64 0, Value.int IntKind.i64 0, Value.int IntKind.i64 0, Value.int IntKind.i64 0, Value.int IntKind.i64 0, Value.int IntKind.i64 0, Value.int IntKind.i64 0, Value.int IntKind.i64 0, Value.int IntKind.i64 0, Value.int IntKind.i64 0, Value.int IntKind.i64 0, Value.int IntKind.i64 0, Value.int IntKind.i64 0, Value.int IntKind.i64 0, Value.string { data := #[] }, Value.string { data := #[] }, Value.string { data := #[] }, Value.int IntKind.i64 0, Value.int IntKind.i64 0, Value.int IntKind.i64 0] 112)) = .ok () (w.alloc (.cells (xc i) 112)) := by
  rw [run_storeVar_row (P := Tryz.prog) (w.alloc (.cells #[Value.int IntKind.i64 0, Value.int IntKind.i64 0, Value.int IntKind.i64 0, Value.int IntKind.i64 0, Value.int IntKind.i64 0, Value.int IntKind.i64 0, Value.int IntKind.i64 0, Value.int IntKind.i64 0, Value.int IntKind.i64 0, Value.int IntKind.i64 0, Value.int IntKind.i64 0, Value.int IntKind.i64 0, Value.int IntKind.i64 0, Value.int IntKind.i64 0, Value.int IntKind.i64 0, Value.int IntKind.i64 0, Value.int IntKind.i64 0, Value.int IntKind.i64 0, Value.int IntKind.i64 0, Value.int IntKind.i64 0, Value.int IntKind.i64 0, Value.int IntKind.i64 0, Value.string { data := #[] }, Value.string { data := #[] }, Value.string { data := #[] }, Value.int IntKind.i64 0, Value.int IntKind.i64 0, Value.int IntKind.i64 0] 112)) w.heap.size 112 112 #[Value.int IntKind.i64 0, Value.int IntKind.i64 0, Value.int IntKind.i64 0, Value.int IntKind.i64 0, Value.int IntKind.i64 0, Value.int IntKind.i64 0, Value.int IntKind.i64 0, Value.int IntKind.i64 0, Value.int IntKind.i64 0, Value.int IntKind.i64 0, Value.int IntKind.i64 0, Value.int IntKind.i64 0, Value.int IntKind.i64 0, Value.int IntKind.i64 0, Value.int IntKind.i64 0, Value.int IntKind.i64 0, Value.int IntKind.i64 0, Value.int IntKind.i64 0, Value.int IntKind.i64 0, Value.int IntKind.i64 0, Value.int IntKind.i64 0, Value.int IntKind.i64 0, Value.string { data := #[] }, Value.string { data := #[] }, Value.string { data := #[] }, Value.int IntKind.i64 0, Value.int IntKind.i64 0, Value.int IntKind.i64 0] (xc i) (heap_alloc_new w _) (size_it i) (by rw [xc_size]; rfl) (xc_one i), setRow_new]
theorem ld_at {w : World} {g : Nat} {i : It (Cx 26)} (h : w.heap[g]? = some (.cells (xc i) 112 (0, 0))) : (loadVar 112 ⟨g, 0, none⟩).run Tryz.prog w = .ok (.agg (xc i)) w :=
  run_loadVar_row w g 112 112 _ (0, 0) _ h Tryz.underlying112 rfl (size_it i)
theorem ld_new (w : World) (i : It (Cx 26)) : (loadVar 112 ⟨w.heap.size, 0, none⟩).run Tryz.prog (w.alloc (.cells (xc i) 112)) = .ok (.agg (xc i)) (w.alloc (.cells (xc i) 112)) := ld_at (heap_alloc_new w _)
/-- A range over the map: pre has come, rest is to come. -/
def Rng (w : World) (b r : Nat) (L pre rest : List (It (Cx 26))) : Prop :=
  ∃ (es : Array MapEntry) (clock : Nat) (seen : Array Nat) (c0 : Nat), w.heap[b]? = some (.map es clock) ∧ Stamped es clock ∧ w.heap[r]? = some (.mapIter (some b) clock seen c0) ∧ clock ≤ c0 ∧ (leftOf es seen).toList.map kvE = rest.map kvI ∧ (pre ++ rest).Perm L
theorem Rng.kept {w w' : World} {b r : Nat} {L pre rest : List (It (Cx 26))} (h : Rng w b r L pre rest) (hb : w'.heap[b]? = w.heap[b]?) (hr : w'.heap[r]? = w.heap[r]?) : Rng w' b r L pre rest := by
  obtain ⟨es, clock, seen, c0, h1, h2, h3, rest⟩ := h
  exact ⟨es, clock, seen, c0, hb.trans h1, h2, hr.trans h3, rest⟩
theorem Rng.walks {w w' : World} {b r : Nat} {L pre rest : List (It (Cx 26))} (h : Rng w b r L pre rest) (hk : KeepsWalks w w') : Rng w' b r L pre rest := by
  obtain ⟨es, clock, seen, c0, h1, h2, h3, rest⟩ := h
  exact ⟨es, clock, seen, c0, hk.same b _ h1 rfl, h2, hk.same r _ h3 rfl, rest⟩
theorem Rng.lt {w : World} {b r : Nat} {L pre rest : List (It (Cx 26))} (h : Rng w b r L pre rest) : b < w.heap.size ∧ r < w.heap.size ∧ r ≠ b := by
  obtain ⟨es, clock, seen, c0, h1, h2, h3, -⟩ := h
  refine ⟨(Array.getElem?_eq_some_iff.1 h1).1, (Array.getElem?_eq_some_iff.1 h3).1, ?_⟩
  rintro rfl
  rw [h1] at h3; cases h3
theorem Rng.alloc {w : World} {b r : Nat} {L pre rest : List (It (Cx 26))} (h : Rng w b r L pre rest) (o : Obj) : Rng (w.alloc o) b r L pre rest := h.kept (Below.heap_alloc w o b h.lt.1) (Below.heap_alloc w o r h.lt.2.1)
theorem Rng.walk {w : World} {b r : Nat} {L pre rest : List (It (Cx 26))} (h : Rng w b r L pre rest) : ∃ o : Obj, w.heap[r]? = some o ∧ o.isWalk = true := by
  obtain ⟨es, clock, seen, c0, h1, h2, h3, -⟩ := h
  exact ⟨_, h3, rfl⟩
theorem Rng.perm {w : World} {b r : Nat} {L pre rest : List (It (Cx 26))} (h : Rng w b r L pre rest) : (pre ++ rest).Perm L := by
  obtain ⟨es, clock, seen, c0, h1, h2, h3, h4, h5, h6⟩ := h
  exact h6
theorem Rng.left {w : World} {b r : Nat} {L pre rest : List (It (Cx 26))} (h : Rng w b r L pre rest) : w.rangeLeft b r = rest.length := by
  obtain ⟨es, clock, seen, c0, h1, h2, h3, h4, h5, -⟩ := h
  simp only [World.rangeLeft, h1, h3]
  have := congrArg List.length h5
  simpa using this
/-- 'range m'. -/
theorem Mp.range {w : World} {b : Nat} {S : List (It (Cx 26))} (h : Mp w b S) : ∃ (clock : Nat) (L : List (It (Cx 26))), (Instr.range 79 (.map (some b))).run Tryz.prog w = .ok (.pointer (some ⟨w.heap.size, 0, none⟩)) (w.alloc (.mapIter (some b) clock #[] clock)) ∧
    L.Perm S ∧ Rng (w.alloc (.mapIter (some b) clock #[] clock)) b w.heap.size L [] L := by
  have hlt := h.lt
  obtain ⟨es, clock, L, hb, hst, hL, hp, hS⟩ := h
  refine ⟨clock, L, run_range_map w 79 _ _ b es clock Tryz.underlying79 hb, hp, es, clock, #[], clock, ((MapKept.heap_alloc w _).2 b hlt).trans hb, hst, (MapKept.heap_alloc w _).1, Nat.le_refl _, ?_, List.Perm.refl _⟩
  have e0 : leftOf es #[] = es := Array.filter_eq_self.2 (by simp)
  rw [e0]; exact hL
/-- The step. -/
theorem Rng.next {w : World} {b r : Nat} {L pre rest : List (It (Cx 26))} (h : Rng w b r L pre rest) (ty : TypeId) :
    (rest = [] ∧ (Instr.next (.pointer (some ⟨r, 0, none⟩)) false ty).run Tryz.prog w = .ok (.tuple #[.bool false]) w) ∨
    ∃ (i : It (Cx 26)) (rest' : List (It (Cx 26))) (w' : World), (Instr.next (.pointer (some ⟨r, 0, none⟩)) false ty).run Tryz.prog w = .ok (.tuple #[.bool true, .agg (dotc i.r i.n), .agg (xc i)]) w' ∧
      (Instr.entry (.pointer (some ⟨r, 0, none⟩))).run Tryz.prog w' = .ok (.tuple #[.agg (dotc i.r i.n), .agg (xc i)]) w' ∧ Rng w' b r L (pre ++ [i]) rest' ∧ rest'.length < rest.length ∧ w.grownBy w' (some r) := by
  have hne := h.lt.2.2
  obtain ⟨es, clock, seen, c0, hb, hst, hr, hc, hL, hp⟩ := h
  obtain ⟨s1, s2, s3⟩ := hst
  rcases run_next_at (P := Tryz.prog) w ty r b clock c0 seen es clock hr hb s1 hc with ⟨h0, hrun⟩ | ⟨e, he, w1, hal, hrun⟩
  · refine .inl ⟨?_, hrun⟩
    have : (leftOf es seen).toList = [] := by
      have h2 : leftOf es seen = #[] := Array.eq_empty_of_size_eq_zero h0
      rw [h2]
    rw [this] at hL
    cases rest with
    | nil => rfl
    | cons a l => simp at hL
  · obtain ⟨j, hj⟩ := List.getElem?_of_mem he
    have hnd : ((leftOf es seen).toList.map (·.born)).Nodup := by
      unfold leftOf
      rw [Array.toList_filter]
      exact List.Nodup.sublist (List.Sublist.map _ List.filter_sublist) s2
    have hjL : (rest.map kvI)[j]? = some (kvE e) := by rw [← hL, List.getElem?_map, hj]; rfl
    rw [List.getElem?_map, Option.map_eq_some_iff] at hjL
    obtain ⟨i, hi, hkv⟩ := hjL
    have hk : e.key = .agg (dotc i.r i.n) := (congrArg Prod.fst hkv).symm
    have hv : e.val = .agg (xc i) := (congrArg Prod.snd hkv).symm
    have hr1 : w1.heap[r]? = some (.mapIter (some b) clock seen c0) := by rcases hal with rfl | rfl <;> exact hr
    have hb1 : w1.heap[b]? = some (.map es clock) := by rcases hal with rfl | rfl <;> exact hb
    have hset := MapKept.heap_set (o' := .mapIter (some b) clock (seen.push e.born) clock) hr1
    have hb' : (setBlock w1 r (.mapIter (some b) clock (seen.push e.born) clock)).heap[b]? = some (.map es clock) := (hset.2 b (fun e1 => hne e1.symm)).trans hb1
    refine .inr ⟨i, rest.eraseIdx j, _, by rw [← hk, ← hv]; exact hrun, by rw [← hk, ← hv]; exact run_entry_at _ r b clock seen es clock e hset.1 hb' (mem_left he).1 s2, ⟨es, clock, seen.push e.born, clock, hb', ⟨s1, s2, s3⟩, hset.1, Nat.le_refl _, ?_, ?_⟩, ?_, ?_⟩
    · rw [left_push, filter_born hnd hj, map_erase, hL, map_erase]
    · rw [List.append_assoc]
      refine List.Perm.trans (List.Perm.append_left pre ?_) hp
      exact (perm_erase hi).symm
    · have := (List.getElem?_eq_some_iff.1 hi).1
      rw [List.length_eraseIdx, if_pos this]; omega
    · rcases hal with rfl | rfl <;> exact ⟨rfl, rfl, rfl, by simp [setBlock], fun k _ hk => hset.2 k (fun e1 => hk (by rw [e1]))⟩

set_option maxHeartbeats 1000000 in
/-- What the iterator of maps.Values gives, whatever the loop's body does, so that it leaves maps and iterators alone. -/
theorem valuesf_in (n l Bm b : Nat) (S : List (It (Cx 26))) (hn : 1 ≤ n) (J Jx : List (It (Cx 26)) → World → Prop) (W : World)
    (hY : ∀ pre x W1, J pre W1 → pre.length < S.length → YieldAt Fence.wide (n - 1) Tryz.prog l #[.agg (xc x)] W1 fun e W' =>
      (e = .returned (.bool true) ∧ J (pre ++ [x]) W' ∧ KeepsWalks W1 W') ∨ (e = .returned (.bool false) ∧ Jx (pre ++ [x]) W'))
    (hJ : AbidesFrom W.heap.size J) (hm : W.cell? ⟨Bm, 0, none⟩ = some (.map (some b))) (hM : Mp W b S) (h0 : J [] W) :
    CallsIn Fence.wide n Tryz.prog 172 #[.func (.yield l) #[] #[], .pointer (some ⟨Bm, 0, none⟩)] W fun e W' => (∃ v, e = .returned v) ∧ ((∃ xs, xs.Perm S ∧ J xs W') ∨ (∃ pre, True ∧ Jx pre W')) := by
  obtain ⟨clock, L, hrun, hp, hR⟩ := hM.range
  have hlen := hp.length_eq
  have hJ0 := hJ [] W (W.alloc (.mapIter (some b) clock #[] clock)) none h0 (World.grownBy_alloc W _ none) (fun r e => by cases e)
  have hs0 : W.heap.size < (W.alloc (.mapIter (some b) clock #[] clock)).heap.size := by simp
  refine callsIn_of_wp Tryz.func172 rfl trivial ?_ rfl
  simp only [Tryz.ntmps172, List.size_toArray, List.length_cons, List.length_nil, Nat.reduceAdd, Nat.reduceSub, Array.replicate_succ, Array.replicate_zero, List.push_toArray, List.append_toArray, List.nil_append, List.cons_append]
  gi_wp2
  clear hrun hm
  gi_loopw [4] (fun _ wr => ∃ pre rest : List (It (Cx 26)), Rng wr b W.heap.size L pre rest ∧ J pre wr) (fun _ wr => wr.rangeLeft b W.heap.size)
  case atStart => exact ⟨[], L, hR, hJ0⟩
  case round =>
    clear hR hJ0
    obtain ⟨pre, rest, hR, hJs⟩ := hrel
    have hlr := hR.left
    rcases hR.next 0 with ⟨rfl, hnx⟩ | ⟨i, rest', w2, hnx, hen, hR2, hlt, hg2⟩
    · have hpm := hR.perm
      rw [List.append_nil] at hpm
      clear hY hlr
      gi_wp2
      go_end0
      exact ⟨⟨_, rfl⟩, .inl ⟨pre, hpm.trans hp, hJs⟩⟩
    · have hJ2 : J pre w2 := hJ pre wr w2 (some W.heap.size) hJs hg2 (fun r e => by cases e; exact ⟨Nat.le_refl _, hR.walk⟩)
      have hJ3 : J pre (w2.alloc (.cells (xc i) 112)) := hJ pre w2 _ none hJ2 (World.grownBy_alloc w2 _ none) (fun r e => by cases e)
      have hpl : pre.length < S.length := by
        have := hR2.perm.length_eq
        simp at this
        omega
      obtain ⟨fn, tmps, assign, body, hy, hRd⟩ := hY pre i _ hJ3 hpl
      have hR3 := hR2.alloc (.cells (xc i) 112)
      have HL : Hid _ := hlr
      have HR : Hid (Rng (w2.alloc (.cells (xc i) 112)) b W.heap.size L (pre ++ [i]) rest') := hR3
      have HT : Hid _ := hlt
      have hst := st_new w2 i
      have hld := ld_new w2 i
      clear hY hlr hR3 hJ2 hJ3 hg2 hR2 hR hJs hpl hlt
      gi_wp2_with (first
        | (refine wpListIn_storeR (ty := 112) (x := .tmp 4) (y := .tmp 10) (ad := ⟨w2.heap.size, 0, none⟩) (v := .agg (xc i)) (w' := w2.alloc (.cells (xc i) 112)) rfl rfl rfl rfl hst ?_)
        | (refine wpListIn_loadR (ty := 112) (x := .tmp 4) (ad := ⟨w2.heap.size, 0, none⟩) (v := .agg (xc i)) rfl rfl rfl hld ?_)
        | gi_in)
      refine hRd.mono ?_
      rintro e W3 (⟨rfl, hJ4, hk3⟩ | ⟨rfl, hJx⟩)
      · gi_wp2
        have hR4 := HR.out.walks hk3
        go_roundw
        case rel => exact ⟨pre ++ [i], rest', hR4, hJ4⟩
        case measure => rw [hR4.left, HL.out]; exact HT.out
      · gi_wp2
        refine bodyPost_ret (results_none rfl _ _ _) rfl ?_
        exact ⟨⟨_, rfl⟩, .inr ⟨pre ++ [i], trivial, hJx⟩⟩
theorem values_stops (n Bm b : Nat) (S : List (It (Cx 26))) (hn : 1 ≤ n) (w : World) (hBm : Bm < w.heap.size) (hm : w.cell? ⟨Bm, 0, none⟩ = some (.map (some b))) (hM : Mp w b S) :
    SeqStopsK Fence.wide n Tryz.prog 172 #[.pointer (some ⟨Bm, 0, none⟩)] (fun i : It (Cx 26) => #[.agg (xc i)]) KeepsWalks (fun xs => xs.Perm S) (fun _ => True) S.length w := fun l J Jx W hW hJ _ hY h0 =>
  valuesf_in n l Bm b S hn J Jx W hY hJ ((hW.cell (p := ⟨Bm, 0, none⟩) hBm).trans hm) (hM.below hW hM.lt) h0
end Go.Proofs.YtmlfekbmbnfkjabGreatDoor.E

/-
  Rows of items of the program's own: append, one item read out of the midst, what the sort leaves.
-/
namespace Go.Proofs.YtmlfekbmbnfkjabGreatDoor.E
set_option maxRecDepth 100000
set_option maxRecDepth 100000
open Go.RowKit

/-- What is known of a list's type and xs elements'. -/
structure El (T e : TypeId) (z : Array Value) (bt : Nat) : Prop where
  ht : Tryz.prog.underlying T = some (.slice e)
  hi : (Tryz.prog.info? e).map (fun i => (i.zero, i.size, i.bytes)) = some (some (.agg z), 28, bt)
  hz : z.size = 28
  hb : bt ≤ 512
/-- A row of the program's own. -/
abbrev Rw (e : TypeId) (w : World) (base : Nat) (v : Value) (S : List (It (Cx 26))) : Prop := w.ownsRow base e 28 v S.length (xs S)
theorem rw_nil (e : TypeId) (w : World) (base : Nat) : Rw e w base (.slice none 0 0) [] := World.ownsRow_nil w base _ _
theorem Rw.lower {e : TypeId} {w : World} {base b : Nat} {v : Value} {S : List (It (Cx 26))} (h : Rw e w base v S) (hb : b ≤ base) : Rw e w b v S := by
  refine ⟨h.1, ?_⟩
  rcases h.2 with hn | ⟨g, cap, cur, e, hbg, rest⟩
  · exact .inl hn
  · exact .inr ⟨g, cap, cur, e, Nat.le_trans hb hbg, rest⟩
theorem Rw.keep {e : TypeId} {w w' : World} {base : Nat} {v : Value} {S : List (It (Cx 26))} (h : Rw e w base v S) (hk : ∀ k, v.ownBlock = some k → w'.heap[k]? = w.heap[k]?) : Rw e w' base v S := by
  refine ⟨h.1, ?_⟩
  rcases h.2 with hn | ⟨g, cap, cur, rfl, hbg, hg, rest⟩
  · exact .inl hn
  · exact .inr ⟨g, cap, cur, rfl, hbg, by rw [hk g rfl]; exact hg, rest⟩
theorem Rw.below {e : TypeId} {w w' : World} {base B : Nat} {v : Value} {S : List (It (Cx 26))} (h : Rw e w base v S) (hb : Below B w w') (hB : w.heap.size ≤ B) : Rw e w' base v S :=
  h.keep fun k hk => hb.block k (by have := (h.lt k hk).2; omega)
/-- Which slice it is. -/
theorem Rw.val {e : TypeId} {w : World} {base : Nat} {v : Value} {S : List (It (Cx 26))} (h : Rw e w base v S) : ∃ ao cap, v = .slice ao S.length cap ∧ S.length ≤ cap ∧ cap ≤ maxLen := by
  rcases h.2 with ⟨rfl, h0⟩ | ⟨g, cap, cur, rfl, hbg, hg, hn, hc, rest⟩
  · exact ⟨none, 0, by rw [h0], by omega, Nat.zero_le _⟩
  · exact ⟨_, cap, rfl, hn, hc⟩
/-- One item of it. -/
theorem Rw.atx {e : TypeId} {w : World} {base : Nat} {v : Value} {S : List (It (Cx 26))} (h : Rw e w base v S) {k : Nat} (hk : k < S.length) : ∃ g cap i, v = .slice (some ⟨g, 0, none⟩) S.length cap ∧ S.length ≤ cap ∧ S[k]? = some i ∧ base ≤ g ∧ g < w.heap.size ∧
    w.rangeAt g (k * 28) (xl i) ∧ ∃ cur, w.heap[g]? = some (.cells cur e (0, 0)) := by
  obtain ⟨i, hi⟩ : ∃ i, S[k]? = some i := ⟨_, List.getElem?_eq_getElem hk⟩
  rcases h.2 with ⟨rfl, h0⟩ | ⟨g, cap, cur, rfl, hbg, hg, hn, hc, rest⟩
  · omega
  · have hc := fun j u hu => h.cells (g := g) rfl j u hu
    refine ⟨g, cap, i, rfl, hn, hi, hbg, (Array.getElem?_eq_some_iff.1 hg).1, fun j v hv => ?_, cur, hg⟩
    have := hc _ _ (xs_at k i hi j v hv)
    rw [Addr.add_mid, Nat.zero_add] at this
    exact this

/-- Items that lie at an address. -/
structure Ats (w : World) (ad : Addr) (F : List (It (Cx 26))) : Prop where
  cells : ∀ j u, (xs F)[j]? = some u → w.cell? (ad.add j) = some u
theorem app_new {T e : TypeId} {z : Array Value} {bt : Nat} (E : El T e z bt) {w : World} (base : Nat) (ty : TypeId) (i : TypeInfo) (hi : Tryz.prog.info? e = some i) (hz : i.zero = some (.agg z)) (hsize : i.size = 28) (hbytes : i.bytes = bt)
    (v : Value) (n : Nat) (xs : List Value) (hown : w.ownsRow base e 28 v n xs)
    (a : Addr) (m c : Nat) (news : List Value) (hl : news.length = m * 28) (hnews : ∀ j u, news[j]? = some u → w.cell? (a.add j) = some u) (h1 : ∀ u ∈ news, u.oneCell' = true)
    (hnm : n + m ≤ 1048576) (hm : 0 < m) (v' : Value) (w' : World) (hr : (Builtin.append_ #[T, T] ty #[v, .slice (some a) m c]).run Tryz.prog w = .ok v' w') :
    ∀ k, v'.ownBlock = some k → v.ownBlock = some k ∨ w.heap.size ≤ k := by
  intro k hk
  have ht := E.ht
  have hbt := E.hb
  have hown' := hown
  have hmul : (n + m) * bt ≤ 1048576 * 512 := Nat.mul_le_mul hnm hbt
  have hmul2 : m * bt ≤ 1048576 * 512 := Nat.mul_le_mul (by omega) hbt
  rcases hown.2 with ⟨rfl, rfl⟩ | ⟨g, cap, cur, rfl, hbg, hg, hnc, hcm, hcs, htake⟩
  · have h2 := run_append_nil (P := Tryz.prog) w T ty e i _ ht hi hz a m c news (by rw [hsize]; omega) hnews (by omega) (by omega) (by rw [hbytes]; omega)
    rw [h2] at hr
    simp only [Result.ok.injEq] at hr
    rw [← hr.1] at hk
    simp only [Value.ownBlock, Option.some.injEq] at hk
    right; omega
  · by_cases hroom : n + m ≤ cap
    · obtain ⟨w2, h2, -⟩ := run_append_fits (P := Tryz.prog) w base T ty e i 28 ht hi hsize g n cap xs hown' a m c news (by omega) hnews h1 hroom
      rw [h2] at hr
      simp only [Result.ok.injEq] at hr
      rw [← hr.1] at hk
      exact .inl hk
    · have h2 := run_append_grow (P := Tryz.prog) w T ty e i _ ht hi hz ⟨g, 0, none⟩ n cap xs (by rw [hsize]; exact hown.1) (hown'.cells (g := g) rfl) a m c news (by rw [hsize]; omega) hnews (by omega) (by omega) (growslice_fits (by omega) (by rw [hbytes]; omega))
      rw [h2] at hr
      simp only [Result.ok.injEq] at hr
      rw [← hr.1] at hk
      simp only [Value.ownBlock, Option.some.injEq] at hk
      right; omega
/-- What 'append' of one item does. -/
theorem run_app1 {T e : TypeId} {z : Array Value} {bt : Nat} (E : El T e z bt) {w : World} (ty : TypeId) (base : Nat) (v : Value) (S : List (It (Cx 26))) (hown : Rw e w base v S)
    (ad : Addr) (c : Nat) (i : It (Cx 26)) (hF : Ats w ad [i]) (hnm : S.length < 1048576) (hbase : base ≤ w.heap.size) :
    ∃ v' w', (Builtin.append_ #[T, T] ty #[v, .slice (some ad) 1 c]).run Tryz.prog w = .ok v' w' ∧ Rw e w' base v' (S ++ [i]) ∧ w.grownBy w' v.ownBlock ∧ (∀ k, v'.ownBlock = some k → v.ownBlock = some k ∨ w.heap.size ≤ k) := by
  obtain ⟨i0, hi, hz0, hz1, hz2⟩ := info_parts E.hi
  have hbt := E.hb
  have hmul : (S.length + 1) * bt ≤ 1048576 * 512 := Nat.mul_le_mul (by omega) hbt
  obtain ⟨v', w', hr, h2, h3, -⟩ := run_append_own (P := Tryz.prog) w base T ty e i0 (.agg z) 28 i0.bytes E.ht hi hz0 hz1 rfl E.hz (by omega) v S.length (xs S) hown ad 1 c (xs [i]) (xs_length [i]) hF.cells (xs_one [i]) (by unfold maxLen; omega) (by rw [hz2]; omega) hbase
  have h4 := app_new E base ty i0 hi hz0 hz1 hz2 v S.length (xs S) hown ad 1 c (xs [i]) (xs_length [i]) hF.cells (xs_one [i]) (by omega) (by omega) v' w' hr
  exact ⟨v', w', hr, by rw [Rw, xs_append, List.length_append]; exact h2, h3, h4⟩
/-- A list of one item. -/
theorem run_build1 {T e : TypeId} {z : Array Value} {bt : Nat} (E : El T e z bt) (w : World) (i : It (Cx 26)) : (Instr.buildSlice T 1 #[(0, .agg (xc i))]).run Tryz.prog w = .ok (.slice (some ⟨w.heap.size, 0, none⟩) 1 1) (w.alloc (.cells (xc i) e)) := by
  obtain ⟨i0, hi, hz0, hz1, hz2⟩ := info_parts E.hi
  have hz := E.hz
  refine run_buildSlice w T e 1 _ (xc i) i0 _ E.ht hi hz0 (by rw [hz1]; decide) (by rw [hz1]; decide) ?_
  rw [hz1]
  have := Great.fill_whole (s := 28) (by omega) [.agg (xc i)] ((Array.range (1 * 28)).map ((Value.agg z).cells[· % (Value.agg z).cells.size]!)) (by
    intro v hv
    rw [List.mem_singleton.1 hv]
    exact xc_size i) (by simp)
  refine Eq.trans this ?_
  simp [Value.cells]
theorem ats_new (w : World) (e : TypeId) (i : It (Cx 26)) : Ats (w.alloc (.cells (xc i) e)) ⟨w.heap.size, 0, none⟩ [i] := ⟨fun j u hu => by
  have e1 : xs [i] = xl i := by simp [xs]
  rw [e1] at hu
  rw [Addr.add_mid, Nat.zero_add, cell_of_row (w.alloc (.cells (xc i) e)) w.heap.size j _ _ _ (heap_alloc_new w _)]
  simpa [xc] using hu⟩
theorem ld_mid {w : World} {g off : Nat} {i : It (Cx 26)} (h : w.rangeAt g off (xl i)) : (loadVar 112 ⟨g, off, none⟩).run Tryz.prog w = .ok (.agg (xc i)) w :=
  run_loadVar_mid (P := Tryz.prog) w g off 112 _ _ h Tryz.underlying112 rfl (by rw [xl_length]; kernel_rfl)
theorem Rw.alloc {e : TypeId} {w : World} {base : Nat} {v : Value} {S : List (It (Cx 26))} (h : Rw e w base v S) (o : Obj) : Rw e (w.alloc o) base v S := h.below ((Below.refl _ w).alloc (Nat.le_refl _) o) (Nat.le_refl _)
end Go.Proofs.YtmlfekbmbnfkjabGreatDoor.E

