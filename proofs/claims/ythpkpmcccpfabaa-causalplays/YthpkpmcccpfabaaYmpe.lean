/-
  A bag's map in memory: one entry a thing, under its dot; what is stored, looked up, deleted.
-/
import Derived.Test.YthpkpmcccpfabaaYit
import Derived.Test.YthpkpmcccpfabaaYzre
import Derived.Maps.RangeRun
import Derived.OwnWalk
namespace Go.Proofs.Ythpkpmcccpfabaa.E
set_option maxRecDepth 100000
open Go.RowKit
open Go.ChangeMaps (setBlock heap_setBlock_same heap_setBlock_other)
open Go.MapKept (Stamped stamped_iff stamped_push stamped_modify stamped_erase stamped_empty)

def kvI (i : It (Cx 26)) : Value × Value := (.agg (dotc i.r i.n), .agg (xc i))
def kvE (e : MapEntry) : Value × Value := (e.key, e.val)
theorem dotc_inj {r n r' n' : Int} (h : (Value.agg (dotc r n)) = .agg (dotc r' n')) : r = r' ∧ n = n' := by
  simpa [dotc] using h

/-- A block is a map of these things. -/
def Mp (w : World) (b : Nat) (S : List (It (Cx 26))) : Prop :=
  ∃ (es : Array MapEntry) (clock : Nat) (L : List (It (Cx 26))), w.heap[b]? = some (.map es clock) ∧ Stamped es clock ∧ es.toList.map kvE = L.map kvI ∧ L.Perm S ∧ Srt S

theorem Mp.lt {w : World} {b : Nat} {S : List (It (Cx 26))} (h : Mp w b S) : b < w.heap.size := by
  obtain ⟨es, clock, L, hb, -⟩ := h
  exact (Array.getElem?_eq_some_iff.1 hb).1
theorem Mp.srt {w : World} {b : Nat} {S : List (It (Cx 26))} (h : Mp w b S) : Srt S := by
  obtain ⟨es, clock, L, -, -, -, -, hS⟩ := h
  exact hS
theorem Mp.kept {w w' : World} {b : Nat} {S : List (It (Cx 26))} (h : Mp w b S) (hk : w'.heap[b]? = w.heap[b]?) : Mp w' b S := by
  obtain ⟨es, clock, L, hb, rest⟩ := h
  exact ⟨es, clock, L, hk.trans hb, rest⟩
theorem Mp.below {w w' : World} {b B : Nat} {S : List (It (Cx 26))} (h : Mp w b S) (hb : Below B w w') (hB : b < B) : Mp w' b S := h.kept (hb.block b hB)
theorem Mp.alloc {w : World} {b : Nat} {S : List (It (Cx 26))} (h : Mp w b S) (o : Obj) : Mp (w.alloc o) b S := h.kept (Below.heap_alloc w o b h.lt)
theorem mp_new (w : World) : Mp (w.alloc (.map #[] 0)) w.heap.size [] :=
  ⟨#[], 0, [], MapKept.heap_alloc w _ |>.1, stamped_empty 0, rfl, List.Perm.refl _, Srt.nil⟩

theorem run_equal_dot (w : World) (r n r' n' : Int) : (Op.equal 38 (.agg (dotc r n)) (.agg (dotc r' n'))).run Try.prog w = .ok (decide (r = r' ∧ n = n')) w := run_equalIn_dot w 9998 r n r' n'
theorem run_checkKey_dot (w : World) (em : Bool) (r n : Int) : (Instr.checkKey em 10000 38 (.agg (dotc r n))).run Try.prog w = .ok () w := by kernel_rfl
theorem run_keyStays_dot (w : World) (r n : Int) : (Instr.keyThatStays (.agg (dotc r n)) (.agg (dotc r n))).run Try.prog w = .ok (.agg (dotc r n)) w := by
  simp [Instr.keyThatStays, Instr.sameBits, dotc]

theorem run_findAsking_dot (r n : Int) : ∀ (es : List MapEntry) (L : List (It (Cx 26))) (k : Nat), es.map kvE = L.map kvI →
    (find L r n = none ∧ ∀ w, (Instr.findAsking 38 (.agg (dotc r n)) es k).run Try.prog w = .ok none w) ∨
    ∃ j i, L[j]? = some i ∧ i.r = r ∧ i.n = n ∧ find L r n = some i ∧ ∀ w, (Instr.findAsking 38 (.agg (dotc r n)) es k).run Try.prog w = .ok (some (k + j, .agg (xc i))) w
  | [], [], k, _ => .inl ⟨rfl, fun w => by simp [Instr.findAsking]⟩
  | [], _ :: _, k, h => by simp at h
  | _ :: _, [], k, h => by simp at h
  | e :: es, i :: L, k, h => by
    simp only [List.map_cons, List.cons.injEq, kvE, kvI, Prod.mk.injEq] at h
    obtain ⟨⟨h1, h2⟩, h3⟩ := h
    have ih := run_findAsking_dot r n es L (k + 1) h3
    by_cases hd : r = i.r ∧ n = i.n
    · obtain ⟨rfl, rfl⟩ := hd
      refine .inr ⟨0, i, rfl, rfl, rfl, by simp [find, isAt], fun w => ?_⟩
      simp [Instr.findAsking, Sem.run_bind, h1, h2, run_equal_dot]
    · have hne : isAt r n i = false := by
        cases hh : isAt r n i
        · rfl
        · rw [isAt_iff] at hh; exact absurd ⟨hh.1.symm, hh.2.symm⟩ hd
      have hf : find (i :: L) r n = find L r n := by simp [find, hne]
      have hs : ∀ w, (Instr.findAsking 38 (.agg (dotc r n)) (e :: es) k).run Try.prog w = (Instr.findAsking 38 (.agg (dotc r n)) es (k + 1)).run Try.prog w := fun w => by
        simp [Instr.findAsking, Sem.run_bind, h1, run_equal_dot, hd]
      rw [hf]
      rcases ih with ⟨a, c⟩ | ⟨j, x, a, b, c, d, f⟩
      · exact .inl ⟨a, fun w => (hs w).trans (c w)⟩
      · exact .inr ⟨j + 1, x, a, b, c, d, fun w => by rw [hs w, f w, show k + 1 + j = k + (j + 1) by omega]⟩
theorem run_findKey_dot (r n : Int) (es : List MapEntry) (L : List (It (Cx 26))) (h : es.map kvE = L.map kvI) :
    (find L r n = none ∧ ∀ w, (Instr.findKey 38 (.agg (dotc r n)) es).run Try.prog w = .ok none w) ∨
    ∃ j i, L[j]? = some i ∧ i.r = r ∧ i.n = n ∧ find L r n = some i ∧ ∀ w, (Instr.findKey 38 (.agg (dotc r n)) es).run Try.prog w = .ok (some (j, .agg (xc i))) w := by
  cases es with
  | nil =>
    have hL : L = [] := by
      cases L with
      | nil => rfl
      | cons a L => simp at h
    subst hL
    exact .inl ⟨rfl, fun w => by simp [Instr.findKey, run_underlying Try.underlying38, Instr.findNow]⟩
  | cons e es =>
    have h0 := run_findAsking_dot r n (e :: es) L 0 h
    have hs : ∀ w, (Instr.findKey 38 (.agg (dotc r n)) (e :: es)).run Try.prog w = (Instr.findAsking 38 (.agg (dotc r n)) (e :: es) 0).run Try.prog w := fun w => by
      simp [Instr.findKey, Sem.run_bind, run_underlying Try.underlying38, Instr.findNow, Instr.sameNow]
    rcases h0 with ⟨a, c⟩ | ⟨j, i, a, b, c, d, f⟩
    · exact .inl ⟨a, fun w => (hs w).trans (c w)⟩
    · exact .inr ⟨j, i, a, b, c, d, fun w => by rw [hs w, f w, Nat.zero_add]⟩

theorem find_perm {L S : List (It (Cx 26))} (hp : L.Perm S) (hS : Srt S) (r n : Int) : find L r n = find S r n := by
  cases hf : find L r n with
  | none =>
    symm
    rw [find_none] at hf ⊢
    cases hh : hasD S r n
    · rfl
    · obtain ⟨i, hi, h1, h2⟩ := hasD_iff.1 hh
      have : hasD L r n = true := hasD_iff.2 ⟨i, hp.mem_iff.2 hi, h1, h2⟩
      rw [hf] at this; cases this
  | some i =>
    obtain ⟨hi, rfl, rfl⟩ := find_mem hf
    exact (find_some hS (hp.mem_iff.1 hi)).symm

/-- 'v, ok := m[d]'. -/
theorem Mp.lookup {w : World} {b : Nat} {S : List (It (Cx 26))} (h : Mp w b S) (r n : Int) :
    (Instr.lookup 30 (.map (some b)) (.agg (dotc r n)) true).run Try.prog w = .ok (.tuple #[.agg (xc ((find S r n).getD ⟨0, 0, zx⟩)), .bool (hasD S r n)]) w := by
  obtain ⟨es, clock, L, hb, hst, hL, hp, hS⟩ := h
  rw [hasD_find, ← find_perm hp hS]
  rcases run_findKey_dot r n es.toList L hL with ⟨h1, h2⟩ | ⟨j, i, h1, rfl, rfl, h2, h3⟩
  · simp [Instr.lookup, Sem.run_bind, run_underlying Try.underlying30, MapKept.run_getObj_map hb, run_checkKey_dot, h2, h1, Try.zeroValue74, zx_cells]
  · simp [Instr.lookup, Sem.run_bind, run_underlying Try.underlying30, MapKept.run_getObj_map hb, run_checkKey_dot, h3, h2]
theorem lookup_nil (w : World) (r n : Int) : (Instr.lookup 30 (.map none) (.agg (dotc r n)) true).run Try.prog w = .ok (.tuple #[.agg (xc ⟨0, 0, zx⟩), .bool false]) w := by
  rcases run_findKey_dot r n [] [] rfl with ⟨h1, h2⟩ | ⟨j, i, h1, _⟩
  · simp [Instr.lookup, Sem.run_bind, run_underlying Try.underlying30, run_checkKey_dot, h2, Try.zeroValue74, zx_cells]
  · simp at h1
/-- 'm[d] = Item{d, x}'. -/
theorem Mp.update {w : World} {b : Nat} {S : List (It (Cx 26))} (h : Mp w b S) (i : It (Cx 26)) :
    ∃ o : Obj, ∀ W : World, W.heap[b]? = w.heap[b]? → (Instr.mapUpdate 30 (.map (some b)) (.agg (dotc i.r i.n)) (.agg (xc i))).run Try.prog W = .ok () (setBlock W b o) ∧ Mp (setBlock W b o) b (put S i) := by
  obtain ⟨es, clock, L, hb0, hst, hL, hp, hS⟩ := h
  rw [hb0]
  have hkeys : ∀ x ∈ es.toList, ∃ j ∈ L, x.key = .agg (dotc j.r j.n) := fun x hx => by
    have : kvE x ∈ L.map kvI := by rw [← hL]; exact List.mem_map.2 ⟨x, hx, rfl⟩
    obtain ⟨j, hj, e⟩ := List.mem_map.1 this
    exact ⟨j, hj, (congrArg Prod.fst e).symm⟩
  rcases run_findKey_dot i.r i.n es.toList L hL with ⟨h1, h2⟩ | ⟨j, i0, h1, hr, hn, h2, h3⟩
  · have hno : ∀ x ∈ es.toList, x.key ≠ .agg (dotc i.r i.n) := fun x hx e => by
      obtain ⟨j, hj, e'⟩ := hkeys x hx
      rw [e'] at e
      obtain ⟨e1, e2⟩ := dotc_inj e
      rw [find_none] at h1
      have : hasD L i.r i.n = true := hasD_iff.2 ⟨j, hj, e1, e2⟩
      rw [h1] at this; cases this
    refine ⟨.map (es.push ⟨.agg (dotc i.r i.n), .agg (xc i), clock⟩) (clock + 1), fun w hb => ⟨?_, _, _, L ++ [i], heap_setBlock_same hb _, stamped_push hst hno, ?_, ?_, hS.put i⟩⟩
    · simp [Instr.mapUpdate, Sem.run_bind, run_underlying Try.underlying30, MapKept.run_getObj_map hb, run_checkKey_dot, h2, MapKept.run_setObj_map _ hb, setBlock]
    · rw [Array.toList_push, List.map_append, hL, List.map_append]; rfl
    · refine (List.perm_append_singleton i L).trans (((hp.cons i).trans ?_).trans (put_perm S i).symm)
      rw [del_of_not]
      rw [find_perm hp hS, find_none] at h1
      exact h1
  · have hkey : i0.r = i.r ∧ i0.n = i.n := ⟨hr, hn⟩
    have hjl : j < es.toList.length := by
      have h4 := (List.getElem?_eq_some_iff.1 h1).1
      have h5 := congrArg List.length hL
      simp only [List.length_map] at h5
      omega
    have hjs : j < es.size := by simpa using hjl
    obtain ⟨e0, he0⟩ : ∃ e0, es.toList[j]? = some e0 := ⟨_, List.getElem?_eq_getElem hjl⟩
    have hej : kvE e0 = kvI i0 := by
      have h4 : (es.toList.map kvE)[j]? = (L.map kvI)[j]? := by rw [hL]
      rw [List.getElem?_map, List.getElem?_map, h1, he0] at h4
      simpa using h4
    have hk0 : e0.key = .agg (dotc i.r i.n) := by
      have := congrArg Prod.fst hej
      simpa [kvE, kvI, hkey.1, hkey.2] using this
    have hj? : es[j]? = some e0 := by simpa using he0
    refine ⟨.map (es.modify j fun e => { e with key := .agg (dotc i.r i.n), val := .agg (xc i) }) clock, fun w hb => ⟨?_, _, _, L.set j i, heap_setBlock_same hb _, stamped_modify hst _ _ (fun _ _ => rfl) (fun e _ he => ?_), ?_, ?_, hS.put i⟩⟩
    · simp [Instr.mapUpdate, Sem.run_bind, run_underlying Try.underlying30, MapKept.run_getObj_map hb, run_checkKey_dot, h3, MapKept.run_setObj_map _ hb, setBlock, hj?, hk0, run_keyStays_dot]
    · rw [hj?] at he
      cases he
      exact hk0.symm
    · rw [Array.toList_modify]
      apply List.ext_getElem?
      intro m
      by_cases hm : m = j
      · subst hm
        rw [List.getElem?_map, List.getElem?_map, List.getElem?_modify_eq, he0, List.getElem?_set_self (List.getElem?_eq_some_iff.1 h1).1]
        rfl
      · rw [List.getElem?_map, List.getElem?_map, List.getElem?_modify, List.getElem?_set_ne (fun e => hm (Eq.symm e))]
        have h8 : (es.toList.map kvE)[m]? = (L.map kvI)[m]? := by rw [hL]
        have h9 : ¬ j = m := fun e => hm e.symm
        simpa [h9] using h8
    · have p1 : L.Perm (i0 :: L.eraseIdx j) := perm_erase h1
      have p2 : (L.set j i).Perm (i :: L.eraseIdx j) := perm_set h1
      refine p2.trans (List.Perm.trans ?_ (put_perm S i).symm)
      refine List.Perm.cons i ?_
      have p3 : (i0 :: L.eraseIdx j).Perm S := p1.symm.trans hp
      have p4 := p3.filter (fun x => !isAt i.r i.n x)
      rw [List.filter_cons_of_neg (by simp [isAt, hr, hn])] at p4
      refine List.Perm.trans (List.Perm.of_eq (List.filter_eq_self.2 fun x hx => ?_).symm) p4
      have ap : (i0 :: L.eraseIdx j).Pairwise fun a b => ¬ (a.r = b.r ∧ a.n = b.n) := (p3.symm.pairwise_iff (fun {a b} (hh : ¬ (a.r = b.r ∧ a.n = b.n)) e => hh ⟨e.1.symm, e.2.symm⟩)).1 hS.apart
      have := (List.pairwise_cons.1 ap).1 x hx
      cases hh : isAt i.r i.n x
      · rfl
      · rw [isAt_iff] at hh; exact absurd ⟨hr.trans hh.1.symm, hn.trans hh.2.symm⟩ this
/-- 'delete(m, d)'. -/
theorem Mp.delete {w : World} {b : Nat} {S : List (It (Cx 26))} (h : Mp w b S) (r n : Int) (ty : TypeId) :
    ∃ o : Obj, ∀ W : World, W.heap[b]? = w.heap[b]? → (Builtin.delete_ #[30, 38] ty #[.map (some b), .agg (dotc r n)]).run Try.prog W = .ok (.tuple #[]) (setBlock W b o) ∧ Mp (setBlock W b o) b (del S r n) := by
  obtain ⟨es, clock, L, hb0, hst, hL, hp, hS⟩ := h
  rw [hb0]
  rcases run_findKey_dot r n es.toList L hL with ⟨h1, h2⟩ | ⟨j, i0, h1, hr, hn, h2, h3⟩
  · refine ⟨.map es clock, fun w hb => ⟨?_, _, _, L, heap_setBlock_same hb _, hst, hL, ?_, hS.del r n⟩⟩
    · simp [Builtin.delete_, Sem.run_bind, run_underlying Try.underlying30, MapKept.run_getObj_map hb, run_checkKey_dot, h2, MapKept.run_setObj_map _ hb, setBlock]
    · rw [find_perm hp hS, find_none] at h1
      rw [del_of_not h1]; exact hp
  · have hjL := (List.getElem?_eq_some_iff.1 h1).1
    have hjl : j < es.toList.length := by
      have h5 := congrArg List.length hL
      simp only [List.length_map] at h5
      omega
    have hjs : j < es.size := by simpa using hjl
    have hsub : (es.eraseIdxIfInBounds j).toList = es.toList.eraseIdx j := by
      unfold Array.eraseIdxIfInBounds
      rw [dif_pos hjs]
      simp
    refine ⟨.map (es.eraseIdxIfInBounds j) clock, fun w hb => ⟨?_, _, _, L.eraseIdx j, heap_setBlock_same hb _, stamped_erase hst j, ?_, ?_, hS.del r n⟩⟩
    · simp [Builtin.delete_, Sem.run_bind, run_underlying Try.underlying30, MapKept.run_getObj_map hb, run_checkKey_dot, h3, MapKept.run_setObj_map _ hb, setBlock]
    · rw [hsub, map_erase, hL, map_erase]
    · have p1 : L.Perm (i0 :: L.eraseIdx j) := perm_erase h1
      have p3 : (i0 :: L.eraseIdx j).Perm S := p1.symm.trans hp
      have p4 := p3.filter (fun x => !isAt r n x)
      rw [List.filter_cons_of_neg (by simp [isAt, hr, hn])] at p4
      refine List.Perm.trans (List.Perm.of_eq (List.filter_eq_self.2 fun x hx => ?_).symm) p4
      have ap : (i0 :: L.eraseIdx j).Pairwise fun a b => ¬ (a.r = b.r ∧ a.n = b.n) := (p3.symm.pairwise_iff (fun {a b} (hh : ¬ (a.r = b.r ∧ a.n = b.n)) e => hh ⟨e.1.symm, e.2.symm⟩)).1 hS.apart
      have := (List.pairwise_cons.1 ap).1 x hx
      cases hh : isAt r n x
      · rfl
      · rw [isAt_iff] at hh; exact absurd ⟨hr.trans hh.1.symm, hn.trans hh.2.symm⟩ this
theorem delete_nil (w : World) (r n : Int) (ty : TypeId) : (Builtin.delete_ #[30, 38] ty #[.map none, .agg (dotc r n)]).run Try.prog w = .ok (.tuple #[]) w := by
  simp [Builtin.delete_, Sem.run_bind, run_underlying Try.underlying30, run_checkKey_dot]
theorem Mp.len {w : World} {b : Nat} {S : List (It (Cx 26))} (h : Mp w b S) (ty : TypeId) : (Builtin.len_ #[30] ty #[.map (some b)]).run Try.prog w = .ok (.int .i64 (S.length : Int)) w := by
  obtain ⟨es, clock, L, hb, hst, hL, hp, hS⟩ := h
  have h5 := congrArg List.length hL
  simp only [List.length_map, Array.length_toList] at h5
  simp [Builtin.len_, Sem.run_bind, run_underlying Try.underlying30, MapKept.run_getObj_map hb, goInt, h5, hp.length_eq]
theorem len_nil (w : World) (ty : TypeId) : (Builtin.len_ #[30] ty #[.map none]).run Try.prog w = .ok (.int .i64 0) w := by
  simp [Builtin.len_, Sem.run_bind, run_underlying Try.underlying30, goInt]
theorem grownBy_setBlock (w : World) (b : Nat) (o : Obj) : w.grownBy (setBlock w b o) (some b) :=
  ⟨rfl, rfl, rfl, by simp [setBlock], fun k _ hk => by
    have hne : b ≠ k := fun e => hk (by rw [e])
    simp [setBlock, hne]⟩
end Go.Proofs.Ythpkpmcccpfabaa.E
