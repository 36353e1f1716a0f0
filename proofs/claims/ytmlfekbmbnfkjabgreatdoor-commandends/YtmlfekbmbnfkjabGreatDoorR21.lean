/-
  A map from texts to pointers in memory: look-up, update, delete, range.
-/
import Derived.Test.YtmlfekbmbnfkjabGreatDoorR20
import Derived.Maps.RangeRun
namespace Go.Proofs.YtmlfekbmbnfkjabGreatDoor
set_option maxRecDepth 100000
open Go.RowKit
open Go.ChangeMaps (setBlock heap_setBlock_same heap_setBlock_other)
open Go.MapKept (Stamped stamped_iff stamped_push stamped_modify stamped_erase stamped_empty)

abbrev Key := List UInt8
def kvK (p : Key × Nat) : Value × Value := (.string (sb p.1), .pointer (some ⟨p.2, 0, none⟩))
def kvM (e : MapEntry) : Value × Value := (e.key, e.val)
/-- A block is a map of these. -/
def Mk (w : World) (b : Nat) (S : List (Key × Nat)) : Prop :=
  ∃ (es : Array MapEntry) (clock : Nat) (L : List (Key × Nat)), w.heap[b]? = some (.map es clock) ∧ Stamped es clock ∧ es.toList.map kvM = L.map kvK ∧ L.Perm S ∧ (S.map Prod.fst).Nodup
section
variable {w w' : World} {b : Nat} {S : List (Key × Nat)}
theorem Mk.lt (h : Mk w b S) : b < w.heap.size := by
  obtain ⟨es, clock, L, hb, -⟩ := h
  exact (Array.getElem?_eq_some_iff.1 hb).1
theorem Mk.blk (h : Mk w b S) : ∃ es c, w.heap[b]? = some (.map es c) := by
  obtain ⟨es, clock, L, hb, -⟩ := h
  exact ⟨es, clock, hb⟩
theorem Mk.nodup (h : Mk w b S) : (S.map Prod.fst).Nodup := by
  obtain ⟨es, clock, L, -, -, -, -, hn⟩ := h
  exact hn
theorem Mk.kept (h : Mk w b S) (hk : w'.heap[b]? = w.heap[b]?) : Mk w' b S := by
  obtain ⟨es, clock, L, hb, rest⟩ := h
  exact ⟨es, clock, L, hk.trans hb, rest⟩
end

theorem mk_new (w : World) : Mk (w.alloc (.map #[] 0)) w.heap.size [] :=
  ⟨#[], 0, [], MapKept.heap_alloc w _ |>.1, stamped_empty 0, rfl, List.Perm.refl _, by simp⟩
theorem sb_beq2 (s t : Key) : (sb s == sb t) = decide (s = t) := by
  show ((sb s).data == (sb t).data) = _
  rw [Bool.eq_iff_iff, decide_eq_true_iff, beq_iff_eq]
  constructor
  · intro h
    have := congrArg Array.toList h
    rwa [data_sb, data_sb] at this
  · rintro rfl; rfl
/-- What lies under a key. -/
def at? (S : List (Key × Nat)) (k : Key) : Option Nat := (S.find? fun p => decide (p.1 = k)).map Prod.snd
def ptr? : Option Nat → Value
  | none => .pointer none
  | some h => .pointer (some ⟨h, 0, none⟩)
theorem at_mem {S : List (Key × Nat)} {k : Key} {h : Nat} (ha : at? S k = some h) : (k, h) ∈ S := by
  unfold at? at ha
  cases hf : S.find? fun p => decide (p.1 = k) with
  | none => rw [hf] at ha; cases ha
  | some p =>
    rw [hf] at ha
    obtain rfl := Option.some.inj ha
    have h1 := List.find?_some hf
    have h2 := List.mem_of_find?_eq_some hf
    simp only [decide_eq_true_eq] at h1
    rw [← h1]
    exact h2
theorem at_none {S : List (Key × Nat)} {k : Key} (ha : at? S k = none) (h : Nat) : (k, h) ∉ S := by
  unfold at? at ha
  intro hm
  cases hf : S.find? fun p => decide (p.1 = k) with
  | none =>
    have := List.find?_eq_none.1 hf _ hm
    simp at this
  | some p => rw [hf] at ha; cases ha
theorem nodup_one {S : List (Key × Nat)} (hn : (S.map Prod.fst).Nodup) {k : Key} {h h' : Nat} (h1 : (k, h) ∈ S) (h2 : (k, h') ∈ S) : h = h' := by
  induction S with
  | nil => simp at h1
  | cons p S ih =>
    simp only [List.map_cons, List.nodup_cons] at hn
    rcases List.mem_cons.1 h1 with e1 | h1'
    · rcases List.mem_cons.1 h2 with e2 | h2'
      · rw [← e1] at e2; exact (Prod.mk.inj e2).2.symm
      · exact absurd (List.mem_map.2 ⟨_, h2', by rw [← e1]⟩) hn.1
    · rcases List.mem_cons.1 h2 with e2 | h2'
      · exact absurd (List.mem_map.2 ⟨_, h1', by rw [← e2]⟩) hn.1
      · exact ih hn.2 h1' h2'
theorem at_of_mem {S : List (Key × Nat)} (hn : (S.map Prod.fst).Nodup) {k : Key} {h : Nat} (hm : (k, h) ∈ S) : at? S k = some h := by
  cases ha : at? S k with
  | none => exact absurd hm (at_none ha h)
  | some h' => rw [nodup_one hn (at_mem ha) hm]
theorem at_perm {L S : List (Key × Nat)} (hp : L.Perm S) (hn : (S.map Prod.fst).Nodup) (k : Key) : at? L k = at? S k := by
  cases ha : at? L k with
  | none =>
    cases hb : at? S k with
    | none => rfl
    | some h => exact absurd (hp.mem_iff.2 (at_mem hb)) (at_none ha h)
  | some h => exact (at_of_mem hn (hp.mem_iff.1 (at_mem ha))).symm
theorem run_findNow_str (k : Key) : ∀ (es : List MapEntry) (L : List (Key × Nat)) (i : Nat), es.map kvM = L.map kvK →
    (at? L k = none ∧ Instr.findNow .string (.string (sb k)) es i = some none) ∨
    ∃ j h, L[j]? = some (k, h) ∧ at? L k = some h ∧ Instr.findNow .string (.string (sb k)) es i = some (some (i + j, .pointer (some ⟨h, 0, none⟩)))
  | [], [], i, _ => .inl ⟨rfl, rfl⟩
  | [], _ :: _, i, h => by simp at h
  | _ :: _, [], i, h => by simp at h
  | e :: es, p :: L, i, h => by
    simp only [List.map_cons, List.cons.injEq, kvM, kvK, Prod.mk.injEq] at h
    obtain ⟨⟨h1, h2⟩, h3⟩ := h
    have ih := run_findNow_str k es L (i + 1) h3
    have hs : Instr.sameNow .string (.string (sb k)) e.key = some (decide (k = p.1)) := by
      rw [h1]
      show some (sb k == sb p.1) = _
      rw [sb_beq2]
    by_cases hd : k = p.1
    · subst hd
      refine .inr ⟨0, p.2, rfl, by simp [at?], ?_⟩
      unfold Instr.findNow
      rw [hs, h2]
      simp
    · have hat : at? (p :: L) k = at? L k := by
        have : ¬ p.1 = k := fun e => hd e.symm
        simp [at?, this]
      have hf : Instr.findNow .string (.string (sb k)) (e :: es) i = Instr.findNow .string (.string (sb k)) es (i + 1) := by
        conv => lhs; unfold Instr.findNow
        rw [hs]
        simp [hd]
      rw [hat, hf]
      rcases ih with ih | ⟨j, h, a, c, d⟩
      · exact .inl ih
      · exact .inr ⟨j + 1, h, a, c, by rw [d, show i + 1 + j = i + (j + 1) by omega]⟩
theorem run_findKey_str (k : Key) (es : List MapEntry) (L : List (Key × Nat)) (h : es.map kvM = L.map kvK) :
    (at? L k = none ∧ ∀ w, (Instr.findKey 9 (.string (sb k)) es).run Tryz.prog w = .ok none w) ∨
    ∃ j h, L[j]? = some (k, h) ∧ at? L k = some h ∧ ∀ w, (Instr.findKey 9 (.string (sb k)) es).run Tryz.prog w = .ok (some (j, .pointer (some ⟨h, 0, none⟩))) w := by
  rcases run_findNow_str k es L 0 h with ⟨h1, h2⟩ | ⟨j, h', h1, h2, h3⟩
  · exact .inl ⟨h1, fun w => by simp [Instr.findKey, Sem.run_bind, run_underlying Tryz.underlying9, h2]⟩
  · exact .inr ⟨j, h', h1, h2, fun w => by simp [Instr.findKey, Sem.run_bind, run_underlying Tryz.underlying9, h3]⟩
theorem run_checkKey_str (w : World) (em : Bool) (k : Key) : (Instr.checkKey em 10000 9 (.string (sb k))).run Tryz.prog w = .ok () w := by kernel_rfl
theorem run_keyStays_str (w : World) (k : Key) : (Instr.keyThatStays (.string (sb k)) (.string (sb k))).run Tryz.prog w = .ok (.string (sb k)) w := by
  simp [Instr.keyThatStays, Instr.sameBits, bytes_self]
/-- 'm[k]'. -/
theorem Mk.lookup {w : World} {b : Nat} {S : List (Key × Nat)} (h : Mk w b S) (k : Key) :
    (Instr.lookup 56 (.map (some b)) (.string (sb k)) false).run Tryz.prog w = .ok (ptr? (at? S k)) w := by
  obtain ⟨es, clock, L, hb, hst, hL, hp, hS⟩ := h
  rw [← at_perm hp hS]
  rcases run_findKey_str k es.toList L hL with ⟨h1, h2⟩ | ⟨j, h', h1, h2, h3⟩
  · simp [Instr.lookup, Sem.run_bind, run_underlying Tryz.underlying56, MapKept.run_getObj_map hb, run_checkKey_str, h2, h1, Tryz.zeroValue76, ptr?]
  · simp [Instr.lookup, Sem.run_bind, run_underlying Tryz.underlying56, MapKept.run_getObj_map hb, run_checkKey_str, h3, h2, ptr?]
theorem look_nil (w : World) (k : Key) : (Instr.lookup 56 (.map none) (.string (sb k)) false).run Tryz.prog w = .ok (.pointer none) w := by
  rcases run_findKey_str k [] [] rfl with ⟨h1, h2⟩ | ⟨j, i, h1, _⟩
  · simp [Instr.lookup, Sem.run_bind, run_underlying Tryz.underlying56, run_checkKey_str, h2, Tryz.zeroValue76]
  · simp at h1
/-- The others. -/
def but (S : List (Key × Nat)) (k : Key) : List (Key × Nat) := S.filter fun p => !decide (p.1 = k)
theorem mem_but {S : List (Key × Nat)} {k : Key} {p : Key × Nat} : p ∈ but S k ↔ p ∈ S ∧ p.1 ≠ k := by simp [but]
theorem but_nodup {S : List (Key × Nat)} (hn : (S.map Prod.fst).Nodup) (k : Key) : ((but S k).map Prod.fst).Nodup :=
  List.Pairwise.sublist (List.Sublist.map _ List.filter_sublist) hn
theorem but_none {S : List (Key × Nat)} {k : Key} (ha : at? S k = none) : but S k = S := List.filter_eq_self.2 fun p hp => by
  by_cases e : p.1 = k
  · obtain ⟨q, x⟩ := p
    subst e
    exact absurd hp (at_none ha x)
  · simp [e]
theorem but_perm {L S : List (Key × Nat)} (hp : L.Perm S) (k : Key) : (but L k).Perm (but S k) := hp.filter _
theorem erase_but {L : List (Key × Nat)} (hn : (L.map Prod.fst).Nodup) {j : Nat} {k : Key} {h : Nat} (hj : L[j]? = some (k, h)) : L.eraseIdx j = but L k := by
  induction L generalizing j with
  | nil => simp at hj
  | cons p L ih =>
    simp only [List.map_cons, List.nodup_cons] at hn
    cases j with
    | zero =>
      obtain rfl : p = (k, h) := by simpa using hj
      have : but L k = L := List.filter_eq_self.2 fun q hq => by
        have : ¬ q.1 = k := fun e => hn.1 (List.mem_map.2 ⟨q, hq, e⟩)
        simp [this]
      simp only [List.eraseIdx_cons_zero]
      conv => rhs; unfold but
      simp only [List.filter_cons, decide_true, Bool.not_true, Bool.false_eq_true, if_false]
      exact this.symm
    | succ j =>
      have hj' : L[j]? = some (k, h) := by simpa using hj
      have hne : ¬ p.1 = k := fun e => hn.1 (List.mem_map.2 ⟨_, List.mem_of_getElem? hj', e.symm⟩)
      simp only [List.eraseIdx_cons_succ]
      rw [ih hn.2 hj']
      simp [but, hne]
theorem nodup_perm {L S : List (Key × Nat)} (hp : L.Perm S) (hn : (S.map Prod.fst).Nodup) : (L.map Prod.fst).Nodup := ((hp.map Prod.fst).nodup_iff).2 hn
/-- 'm[k] = p'. -/
theorem Mk.update {w : World} {b : Nat} {S : List (Key × Nat)} (h : Mk w b S) (k : Key) (x : Nat) :
    ∃ o : Obj, ∀ W : World, W.heap[b]? = w.heap[b]? → (Instr.mapUpdate 56 (.map (some b)) (.string (sb k)) (.pointer (some ⟨x, 0, none⟩))).run Tryz.prog W = .ok () (setBlock W b o) ∧ Mk (setBlock W b o) b ((k, x) :: but S k) := by
  obtain ⟨es, clock, L, hb0, hst, hL, hp, hS⟩ := h
  rw [hb0]
  have hnk : (((k, x) :: but S k).map Prod.fst).Nodup := by
    simp only [List.map_cons, List.nodup_cons]
    refine ⟨fun hm => ?_, but_nodup hS k⟩
    obtain ⟨p, hp1, hp2⟩ := List.mem_map.1 hm
    exact (mem_but.1 hp1).2 hp2
  have hkeys : ∀ y ∈ es.toList, ∃ p ∈ L, y.key = .string (sb p.1) := fun y hy => by
    have : kvM y ∈ L.map kvK := by rw [← hL]; exact List.mem_map.2 ⟨y, hy, rfl⟩
    obtain ⟨p, hp1, e⟩ := List.mem_map.1 this
    exact ⟨p, hp1, (congrArg Prod.fst e).symm⟩
  rcases run_findKey_str k es.toList L hL with ⟨h1, h2⟩ | ⟨j, h0, h1, h2, h3⟩
  · have hno : ∀ y ∈ es.toList, y.key ≠ .string (sb k) := fun y hy e => by
      obtain ⟨p, hp1, e'⟩ := hkeys y hy
      rw [e'] at e
      have : p.1 = k := sb_inj.1 (by simpa using e)
      exact at_none h1 p.2 (by rw [← this]; exact hp1)
    refine ⟨.map (es.push ⟨.string (sb k), .pointer (some ⟨x, 0, none⟩), clock⟩) (clock + 1), fun w hb => ⟨?_, _, _, L ++ [(k, x)], heap_setBlock_same hb _, stamped_push hst hno, ?_, ?_, hnk⟩⟩
    · simp [Instr.mapUpdate, Sem.run_bind, run_underlying Tryz.underlying56, MapKept.run_getObj_map hb, run_checkKey_str, h2, MapKept.run_setObj_map _ hb, setBlock]
    · rw [Array.toList_push, List.map_append, hL, List.map_append]; rfl
    · refine (List.perm_append_singleton (k, x) L).trans (List.Perm.cons _ ?_)
      rw [at_perm hp hS] at h1
      rw [but_none h1]
      exact hp
  · have hjl : j < es.toList.length := by
      have h4 := (List.getElem?_eq_some_iff.1 h1).1
      have h5 := congrArg List.length hL
      simp only [List.length_map] at h5
      omega
    have hjs : j < es.size := by simpa using hjl
    obtain ⟨e0, he0⟩ : ∃ e0, es.toList[j]? = some e0 := ⟨_, List.getElem?_eq_getElem hjl⟩
    have hk0 : e0.key = .string (sb k) := by
      have h4 : (es.toList.map kvM)[j]? = (L.map kvK)[j]? := by rw [hL]
      rw [List.getElem?_map, List.getElem?_map, h1, he0] at h4
      simp only [Option.map_some, Option.some.injEq, kvM, kvK, Prod.mk.injEq] at h4
      exact h4.1
    have hj? : es[j]? = some e0 := by simpa using he0
    refine ⟨.map (es.modify j fun e => { e with key := .string (sb k), val := .pointer (some ⟨x, 0, none⟩) }) clock, fun w hb => ⟨?_, _, _, L.set j (k, x), heap_setBlock_same hb _, stamped_modify hst _ _ (fun _ _ => rfl) (fun e _ he => ?_), ?_, ?_, hnk⟩⟩
    · simp [Instr.mapUpdate, Sem.run_bind, run_underlying Tryz.underlying56, MapKept.run_getObj_map hb, run_checkKey_str, h3, MapKept.run_setObj_map _ hb, setBlock, hj?, hk0, run_keyStays_str]
    · rw [hj?] at he
      cases he
      exact hk0.symm
    · rw [Array.toList_modify]
      apply List.ext_getElem?
      intro m
      by_cases hm : m = j
      · subst hm
        rw [List.getElem?_map, List.getElem?_map, List.getElem?_modify_eq, he0, List.getElem?_set_self (List.getElem?_eq_some_iff.1 h1).1]
        rfl
      · rw [List.getElem?_map, List.getElem?_map, List.getElem?_modify, List.getElem?_set_ne (fun e => hm (Eq.symm e))]
        have h8 : (es.toList.map kvM)[m]? = (L.map kvK)[m]? := by rw [hL]
        have h9 : ¬ j = m := fun e => hm e.symm
        simpa [h9] using h8
    · refine (perm_set h1).trans (List.Perm.cons _ ?_)
      rw [erase_but (nodup_perm hp hS) h1]
      exact but_perm hp k
theorem Mk.delete {w : World} {b : Nat} {S : List (Key × Nat)} (h : Mk w b S) (k : Key) (ty : TypeId) :
    ∃ o : Obj, ∀ W : World, W.heap[b]? = w.heap[b]? → (Builtin.delete_ #[56, 9] ty #[.map (some b), .string (sb k)]).run Tryz.prog W = .ok (.tuple #[]) (setBlock W b o) ∧ Mk (setBlock W b o) b (but S k) := by
  obtain ⟨es, clock, L, hb0, hst, hL, hp, hS⟩ := h
  rw [hb0]
  rcases run_findKey_str k es.toList L hL with ⟨h1, h2⟩ | ⟨j, h0, h1, h2, h3⟩
  · refine ⟨.map es clock, fun w hb => ⟨?_, _, _, L, heap_setBlock_same hb _, hst, hL, ?_, but_nodup hS k⟩⟩
    · simp [Builtin.delete_, Sem.run_bind, run_underlying Tryz.underlying56, MapKept.run_getObj_map hb, run_checkKey_str, h2, MapKept.run_setObj_map _ hb, setBlock]
    · rw [at_perm hp hS] at h1
      rw [but_none h1]; exact hp
  · have hjl : j < es.toList.length := by
      have h4 := (List.getElem?_eq_some_iff.1 h1).1
      have h5 := congrArg List.length hL
      simp only [List.length_map] at h5
      omega
    have hjs : j < es.size := by simpa using hjl
    have hsub : (es.eraseIdxIfInBounds j).toList = es.toList.eraseIdx j := by
      unfold Array.eraseIdxIfInBounds
      rw [dif_pos hjs]
      simp
    refine ⟨.map (es.eraseIdxIfInBounds j) clock, fun w hb => ⟨?_, _, _, L.eraseIdx j, heap_setBlock_same hb _, stamped_erase hst j, ?_, ?_, but_nodup hS k⟩⟩
    · simp [Builtin.delete_, Sem.run_bind, run_underlying Tryz.underlying56, MapKept.run_getObj_map hb, run_checkKey_str, h3, MapKept.run_setObj_map _ hb, setBlock]
    · rw [hsub, map_erase, hL, map_erase]
    · rw [erase_but (nodup_perm hp hS) h1]
      exact but_perm hp k
theorem del_nil (w : World) (k : Key) (ty : TypeId) : (Builtin.delete_ #[56, 9] ty #[.map none, .string (sb k)]).run Tryz.prog w = .ok (.tuple #[]) w := by
  simp [Builtin.delete_, Sem.run_bind, run_underlying Tryz.underlying56, run_checkKey_str]
end Go.Proofs.YtmlfekbmbnfkjabGreatDoor

/-
  A space in memory; what of comes to.
-/
namespace Go.Proofs.YtmlfekbmbnfkjabGreatDoor
set_option maxRecDepth 100000
open Go.RowKit
open Go.ChangeMaps (setBlock)

/-- What a space is. -/
structure St where
  seen : List Int
  time : Int
  L : List Ev
  DL : List Ed
def ofKeyD (k : Key) (DL : List Ed) : List Ed := DL.filter fun d => decide (d.push.key = k)
/-- Where it lies: its map, the keys' blocks and their maps, and which key a block belongs to. -/
structure Lay where
  km : Option Nat
  S : List (Key × Nat)
  m1 : Nat → Option Nat
  m2 : Nat → Option Nat
  own : Nat → Option Key
def spc (s : St) (km : Option Nat) : Array Value := ((s.seen.map (Value.int .i64)) ++ [Value.int .i64 s.time, Value.map km]).toArray
/-- A space lies there; but for one key, if x names it. -/
structure SpK (Y : Lay) (w : World) (g : Nat) (s : St) (x : Option Key) : Prop where
  blk : w.heap[g]? = some (.cells (spc s Y.km) 58 (0, 0))
  len : s.seen.length = 16
  map : (Y.km = none ∧ Y.S = []) ∨ ∃ b, Y.km = some b ∧ Mk w b Y.S
  ho : ∀ p ∈ Y.S, x ≠ some p.1 → Ho w p.2 (Y.m1 p.2) (Y.m2 p.2) (ofKeyE p.1 s.L) (ofKeyD p.1 s.DL)
  has : ∀ k, x ≠ some k → ((∃ h, (k, h) ∈ Y.S) ↔ (ofKeyE k s.L ≠ [] ∨ ofKeyD k s.DL ≠ []))
  og : Y.own g = none
  ob : ∀ b, Y.km = some b → Y.own b = none
  oh : ∀ p ∈ Y.S, x ≠ some p.1 → Y.own p.2 = some p.1 ∧ (∀ k, Y.m1 p.2 = some k → Y.own k = some p.1) ∧ (∀ k, Y.m2 p.2 = some k → Y.own k = some p.1)
  ol : ∀ k, Y.own k ≠ none → k < w.heap.size
  srL : SrE s.L
  srD : SrD s.DL
  wl : ∀ a ∈ s.L, Wide a
  wd : ∀ d ∈ s.DL, Wide d.push
/-- What a call may have turned. -/
structure Tm (g : Nat) (Y Y' : Lay) (w w' : World) : Prop where
  os : w'.os = w.os
  tape : w'.tape = w.tape
  output : w'.output = w.output
  size : w.heap.size ≤ w'.heap.size
  block : ∀ k, k < w.heap.size → k ≠ g → Y.km ≠ some k → Y.own k = none → w'.heap[k]? = w.heap[k]?
  km : ∀ k, Y'.km = some k → Y.km = some k ∨ w.heap.size ≤ k
  own : ∀ k, Y'.own k ≠ none → Y.own k ≠ none ∨ w.heap.size ≤ k
theorem Tm.refl (g : Nat) (Y : Lay) (w : World) : Tm g Y Y w w := ⟨rfl, rfl, rfl, Nat.le_refl _, fun _ _ _ _ _ => rfl, fun _ h => .inl h, fun _ h => .inl h⟩
theorem Tm.trans {g : Nat} {X Y Z : Lay} {a b c : World} (h : Tm g X Y a b) (k : Tm g Y Z b c) : Tm g X Z a c :=
  ⟨k.os.trans h.os, k.tape.trans h.tape, k.output.trans h.output, Nat.le_trans h.size k.size,
   fun i hi hg hm ho => (k.block i (Nat.lt_of_lt_of_le hi h.size) hg
      (fun e => by rcases h.km i e with q | q; · exact hm q
                   · omega)
      (by
        cases hy : Y.own i with
        | none => rfl
        | some key =>
          rcases h.own i (by rw [hy]; simp) with q | q
          · exact absurd ho q
          · omega)).trans (h.block i hi hg hm ho),
   fun i hi => by
    rcases k.km i hi with q | q
    · exact h.km i q
    · exact .inr (Nat.le_trans h.size q),
   fun i hi => by
    rcases k.own i hi with q | q
    · exact h.own i q
    · exact .inr (Nat.le_trans h.size q)⟩
theorem Tm.of_below {g : Nat} (Y : Lay) {w w' : World} (h : Below w.heap.size w w') : Tm g Y Y w w' :=
  ⟨h.os, h.tape, h.output, h.size, fun k hk _ _ _ => h.block k hk, fun _ e => .inl e, fun _ e => .inl e⟩
/-- All of it lies above B. -/
structure Above (B : Nat) (g : Nat) (Y : Lay) : Prop where
  g : B ≤ g
  km : ∀ k, Y.km = some k → B ≤ k
  own : ∀ k, Y.own k ≠ none → B ≤ k
theorem Tm.below {g B : Nat} {Y Y' : Lay} {w w' : World} (h : Tm g Y Y' w w') (ha : Above B g Y) (hB : B ≤ w.heap.size) : Below B w w' ∧ Above B g Y' := by
  refine ⟨⟨h.os, h.tape, h.output, h.size, fun k hk => h.block k (by omega) (by have := ha.g; omega) (fun e => by have := ha.km k e; omega) ?_⟩, ha.g, fun k hk => ?_, fun k hk => ?_⟩
  · cases hy : Y.own k with
    | none => rfl
    | some key => have := ha.own k (by rw [hy]; simp); omega
  · rcases h.km k hk with q | q
    · exact ha.km k q
    · omega
  · rcases h.own k hk with q | q
    · exact ha.own k q
    · omega
theorem Ho.kept {w w' : World} {h : Nat} {m1 m2 : Option Nat} {L : List Ev} {DL : List Ed} (k : Ho w h m1 m2 L DL) (hb : ∀ i, i < w.heap.size → (i = h ∨ m1 = some i ∨ m2 = some i) → w'.heap[i]? = w.heap[i]?) : Ho w' h m1 m2 L DL :=
  ⟨k.live.kept fun i hi ho => hb i hi (ho.elim .inl (fun e => .inr (.inl e))), k.dead.kept fun i hi ho => hb i hi (ho.elim .inl (fun e => .inr (.inr e))), k.ne, k.wl, k.wd⟩
section
variable {Y : Lay} {w w' : World} {g : Nat} {s : St} {x : Option Key}
theorem SpK.lt (h : SpK Y w g s x) : g < w.heap.size := (Array.getElem?_eq_some_iff.1 h.blk).1
theorem SpK.mlt (h : SpK Y w g s x) : ∀ b, Y.km = some b → b < w.heap.size ∧ b ≠ g := by
  intro b hb
  obtain ⟨b', e, hm⟩ := h.map.resolve_left (by rw [hb]; simp)
  rw [hb] at e
  obtain rfl := Option.some.inj e
  refine ⟨hm.lt, ?_⟩
  rintro rfl
  obtain ⟨es, c, hh⟩ := hm.blk
  rw [h.blk] at hh
  cases hh
theorem SpK.nodup (h : SpK Y w g s x) : (Y.S.map Prod.fst).Nodup := by
  rcases h.map with ⟨-, e⟩ | ⟨b, -, hm⟩
  · rw [e]; simp
  · exact hm.nodup
/-- What lies elsewhere plays no part. -/
theorem SpK.kept (h : SpK Y w g s x) (hb : ∀ k, k < w.heap.size → (k = g ∨ Y.km = some k ∨ Y.own k ≠ none) → w'.heap[k]? = w.heap[k]?) (hs : w.heap.size ≤ w'.heap.size) : SpK Y w' g s x := by
  refine ⟨by rw [hb g h.lt (.inl rfl)]; exact h.blk, h.len, ?_, fun p hp hx => (h.ho p hp hx).kept fun i hi ho => hb i hi (.inr (.inr ?_)), h.has, h.og, h.ob, h.oh, fun k hk => Nat.lt_of_lt_of_le (h.ol k hk) hs, h.srL, h.srD, h.wl, h.wd⟩
  · rcases h.map with hn | ⟨b, e, hm⟩
    · exact .inl hn
    · exact .inr ⟨b, e, hm.kept (hb b hm.lt (.inr (.inl e)))⟩
  · obtain ⟨h1, h2, h3⟩ := h.oh p hp hx
    rcases ho with rfl | ho | ho
    · rw [h1]; simp
    · rw [h2 i ho]; simp
    · rw [h3 i ho]; simp
theorem SpK.below (h : SpK Y w g s x) {B : Nat} (hb : Below B w w') (hB : w.heap.size ≤ B) : SpK Y w' g s x :=
  h.kept (fun k hk _ => hb.block k (by omega)) hb.size
theorem SpK.cell (h : SpK Y w g s x) (i : Nat) : w.cell? ⟨g, i, none⟩ = (spc s Y.km)[i]? := cell_of_row w g i _ _ _ h.blk
theorem SpK.c17 (h : SpK Y w g s x) : w.cell? ⟨g, 17, none⟩ = some (.map Y.km) := by
  rw [h.cell]
  unfold spc
  rw [List.getElem?_toArray, List.getElem?_append_right (by simp [h.len])]
  simp [h.len]
theorem SpK.c16 (h : SpK Y w g s x) : w.cell? ⟨g, 16, none⟩ = some (.int .i64 s.time) := by
  rw [h.cell]
  unfold spc
  rw [List.getElem?_toArray, List.getElem?_append_right (by simp [h.len])]
  simp [h.len]
theorem SpK.vec (h : SpK Y w g s x) : w.rangeAt g 0 (s.seen.map (Value.int .i64)) := fun j v hv => by
  rw [Nat.zero_add, h.cell]
  unfold spc
  rw [List.getElem?_toArray, List.getElem?_append_left (List.getElem?_eq_some_iff.1 hv).1]
  exact hv
theorem SpK.fz (h : SpK Y w g s x) (i : Nat) : w.frozen? ⟨g, i, none⟩ = false := frozen_of_row w g i _ _ h.blk
end

theorem load_seen {Y : Lay} {w : World} {g : Nat} {s : St} {x : Option Key} (h : SpK Y w g s x) : (loadVar 41 ⟨g, 0, none⟩).run Tryz.prog w = .ok (.agg (vals s.seen)) w :=
  run_loadVar_mid (P := Tryz.prog) w g 0 41 _ _ h.vec Tryz.underlying41 rfl (by rw [List.length_map, h.len]; kernel_rfl)
theorem neq_ptr (w : World) (ad : Addr) : (binOp .neq 76 (.pointer (some ad)) (.pointer none)).run Tryz.prog w = .ok (.bool true) w := by kernel_rfl
theorem neq_nil (w : World) : (binOp .neq 76 (.pointer none) (.pointer none)).run Tryz.prog w = .ok (.bool false) w := by kernel_rfl
theorem of_core (Y : Lay) (w : World) (g : Nat) (s : St) (x : Option Key) (key : Key) (h : SpK Y w g s x) :
    Calls Tryz.prog 34 #[.pointer (some ⟨g, 0, none⟩), .string (sb key)] w fun e w' => ∃ hb, e = .returned (.pointer (some ⟨hb, 0, none⟩)) ∧ ((at? Y.S key = some hb ∧ w' = w) ∨ (at? Y.S key = none ∧ hb = w.heap.size ∧ w' = w.alloc (.cells #[.map none, .map none] 86))) := by
  have hc := h.c17
  have hlk : (Instr.lookup 56 (.map Y.km) (.string (sb key)) false).run Tryz.prog w = .ok (ptr? (at? Y.S key)) w := by
    rcases h.map with ⟨e1, e2⟩ | ⟨b, e, hm⟩
    · rw [e1, e2]; exact look_nil w key
    · rw [e]; exact hm.lookup key
  cases ha : at? Y.S key with
  | none =>
    rw [ha] at hlk
    simp only [ptr?] at hlk
    have hn := neq_nil w
    clear h
    go_enter Tryz.func34, Tryz.ntmps34
    go_wp2
    go_ret
    exact ⟨_, rfl, .inr ⟨trivial, rfl, rfl⟩⟩
  | some hb =>
    rw [ha] at hlk
    simp only [ptr?] at hlk
    have hn := neq_ptr w ⟨hb, 0, none⟩
    clear h
    go_enter Tryz.func34, Tryz.ntmps34
    go_wp2
    go_ret
    exact ⟨hb, rfl, .inl ⟨rfl, rfl⟩⟩
end Go.Proofs.YtmlfekbmbnfkjabGreatDoor

/-
  What keep comes to.
-/
namespace Go.Proofs.YtmlfekbmbnfkjabGreatDoor
set_option maxRecDepth 100000
open Go.RowKit
open Go.ChangeMaps (setBlock heap_setBlock_same heap_setBlock_other)

/-- A key's block in hand. -/
structure Hand (Y : Lay) (w : World) (key : Key) (h : Nat) (m1 m2 : Option Nat) (L : List Ev) (DL : List Ed) : Prop where
  ho : Ho w h m1 m2 L DL
  oh : Y.own h = some key
  o1 : ∀ k, m1 = some k → Y.own k = some key
  o2 : ∀ k, m2 = some k → Y.own k = some key
  mem : ∀ h', (key, h') ∈ Y.S → h' = h
/-- The key's block lies under its key then. -/
def Lay.put (Y : Lay) (km : Option Nat) (key : Key) (h : Nat) (m1 m2 : Option Nat) : Lay :=
  { km := km, S := (key, h) :: but Y.S key, m1 := fun x => if x = h then m1 else Y.m1 x, m2 := fun x => if x = h then m2 else Y.m2 x, own := Y.own }
def Lay.drop (Y : Lay) (key : Key) : Lay := { Y with S := but Y.S key }
section
variable {Y : Lay} {w w' : World} {g : Nat} {s : St} {key : Key} {h : Nat} {m1 m2 : Option Nat}
theorem SpK.put_back (hS : SpK Y w g s (some key)) (hd : Hand Y w key h m1 m2 (ofKeyE key s.L) (ofKeyD key s.DL)) {b : Nat} (hne : ofKeyE key s.L ≠ [] ∨ ofKeyD key s.DL ≠ [])
    (hk : ∀ k, k < w.heap.size → Y.own k ≠ none → w'.heap[k]? = w.heap[k]?) (hs : w.heap.size ≤ w'.heap.size) (hg : w'.heap[g]? = some (.cells (spc s (some b)) 58 (0, 0))) (hm : Mk w' b ((key, h) :: but Y.S key)) (hb : Y.own b = none) :
    SpK (Y.put (some b) key h m1 m2) w' g s none := by
  have hoth : ∀ p ∈ but Y.S key, p ∈ Y.S ∧ some key ≠ some p.1 ∧ p.2 ≠ h := fun p hp => by
    obtain ⟨h1, h2⟩ := mem_but.1 hp
    refine ⟨h1, fun e => h2 (Option.some.inj e).symm, fun e => ?_⟩
    have := (hS.oh p h1 (fun e => h2 (Option.some.inj e).symm)).1
    rw [e, hd.oh] at this
    exact h2 (Option.some.inj this).symm
  refine ⟨hg, hS.len, .inr ⟨b, rfl, hm⟩, fun p hp _ => ?_, fun k _ => ?_, hS.og, fun b' e => ?_, fun p hp _ => ?_, fun k hk' => Nat.lt_of_lt_of_le (hS.ol k hk') hs, hS.srL, hS.srD, hS.wl, hS.wd⟩
  · rcases List.mem_cons.1 hp with rfl | hp'
    · simp only [Lay.put, if_true]
      refine hd.ho.kept fun i hi ho => hk i hi ?_
      rcases ho with rfl | ho | ho
      · rw [hd.oh]; simp
      · rw [hd.o1 i ho]; simp
      · rw [hd.o2 i ho]; simp
    · obtain ⟨h1, h2, h3⟩ := hoth p hp'
      simp only [Lay.put, if_neg h3]
      refine (hS.ho p h1 h2).kept fun i hi ho => hk i hi ?_
      obtain ⟨q1, q2, q3⟩ := hS.oh p h1 h2
      rcases ho with rfl | ho | ho
      · rw [q1]; simp
      · rw [q2 i ho]; simp
      · rw [q3 i ho]; simp
  · by_cases e : key = k
    · subst e
      exact ⟨fun _ => hne, fun _ => ⟨h, List.mem_cons_self ..⟩⟩
    · rw [← hS.has k (fun e' => e (Option.some.inj e'))]
      constructor
      · rintro ⟨h', hm'⟩
        rcases List.mem_cons.1 hm' with e' | hm''
        · exact absurd (Prod.mk.inj e').1.symm e
        · exact ⟨h', (mem_but.1 hm'').1⟩
      · rintro ⟨h', hm'⟩
        exact ⟨h', List.mem_cons_of_mem _ (mem_but.2 ⟨hm', fun e' => e e'.symm⟩)⟩
  · obtain rfl := Option.some.inj e
    exact hb
  · rcases List.mem_cons.1 hp with rfl | hp'
    · simp only [Lay.put, if_true]
      exact ⟨hd.oh, hd.o1, hd.o2⟩
    · obtain ⟨h1, h2, h3⟩ := hoth p hp'
      simp only [Lay.put, if_neg h3]
      exact hS.oh p h1 h2
theorem SpK.let_go (hS : SpK Y w g s (some key)) (hne : ofKeyE key s.L = [] ∧ ofKeyD key s.DL = [])
    (hk : ∀ k, k < w.heap.size → Y.own k ≠ none → w'.heap[k]? = w.heap[k]?) (hs : w.heap.size ≤ w'.heap.size) (hg : w'.heap[g]? = w.heap[g]?) (hm : ∀ b, Y.km = some b → Mk w' b (but Y.S key)) :
    SpK (Y.drop key) w' g s none := by
  refine ⟨hg.trans hS.blk, hS.len, ?_, fun p hp _ => ?_, fun k _ => ?_, hS.og, hS.ob, fun p hp _ => ?_, fun k hk' => Nat.lt_of_lt_of_le (hS.ol k hk') hs, hS.srL, hS.srD, hS.wl, hS.wd⟩
  · rcases hS.map with ⟨e1, e2⟩ | ⟨b, e, hm'⟩
    · exact .inl ⟨e1, by show but Y.S key = []; rw [e2]; rfl⟩
    · exact .inr ⟨b, e, hm b e⟩
  · obtain ⟨h1, h2⟩ := mem_but.1 hp
    have h2' : some key ≠ some p.1 := fun e => h2 (Option.some.inj e).symm
    refine (hS.ho p h1 h2').kept fun i hi ho => hk i hi ?_
    obtain ⟨q1, q2, q3⟩ := hS.oh p h1 h2'
    rcases ho with rfl | ho | ho
    · rw [q1]; simp
    · rw [q2 i ho]; simp
    · rw [q3 i ho]; simp
  · by_cases e : key = k
    · subst e
      constructor
      · rintro ⟨h', hm'⟩
        exact absurd rfl (mem_but.1 hm').2
      · rintro (h' | h')
        · exact absurd hne.1 h'
        · exact absurd hne.2 h'
    · rw [← hS.has k (fun e' => e (Option.some.inj e'))]
      constructor
      · rintro ⟨h', hm'⟩
        exact ⟨h', (mem_but.1 hm').1⟩
      · rintro ⟨h', hm'⟩
        exact ⟨h', mem_but.2 ⟨hm', fun e' => e e'.symm⟩⟩
  · obtain ⟨h1, h2⟩ := mem_but.1 hp
    exact hS.oh p h1 (fun e => h2 (Option.some.inj e).symm)
end

theorem eql_km_some (w : World) (b : Nat) : (binOp .eql 56 (.map (some b)) (.map none)).run Tryz.prog w = .ok (.bool false) w := by kernel_rfl
theorem eql_km_none (w : World) : (binOp .eql 56 (.map none) (.map none)).run Tryz.prog w = .ok (.bool true) w := by kernel_rfl
theorem spc_set {s : St} (hl : s.seen.length = 16) (km km' : Option Nat) : (spc s km).setIfInBounds 17 (.map km') = spc s km' := by
  unfold spc
  rw [List.setIfInBounds_toArray, List.set_append_right _ _ (by simp [hl])]
  simp [hl]
set_option maxHeartbeats 1000000 in
theorem keep_any (Y : Lay) (w : World) (g : Nat) (s : St) (key : Key) (h : Nat) (m1 m2 : Option Nat) (hS : SpK Y w g s (some key)) (hd : Hand Y w key h m1 m2 (ofKeyE key s.L) (ofKeyD key s.DL)) :
    Calls Tryz.prog 38 #[.pointer (some ⟨g, 0, none⟩), .string (sb key), .pointer (some ⟨h, 0, none⟩)] w fun e w' => e = .returned (.tuple #[]) ∧ ∃ Y', SpK Y' w' g s none ∧ Tm g Y Y' w w' := by
  have hL := E.len_any h 0 #[.map m1, .map m2] 86 m1 _ w hd.ho.live
  have hD := D.len_any h 1 #[.map m1, .map m2] 86 m2 _ w hd.ho.dead
  rw [List.length_map] at hL hD
  have hc := hS.c17
  have hown : ∀ b, Y.km = some b → ∀ k, Y.own k ≠ none → k ≠ b := fun b hb k hk e => by rw [e, hS.ob b hb] at hk; exact hk rfl
  by_cases hemp : ofKeyE key s.L = [] ∧ ofKeyD key s.DL = []
  · rw [hemp.1] at hL
    rw [hemp.2] at hD
    simp only [List.length_nil] at hL hD
    obtain ⟨w2, hdel, hfin⟩ : ∃ w2, (Builtin.delete_ #[56, 9] 0 #[.map Y.km, .string (sb key)]).run Tryz.prog w = .ok (.tuple #[]) w2 ∧ SpK (Y.drop key) w2 g s none ∧ Tm g Y (Y.drop key) w w2 := by
      rcases hS.map with ⟨e1, e2⟩ | ⟨b, e, hm⟩
      · rw [e1]
        refine ⟨w, del_nil w key 0, hS.let_go hemp (fun _ _ _ => rfl) (Nat.le_refl _) rfl (fun b e => by rw [e1] at e; cases e), rfl, rfl, rfl, Nat.le_refl _, fun _ _ _ _ _ => rfl, fun _ e => .inl e, fun _ e => .inl e⟩
      · obtain ⟨ob, ho⟩ := hm.delete key 0
        obtain ⟨hr, hm'⟩ := ho w rfl
        have hbl : ∀ k, k < w.heap.size → k ≠ b → (setBlock w b ob).heap[k]? = w.heap[k]? := fun k hk hne => (E.grownBy_setBlock w b ob).block k hk (fun e => hne (Option.some.inj e))
        rw [e]
        refine ⟨_, hr, hS.let_go hemp (fun k hk ho' => hbl k hk (hown b e k ho')) (by simp [setBlock]) (hbl g hS.lt (hS.mlt b e).2.symm) (fun b' e' => by rw [e] at e'; obtain rfl := Option.some.inj e'; exact hm'), rfl, rfl, rfl, by simp [setBlock], fun k hk _ hkm _ => hbl k hk (fun e' => hkm (by rw [e, e'])), fun _ e => .inl e, fun _ e => .inl e⟩
    have FIN : Hid _ := hfin
    clear hS hd hfin hown
    go_enter Tryz.func38, Tryz.ntmps38
    go_wp2_with fail
    refine Calls.mono hL ?_
    rintro e w3 ⟨rfl, hw3⟩
    obtain rfl := hw3.symm
    go_wp2_with fail
    refine Calls.mono hD ?_
    rintro e w3 ⟨rfl, hw3⟩
    obtain rfl := hw3.symm
    go_wp2
    refine bodyPost_ret (results_none rfl _ _ _) rfl ?_
    exact ⟨rfl, _, FIN.out⟩
  · have hne : ofKeyE key s.L ≠ [] ∨ ofKeyD key s.DL ≠ [] := by
      by_cases h1 : ofKeyE key s.L = []
      · exact .inr fun h2 => hemp ⟨h1, h2⟩
      · exact .inl h1
    have hcase : ((ofKeyE key s.L).length ≠ 0) ∨ ((ofKeyE key s.L).length = 0 ∧ (ofKeyD key s.DL).length ≠ 0) := by
      rcases hne with h1 | h1
      · exact .inl fun e => h1 (List.eq_nil_of_length_eq_zero e)
      · by_cases h2 : (ofKeyE key s.L).length = 0
        · exact .inr ⟨h2, fun e => h1 (List.eq_nil_of_length_eq_zero e)⟩
        · exact .inl h2
    generalize (ofKeyE key s.L).length = n1 at *
    generalize (ofKeyD key s.DL).length = n2 at *
    rcases hS.map with ⟨e1, e2⟩ | ⟨b, e, hm⟩
    · have hfr := hS.fz 17
      rw [e1] at hc
      have hac : (w.alloc (.map #[] 0)).cell? ⟨g, 17, none⟩ = some (.map none) := (Below.cell ((Below.refl _ w).alloc (Nat.le_refl _) _) hS.lt).trans hc
      have hblk : (w.alloc (.map #[] 0)).heap[g]? = some (.cells (spc s none) 58 (0, 0)) := by rw [Below.heap_alloc w _ g hS.lt, hS.blk, e1]
      have haf : (w.alloc (.map #[] 0)).frozen? ⟨g, 17, none⟩ = false := frozen_of_row _ g 17 _ _ hblk
      have hmk := run_makeMap (P := Tryz.prog) (w := w)
      have hg1 : ((w.alloc (.map #[] 0)).setCell ⟨g, 17, none⟩ (.map (some w.heap.size))).heap[g]? = some (.cells (spc s (some w.heap.size)) 58 (0, 0)) := by
        rw [heap_setCell_same _ g 17 _ _ _ hblk, spc_set hS.len]
      have hc1 : ((w.alloc (.map #[] 0)).setCell ⟨g, 17, none⟩ (.map (some w.heap.size))).cell? ⟨g, 17, none⟩ = some (.map (some w.heap.size)) := by
        rw [cell_of_row _ g 17 _ _ _ hg1]
        unfold spc
        rw [List.getElem?_toArray, List.getElem?_append_right (by simp [hS.len])]
        simp [hS.len]
      have hm1 : Mk ((w.alloc (.map #[] 0)).setCell ⟨g, 17, none⟩ (.map (some w.heap.size))) w.heap.size [] := (mk_new w).kept (Below.heap_setCell _ _ _ _ (show w.heap.size ≠ g by have := hS.lt; omega))
      have hbl1 : ∀ k, k < w.heap.size → k ≠ g → ((w.alloc (.map #[] 0)).setCell ⟨g, 17, none⟩ (.map (some w.heap.size))).heap[k]? = w.heap[k]? := fun k hk hne' => by
        rw [Below.heap_setCell _ _ _ k hne', Below.heap_alloc w _ k hk]
      have hs1 : ((w.alloc (.map #[] 0)).setCell ⟨g, 17, none⟩ (.map (some w.heap.size))).heap.size = w.heap.size + 1 := by simp [World.setCell]
      have ho1 : ((w.alloc (.map #[] 0)).setCell ⟨g, 17, none⟩ (.map (some w.heap.size))).os = w.os ∧ ((w.alloc (.map #[] 0)).setCell ⟨g, 17, none⟩ (.map (some w.heap.size))).tape = w.tape ∧ ((w.alloc (.map #[] 0)).setCell ⟨g, 17, none⟩ (.map (some w.heap.size))).output = w.output := ⟨rfl, rfl, rfl⟩
      obtain ⟨W1, hW1⟩ : ∃ W1, (w.alloc (.map #[] 0)).setCell ⟨g, 17, none⟩ (.map (some w.heap.size)) = W1 := ⟨_, rfl⟩
      rw [hW1] at hg1 hc1 hm1 hbl1 hs1 ho1
      obtain ⟨ob, ho⟩ := hm1.update key h
      obtain ⟨hu, hm2⟩ := ho W1 rfl
      have hbl2 : ∀ k, k < W1.heap.size → k ≠ w.heap.size → (setBlock W1 w.heap.size ob).heap[k]? = W1.heap[k]? := fun k hk hne' => (E.grownBy_setBlock W1 _ ob).block k hk (fun e => hne' (Option.some.inj e))
      have hgne : ∀ k, Y.own k ≠ none → k ≠ g := fun k hk e => by rw [e, hS.og] at hk; exact hk rfl
      have hz : but Y.S key = [] := by rw [e2]; rfl
      have hob : Y.own w.heap.size = none := by
        cases hy : Y.own w.heap.size with
        | none => rfl
        | some q => have := hS.ol w.heap.size (by rw [hy]; simp); omega
      have FIN : Hid (SpK (Y.put (some w.heap.size) key h m1 m2) (setBlock W1 w.heap.size ob) g s none ∧ Tm g Y (Y.put (some w.heap.size) key h m1 m2) w (setBlock W1 w.heap.size ob)) := by
        refine ⟨hS.put_back hd hne (fun k hk hk2 => (hbl2 k (by omega) (by omega)).trans (hbl1 k hk (hgne k hk2))) (by simp [setBlock]; omega) ((hbl2 g (by have := hS.lt; omega) (by have := hS.lt; omega)).trans hg1) (by rw [hz]; exact hm2) hob, ho1.1, ho1.2.1, ho1.2.2, by simp [setBlock]; omega, fun k hk hkg _ _ => (hbl2 k (by omega) (by omega)).trans (hbl1 k hk hkg), fun k e => .inr (by have := Option.some.inj e; omega), fun _ e => .inl e⟩
      have he := eql_km_none w
      clear ho hm1 hm2 hbl1 hbl2 hgne hob hS hd hown hblk hg1 hs1 ho1 hz hne
      rcases hcase with h1 | ⟨h1, h2⟩
      · have hn : ((n1 : Int) == 0) = false := by simpa using h1
        go_enter Tryz.func38, Tryz.ntmps38
        go_wp2_with fail
        refine Calls.mono hL ?_
        rintro e w3 ⟨rfl, hw3⟩
        obtain rfl := hw3.symm
        go_wp2
        go_end0
        exact ⟨rfl, _, FIN.out⟩
      · subst h1
        have hn : ((n2 : Int) == 0) = false := by simpa using h2
        go_enter Tryz.func38, Tryz.ntmps38
        go_wp2_with fail
        refine Calls.mono hL ?_
        rintro e w3 ⟨rfl, hw3⟩
        obtain rfl := hw3.symm
        go_wp2_with fail
        refine Calls.mono hD ?_
        rintro e w3 ⟨rfl, hw3⟩
        obtain rfl := hw3.symm
        go_wp2
        go_end0
        exact ⟨rfl, _, FIN.out⟩
    · rw [e] at hc
      obtain ⟨ob, ho⟩ := hm.update key h
      obtain ⟨hu, hm2⟩ := ho w rfl
      have hbl2 : ∀ k, k < w.heap.size → k ≠ b → (setBlock w b ob).heap[k]? = w.heap[k]? := fun k hk hne' => (E.grownBy_setBlock w _ ob).block k hk (fun e => hne' (Option.some.inj e))
      have FIN : Hid (SpK (Y.put (some b) key h m1 m2) (setBlock w b ob) g s none ∧ Tm g Y (Y.put (some b) key h m1 m2) w (setBlock w b ob)) := by
        refine ⟨hS.put_back hd hne (fun k hk hk2 => hbl2 k hk (hown b e k hk2)) (by simp [setBlock]) (by rw [hbl2 g hS.lt (hS.mlt b e).2.symm, hS.blk, e]) hm2 (hS.ob b e), rfl, rfl, rfl, by simp [setBlock], fun k hk _ hkm _ => hbl2 k hk (fun e' => hkm (by rw [e, e'])), fun k e' => .inl (by rw [e]; exact e'), fun _ e => .inl e⟩
      have he := eql_km_some w b
      clear ho hm2 hbl2 hS hd hown hne hm
      rcases hcase with h1 | ⟨h1, h2⟩
      · have hn : ((n1 : Int) == 0) = false := by simpa using h1
        go_enter Tryz.func38, Tryz.ntmps38
        go_wp2_with fail
        refine Calls.mono hL ?_
        rintro e w3 ⟨rfl, hw3⟩
        obtain rfl := hw3.symm
        go_wp2
        go_end0
        exact ⟨rfl, _, FIN.out⟩
      · subst h1
        have hn : ((n2 : Int) == 0) = false := by simpa using h2
        go_enter Tryz.func38, Tryz.ntmps38
        go_wp2_with fail
        refine Calls.mono hL ?_
        rintro e w3 ⟨rfl, hw3⟩
        obtain rfl := hw3.symm
        go_wp2_with fail
        refine Calls.mono hD ?_
        rintro e w3 ⟨rfl, hw3⟩
        obtain rfl := hw3.symm
        go_wp2
        go_end0
        exact ⟨rfl, _, FIN.out⟩
end Go.Proofs.YtmlfekbmbnfkjabGreatDoor

