/-
  What Encode comes to: an event's bytes, if it can be.
-/
import Derived.Test.YtmlfekbmbnfkjabGreatDoorR26
import Derived.Test.YtmlfekbmbnfkjabGreatDoorR25
import Derived.Test.YtmlfekbmbnfkjabGreatDoorR09
import Derived.Laws.OwnMore
import Derived.Laws.AppendOwnNone
import Derived.Test.YtmlfekbmbnfkjabGreatDoorR21
import Derived.Test.YtmlfekbmbnfkjabGreatDoorR22
import Derived.Test.YtmlfekbmbnfkjabGreatDoorR17
import Derived.Test.YtmlfekbmbnfkjabGreatDoorR16
import Derived.Test.YtmlfekbmbnfkjabGreatDoorR18
import Derived.Test.YtmlfekbmbnfkjabGreatDoorR14
import Derived.Maps.Range
import Derived.Great.BuildSlice
import Derived.Deep.MidRow
import Derived.Test.YtmlfekbmbnfkjabGreatDoorProg
import Derived.Shelf.SlSortCmp.WholeK
namespace Go.Proofs.YtmlfekbmbnfkjabGreatDoor
set_option maxRecDepth 100000
open Go.RowKit

theorem okev_parts {e : Ev} (h : okev e = true) : placeE e = true ∧ 0 ≤ e.t ∧ e.t ≤ 1152921504606846975 ∧ iskindE e.kind = true ∧ e.key ≠ [] ∧ textsE e = true ∧ numE e.num = true ∧ sameO e (used e) = true ∧ refE e = true := by
  simp only [okev, opE, Bool.and_eq_true, decide_eq_true_eq] at h
  obtain ⟨h1, h2, h3, ⟨h4, h5, h6, h7, h8⟩, h9⟩ := h
  exact ⟨h1, h2, h3, h4, h5, h6, h7, h8, h9⟩
end Go.Proofs.YtmlfekbmbnfkjabGreatDoor

/-
  What putNumber and putEvent of a space's text come to.
-/
namespace Go.Proofs.YtmlfekbmbnfkjabGreatDoor
set_option maxRecDepth 100000
open Go.RowKit

/-- A list of bytes of the program's own. -/
abbrev BR (w : World) (base : Nat) (v : Value) (l : List UInt8) : Prop := w.ownsRow base 5 1 v l.length (bs l)
theorem BR.val {w : World} {base : Nat} {v : Value} {l : List UInt8} (h : BR w base v l) : ∃ ao cap, v = .slice ao l.length cap ∧ cap ≤ maxLen := by
  rcases h.2 with ⟨rfl, h0⟩ | ⟨g, cap, cur, rfl, hbg, hg, hn, hc, rest⟩
  · exact ⟨none, 0, by rw [h0], Nat.zero_le _⟩
  · exact ⟨_, cap, rfl, hc⟩
theorem BR.below {w w' : World} {base : Nat} {v : Value} {l : List UInt8} (h : BR w base v l) (hb : Below w.heap.size w w') : BR w' base v l := own_below h hb
theorem BR.cellsAt {w : World} {base : Nat} {v : Value} {l : List UInt8} (h : BR w base v l) : ∀ k, v.ownBlock = some k → base ≤ k ∧ k < w.heap.size ∧ ∃ cur, w.heap[k]? = some (.cells cur 5 (0, 0)) := by
  intro k hk
  rcases h.2 with ⟨rfl, -⟩ | ⟨g, cap, cur, rfl, hbg, hg, -⟩
  · cases hk
  · obtain rfl : g = k := by simpa [Value.ownBlock] using hk
    exact ⟨hbg, (Array.getElem?_eq_some_iff.1 hg).1, cur, hg⟩
end Go.Proofs.YtmlfekbmbnfkjabGreatDoor

/-
  A range over a map from texts to pointers.
-/
namespace Go.Proofs.YtmlfekbmbnfkjabGreatDoor
set_option maxRecDepth 100000
open Go.RowKit Go.Shelf
open Go.ChangeMaps (setBlock heap_setBlock_same heap_setBlock_other)
open Go.MapKept (Stamped stamped_iff)

/-- A range over the map: pre has come, rest is to come. -/
def Rgk (w : World) (b r : Nat) (L pre rest : List (Key × Nat)) : Prop :=
  ∃ (es : Array MapEntry) (clock : Nat) (seen : Array Nat) (c0 : Nat), w.heap[b]? = some (.map es clock) ∧ Stamped es clock ∧ w.heap[r]? = some (.mapIter (some b) clock seen c0) ∧ clock ≤ c0 ∧ (leftOf es seen).toList.map kvM = rest.map kvK ∧ (pre ++ rest).Perm L
theorem Rgk.kept {w w' : World} {b r : Nat} {L pre rest : List (Key × Nat)} (h : Rgk w b r L pre rest) (hb : w'.heap[b]? = w.heap[b]?) (hr : w'.heap[r]? = w.heap[r]?) : Rgk w' b r L pre rest := by
  obtain ⟨es, clock, seen, c0, h1, h2, h3, rest⟩ := h
  exact ⟨es, clock, seen, c0, hb.trans h1, h2, hr.trans h3, rest⟩
theorem Rgk.walks {w w' : World} {b r : Nat} {L pre rest : List (Key × Nat)} (h : Rgk w b r L pre rest) (hk : KeepsWalks w w') : Rgk w' b r L pre rest := by
  obtain ⟨es, clock, seen, c0, h1, h2, h3, rest⟩ := h
  exact ⟨es, clock, seen, c0, hk.same b _ h1 rfl, h2, hk.same r _ h3 rfl, rest⟩
theorem Rgk.lt {w : World} {b r : Nat} {L pre rest : List (Key × Nat)} (h : Rgk w b r L pre rest) : b < w.heap.size ∧ r < w.heap.size ∧ r ≠ b := by
  obtain ⟨es, clock, seen, c0, h1, h2, h3, -⟩ := h
  refine ⟨(Array.getElem?_eq_some_iff.1 h1).1, (Array.getElem?_eq_some_iff.1 h3).1, ?_⟩
  rintro rfl
  rw [h1] at h3; cases h3
theorem Rgk.alloc {w : World} {b r : Nat} {L pre rest : List (Key × Nat)} (h : Rgk w b r L pre rest) (o : Obj) : Rgk (w.alloc o) b r L pre rest := h.kept (Below.heap_alloc w o b h.lt.1) (Below.heap_alloc w o r h.lt.2.1)
theorem Rgk.walk {w : World} {b r : Nat} {L pre rest : List (Key × Nat)} (h : Rgk w b r L pre rest) : ∃ o : Obj, w.heap[r]? = some o ∧ o.isWalk = true := by
  obtain ⟨es, clock, seen, c0, h1, h2, h3, -⟩ := h
  exact ⟨_, h3, rfl⟩
theorem Rgk.perm {w : World} {b r : Nat} {L pre rest : List (Key × Nat)} (h : Rgk w b r L pre rest) : (pre ++ rest).Perm L := by
  obtain ⟨es, clock, seen, c0, h1, h2, h3, h4, h5, h6⟩ := h
  exact h6
theorem Rgk.left {w : World} {b r : Nat} {L pre rest : List (Key × Nat)} (h : Rgk w b r L pre rest) : w.rangeLeft b r = rest.length := by
  obtain ⟨es, clock, seen, c0, h1, h2, h3, h4, h5, -⟩ := h
  simp only [World.rangeLeft, h1, h3]
  have := congrArg List.length h5
  simpa using this
/-- 'range m'. -/
theorem Mk.range {w : World} {b : Nat} {S : List (Key × Nat)} (h : Mk w b S) : ∃ (clock : Nat) (L : List (Key × Nat)), (Instr.range 56 (.map (some b))).run Tryz.prog w = .ok (.pointer (some ⟨w.heap.size, 0, none⟩)) (w.alloc (.mapIter (some b) clock #[] clock)) ∧
    L.Perm S ∧ Rgk (w.alloc (.mapIter (some b) clock #[] clock)) b w.heap.size L [] L := by
  have hlt := h.lt
  obtain ⟨es, clock, L, hb, hst, hL, hp, hS⟩ := h
  refine ⟨clock, L, run_range_map w 56 _ _ b es clock Tryz.underlying56 hb, hp, es, clock, #[], clock, ((MapKept.heap_alloc w _).2 b hlt).trans hb, hst, (MapKept.heap_alloc w _).1, Nat.le_refl _, ?_, List.Perm.refl _⟩
  have e0 : leftOf es #[] = es := Array.filter_eq_self.2 (by simp)
  rw [e0]; exact hL
/-- The step. -/
theorem Rgk.next {w : World} {b r : Nat} {L pre rest : List (Key × Nat)} (h : Rgk w b r L pre rest) (ty : TypeId) :
    (rest = [] ∧ (Instr.next (.pointer (some ⟨r, 0, none⟩)) false ty).run Tryz.prog w = .ok (.tuple #[.bool false]) w) ∨
    ∃ (i : Key × Nat) (rest' : List (Key × Nat)) (w' : World), (Instr.next (.pointer (some ⟨r, 0, none⟩)) false ty).run Tryz.prog w = .ok (.tuple #[.bool true, .string (sb i.1), .pointer (some ⟨i.2, 0, none⟩)]) w' ∧
      (Instr.entry (.pointer (some ⟨r, 0, none⟩))).run Tryz.prog w' = .ok (.tuple #[.string (sb i.1), .pointer (some ⟨i.2, 0, none⟩)]) w' ∧ Rgk w' b r L (pre ++ [i]) rest' ∧ rest'.length < rest.length ∧ w.grownBy w' (some r) := by
  have hne := h.lt.2.2
  obtain ⟨es, clock, seen, c0, hb, hst, hr, hc, hL, hp⟩ := h
  obtain ⟨s1, s2, s3⟩ := hst
  rcases run_next_at (P := Tryz.prog) w ty r b clock c0 seen es clock hr hb s1 hc with ⟨h0, hrun⟩ | ⟨e, he, w1, hal, hrun⟩
  · refine .inl ⟨?_, hrun⟩
    have : (leftOf es seen).toList = [] := by
      have h2 : leftOf es seen = #[] := Array.eq_empty_of_size_eq_zero h0
      rw [h2]
    rw [this] at hL
    cases rest with
    | nil => rfl
    | cons a l => simp at hL
  · obtain ⟨j, hj⟩ := List.getElem?_of_mem he
    have hnd : ((leftOf es seen).toList.map (·.born)).Nodup := by
      unfold leftOf
      rw [Array.toList_filter]
      exact List.Nodup.sublist (List.Sublist.map _ List.filter_sublist) s2
    have hjL : (rest.map kvK)[j]? = some (kvM e) := by rw [← hL, List.getElem?_map, hj]; rfl
    rw [List.getElem?_map, Option.map_eq_some_iff] at hjL
    obtain ⟨i, hi, hkv⟩ := hjL
    have hk : e.key = .string (sb i.1) := (congrArg Prod.fst hkv).symm
    have hv : e.val = .pointer (some ⟨i.2, 0, none⟩) := (congrArg Prod.snd hkv).symm
    have hr1 : w1.heap[r]? = some (.mapIter (some b) clock seen c0) := by rcases hal with rfl | rfl <;> exact hr
    have hb1 : w1.heap[b]? = some (.map es clock) := by rcases hal with rfl | rfl <;> exact hb
    have hset := MapKept.heap_set (o' := .mapIter (some b) clock (seen.push e.born) clock) hr1
    have hb' : (setBlock w1 r (.mapIter (some b) clock (seen.push e.born) clock)).heap[b]? = some (.map es clock) := (hset.2 b (fun e1 => hne e1.symm)).trans hb1
    refine .inr ⟨i, rest.eraseIdx j, _, by rw [← hk, ← hv]; exact hrun, by rw [← hk, ← hv]; exact run_entry_at _ r b clock seen es clock e hset.1 hb' (mem_left he).1 s2, ⟨es, clock, seen.push e.born, clock, hb', ⟨s1, s2, s3⟩, hset.1, Nat.le_refl _, ?_, ?_⟩, ?_, ?_⟩
    · rw [E.left_push, E.filter_born hnd hj, map_erase, hL, map_erase]
    · rw [List.append_assoc]
      refine List.Perm.trans (List.Perm.append_left pre ?_) hp
      exact (perm_erase hi).symm
    · have := (List.getElem?_eq_some_iff.1 hi).1
      rw [List.length_eraseIdx, if_pos this]; omega
    · rcases hal with rfl | rfl <;> exact ⟨rfl, rfl, rfl, by simp [setBlock], fun k _ hk => hset.2 k (fun e1 => hk (by rw [e1]))⟩

end Go.Proofs.YtmlfekbmbnfkjabGreatDoor

/-
  What together comes to: all keys' things, in their dots' order (28 cells an item).
-/
namespace Go.Proofs.YtmlfekbmbnfkjabGreatDoor.E
set_option maxRecDepth 100000
open Go.RowKit Go.Shelf

theorem ldx_at {w : World} {g : Nat} {i : It (Cx 26)} (h : w.heap[g]? = some (.cells (xc i) 112 (0, 0))) : (loadVar 47 ⟨g, 2, none⟩).run Tryz.prog w = .ok (.agg i.x.l.toArray) w := by
  have hr : w.rangeAt g 2 i.x.l := fun j u hu => by
    rw [cell_of_row w _ (2 + j) _ _ _ h]
    simp only [xc, xl, List.getElem?_toArray]
    rw [show 2 + j = j + 1 + 1 by omega, List.getElem?_cons_succ, List.getElem?_cons_succ]
    exact hu
  have hs := size_x i.x
  rw [List.size_toArray] at hs
  exact run_loadVar_mid (P := Tryz.prog) w g 2 47 _ _ hr Tryz.underlying47 rfl hs
/-- What lies in the bag so far. -/
structure Tg (w : World) (Ba : Nat) (AS : List Ev) (A0 : List Ev) (m : Option Nat) (wr : World) : Prop where
  bg : Bg wr Ba 0 #[.map m] 81 m (AS.map eit)
  sr : SrE AS
  pm : AS.Perm A0
  ow : ∀ k, m = some k → w.heap.size ≤ k
  be : Below w.heap.size w wr
  ba : w.heap.size ≤ Ba
theorem Tg.below {w : World} {Ba : Nat} {AS A0 : List Ev} {m : Option Nat} {wr wx : World} (h : Tg w Ba AS A0 m wr) (hb : Below wr.heap.size wr wx) : Tg w Ba AS A0 m wx :=
  ⟨h.bg.below hb (Nat.le_refl _), h.sr, h.pm, h.ow, h.be.trans (hb.mono h.be.size), h.ba⟩
theorem Tg.grown {w : World} {Ba : Nat} {AS A0 : List Ev} {m : Option Nat} {wr wx : World} {r : Nat} (h : Tg w Ba AS A0 m wr) (hg : wr.grownBy wx (some r)) (hr : w.heap.size ≤ r) (h1 : r ≠ Ba) (h2 : m ≠ some r) : Tg w Ba AS A0 m wx :=
  ⟨h.bg.kept fun k hk ho => hg.block k hk (fun e => by
      have := Option.some.inj e
      rcases ho with rfl | ho
      · exact h1 this.symm
      · exact h2 (by rw [← this]; exact ho)), h.sr, h.pm, h.ow, h.be.grown hg h.be.size (fun k e => by have := Option.some.inj e; omega), h.ba⟩
theorem Rgk.blk {w : World} {b r : Nat} {L pre rest : List (Key × Nat)} (h : Rgk w b r L pre rest) : ∃ x y z u, w.heap[r]? = some (.mapIter x y z u) := by
  obtain ⟨es, clock, seen, c0, h1, h2, h3, -⟩ := h
  exact ⟨_, _, _, _, h3⟩
theorem Tg.put {w : World} {Ba : Nat} {AS A0 : List Ev} {m m' : Option Nat} {wr wx : World} {a : Ev} (h : Tg w Ba AS A0 m wr) (hB : Bg wx Ba 0 ((#[.map m] : Array Value).setIfInBounds 0 (.map m')) 81 m' (Go.Proofs.YtmlfekbmbnfkjabGreatDoor.put (AS.map eit) (eit a))) (ht : Tn Ba m m' wr wx) (hp : (putE AS a).Perm (a :: AS)) (hs : SrE (putE AS a)) (he : Go.Proofs.YtmlfekbmbnfkjabGreatDoor.put (AS.map eit) (eit a) = (putE AS a).map eit) : Tg w Ba (putE AS a) (A0 ++ [a]) m' wx := by
  refine ⟨by rw [← he]; exact hB, hs, hp.trans ((h.pm.cons a).trans (List.perm_append_singleton a A0).symm), fun k hk => ?_, h.be.trans (ht.below h.be.size h.ba h.ow), h.ba⟩
  rcases ht.own k hk with q | q
  · exact h.ow k q
  · exact Nat.le_trans h.be.size q
end Go.Proofs.YtmlfekbmbnfkjabGreatDoor.E

/-
  What together comes to: its walk (28 cells an item).
-/
namespace Go.Proofs.YtmlfekbmbnfkjabGreatDoor.E
set_option maxRecDepth 100000
open Go.RowKit Go.Shelf

/-- What is put together. -/
structure Src (w : World) (km : Option Nat) (S : List (Key × Nat)) (X : List Ev) : Prop where
  map : (km = none ∧ S = []) ∨ ∃ b, km = some b ∧ Mk w b S
  ho : ∀ p ∈ S, ∃ cs m, Bg w p.2 0 cs 86 m ((ofKeyE p.1 X).map eit)
  all : ∀ a ∈ X, Ev.key a ∈ S.map Prod.fst
  nd : (S.map Prod.fst).Nodup
  sr : SrE X
  len : X.length ≤ 1000000
theorem Rgk.below {w w' : World} {b r : Nat} {L pre rest : List (Key × Nat)} (h : Rgk w b r L pre rest) (hb : Below w.heap.size w w') : Rgk w' b r L pre rest := h.kept (hb.block b h.lt.1) (hb.block r h.lt.2.1)

end Go.Proofs.YtmlfekbmbnfkjabGreatDoor.E

/-
  A range over a bag's map under way; maps.Values's iterator: each thing comes once, in some order.
-/
namespace Go.Proofs.YtmlfekbmbnfkjabGreatDoor.D
set_option maxRecDepth 100000
set_option maxRecDepth 100000
open Go.RowKit Go.Shelf
open Go.ChangeMaps (setBlock heap_setBlock_same heap_setBlock_other)
open Go.MapKept (Stamped stamped_iff)

theorem filter_born : ∀ {l : List MapEntry} {j : Nat} {e : MapEntry}, (l.map (·.born)).Nodup → l[j]? = some e → l.filter (fun x => !(x.born == e.born)) = l.eraseIdx j
  | [], j, e, _, h => by simp at h
  | a :: l, 0, e, hn, h => by
    obtain rfl : a = e := by simpa using h
    simp only [List.map_cons, List.nodup_cons] at hn
    simp only [List.filter_cons, beq_self_eq_true, Bool.not_true, Bool.false_eq_true, if_false, List.eraseIdx_cons_zero]
    refine List.filter_eq_self.2 fun x hx => ?_
    cases hb : x.born == a.born
    · rfl
    · exact absurd (List.mem_map.2 ⟨x, hx, by simpa using hb⟩) hn.1
  | a :: l, j + 1, e, hn, h => by
    simp only [List.map_cons, List.nodup_cons] at hn
    have h' : l[j]? = some e := by simpa using h
    have hne : a.born ≠ e.born := fun hb => hn.1 (List.mem_map.2 ⟨e, List.mem_of_getElem? h', hb.symm⟩)
    have hb : (a.born == e.born) = false := by simpa using hne
    simp only [List.filter_cons, hb, Bool.not_false, if_true, List.eraseIdx_cons_succ]
    rw [filter_born hn.2 h']
theorem left_push (es : Array MapEntry) (seen : Array Nat) (b : Nat) : (leftOf es (seen.push b)).toList = (leftOf es seen).toList.filter (fun x => !(x.born == b)) := by
  unfold leftOf
  rw [Array.toList_filter, Array.toList_filter, List.filter_filter]
  refine List.filter_congr fun x _ => ?_
  rw [contains_push]
  cases seen.contains x.born <;> cases x.born == b <;> rfl

theorem size_it (i : It (Cx 28)) : (Tryz.prog.info? 135).map (·.size) = some (xc i).size := by
  rw [xc_size]; kernel_rfl
theorem st_new (w : World) (i : It (Cx 28)) : (storeVar 135 ⟨w.heap.size, 0, none⟩ (.agg (xc i))).run Tryz.prog (w.alloc (.cells #[Value.int IntKind.i64 0, Value.int IntKind.i64 0, Value.int IntKind.i64 0, Value.int IntKind.i64 0, Value.int IntKind.i64 0, Value.int IntKind.i64 0, Value.int IntKind.i64 0, Value.int IntKind.i64 0, Value.int IntKind.i64 0, Value.int IntKind.i64 0, Value.int IntKind.i64 0, Value.int IntKind.i64 0, Value.int IntKind.i64 0, Value.int IntKind.i64 0, Value.int IntKind.i64 0, Value.int IntKind.i64 0, Value.int IntKind.i64 0, Value.int IntKind.i64 0, Value.int IntKind.i64 0, Value.int IntKind.i64 0, Value.int IntKind.i64 0, Value.int IntKind.i64 0, Value.string { data := #[] }, Value.string { data := #[] }, Value.string { data := #[] }, Value.int IntKind.i64 0, Value.int IntKind.i64 0, Value.int IntKind.i64 0, Value.int IntKind.i64 0, Value.int IntKind.i64 0] 135)) = .ok () (w.alloc (.cells (xc i) 135)) := by
  rw [run_storeVar_row (P := Tryz.prog) (w.alloc (.cells #[Value.int IntKind.i64 0, Value.int IntKind.i64 0, Value.int IntKind.i64 0, Value.int IntKind.i64 0, Value.int IntKind.i64 0, Value.int IntKind.i64 0, Value.int IntKind.i64 0, Value.int IntKind.i64 0, Value.int IntKind.i64 0, Value.int IntKind.i64 0, Value.int IntKind.i64 0, Value.int IntKind.i64 0, Value.int IntKind.i64 0, Value.int IntKind.i64 0, Value.int IntKind.i64 0, Value.int IntKind.i64 0, Value.int IntKind.i64 0, Value.int IntKind.i64 0, Value.int IntKind.i64 0, Value.int IntKind.i64 0, Value.int IntKind.i64 0, Value.int IntKind.i64 0, Value.string { data := #[] }, Value.string { data := #[] }, Value.string { data := #[] }, Value.int IntKind.i64 0, Value.int IntKind.i64 0, Value.int IntKind.i64 0, Value.int IntKind.i64 0, Value.int IntKind.i64 0] 135)) w.heap.size 135 135 #[Value.int IntKind.i64 0, Value.int IntKind.i64 0, Value.int IntKind.i64 0, Value.int IntKind.i64 0, Value.int IntKind.i64 0, Value.int IntKind.i64 0, Value.int IntKind.i64 0, Value.int IntKind.i64 0, Value.int IntKind.i64 0, Value.int IntKind.i64 0, Value.int IntKind.i64 0, Value.int IntKind.i64 0, Value.int IntKind.i64 0, Value.int IntKind.i64 0, Value.int IntKind.i64 0, Value.int IntKind.i64 0, Value.int IntKind.i64 0, Value.int IntKind.i64 0, Value.int IntKind.i64 0, Value.int IntKind.i64 0, Value.int IntKind.i64 0, Value.int IntKind.i64 0, Value.string { data := #[] }, Value.string { data := #[] }, Value.string { data := #[] }, Value.int IntKind.i64 0, Value.int IntKind.i64 0, Value.int IntKind.i64 0, Value.int IntKind.i64 0, Value.int IntKind.i64 0] (xc i) (heap_alloc_new w _) (size_it i) (by rw [xc_size]; rfl) (xc_one i), setRow_new]
theorem ld_at {w : World} {g : Nat} {i : It (Cx 28)} (h : w.heap[g]? = some (.cells (xc i) 135 (0, 0))) : (loadVar 135 ⟨g, 0, none⟩).run Tryz.prog w = .ok (.agg (xc i)) w :=
  run_loadVar_row w g 135 135 _ (0, 0) _ h Tryz.underlying135 rfl (size_it i)
theorem ld_new (w : World) (i : It (Cx 28)) : (loadVar 135 ⟨w.heap.size, 0, none⟩).run Tryz.prog (w.alloc (.cells (xc i) 135)) = .ok (.agg (xc i)) (w.alloc (.cells (xc i) 135)) := ld_at (heap_alloc_new w _)
/-- A range over the map: pre has come, rest is to come. -/
def Rng (w : World) (b r : Nat) (L pre rest : List (It (Cx 28))) : Prop :=
  ∃ (es : Array MapEntry) (clock : Nat) (seen : Array Nat) (c0 : Nat), w.heap[b]? = some (.map es clock) ∧ Stamped es clock ∧ w.heap[r]? = some (.mapIter (some b) clock seen c0) ∧ clock ≤ c0 ∧ (leftOf es seen).toList.map kvE = rest.map kvI ∧ (pre ++ rest).Perm L
theorem Rng.kept {w w' : World} {b r : Nat} {L pre rest : List (It (Cx 28))} (h : Rng w b r L pre rest) (hb : w'.heap[b]? = w.heap[b]?) (hr : w'.heap[r]? = w.heap[r]?) : Rng w' b r L pre rest := by
  obtain ⟨es, clock, seen, c0, h1, h2, h3, rest⟩ := h
  exact ⟨es, clock, seen, c0, hb.trans h1, h2, hr.trans h3, rest⟩
theorem Rng.walks {w w' : World} {b r : Nat} {L pre rest : List (It (Cx 28))} (h : Rng w b r L pre rest) (hk : KeepsWalks w w') : Rng w' b r L pre rest := by
  obtain ⟨es, clock, seen, c0, h1, h2, h3, rest⟩ := h
  exact ⟨es, clock, seen, c0, hk.same b _ h1 rfl, h2, hk.same r _ h3 rfl, rest⟩
theorem Rng.lt {w : World} {b r : Nat} {L pre rest : List (It (Cx 28))} (h : Rng w b r L pre rest) : b < w.heap.size ∧ r < w.heap.size ∧ r ≠ b := by
  obtain ⟨es, clock, seen, c0, h1, h2, h3, -⟩ := h
  refine ⟨(Array.getElem?_eq_some_iff.1 h1).1, (Array.getElem?_eq_some_iff.1 h3).1, ?_⟩
  rintro rfl
  rw [h1] at h3; cases h3
theorem Rng.alloc {w : World} {b r : Nat} {L pre rest : List (It (Cx 28))} (h : Rng w b r L pre rest) (o : Obj) : Rng (w.alloc o) b r L pre rest := h.kept (Below.heap_alloc w o b h.lt.1) (Below.heap_alloc w o r h.lt.2.1)
theorem Rng.walk {w : World} {b r : Nat} {L pre rest : List (It (Cx 28))} (h : Rng w b r L pre rest) : ∃ o : Obj, w.heap[r]? = some o ∧ o.isWalk = true := by
  obtain ⟨es, clock, seen, c0, h1, h2, h3, -⟩ := h
  exact ⟨_, h3, rfl⟩
theorem Rng.perm {w : World} {b r : Nat} {L pre rest : List (It (Cx 28))} (h : Rng w b r L pre rest) : (pre ++ rest).Perm L := by
  obtain ⟨es, clock, seen, c0, h1, h2, h3, h4, h5, h6⟩ := h
  exact h6
theorem Rng.left {w : World} {b r : Nat} {L pre rest : List (It (Cx 28))} (h : Rng w b r L pre rest) : w.rangeLeft b r = rest.length := by
  obtain ⟨es, clock, seen, c0, h1, h2, h3, h4, h5, -⟩ := h
  simp only [World.rangeLeft, h1, h3]
  have := congrArg List.length h5
  simpa using this
/-- 'range m'. -/
theorem Mp.range {w : World} {b : Nat} {S : List (It (Cx 28))} (h : Mp w b S) : ∃ (clock : Nat) (L : List (It (Cx 28))), (Instr.range 82 (.map (some b))).run Tryz.prog w = .ok (.pointer (some ⟨w.heap.size, 0, none⟩)) (w.alloc (.mapIter (some b) clock #[] clock)) ∧
    L.Perm S ∧ Rng (w.alloc (.mapIter (some b) clock #[] clock)) b w.heap.size L [] L := by
  have hlt := h.lt
  obtain ⟨es, clock, L, hb, hst, hL, hp, hS⟩ := h
  refine ⟨clock, L, run_range_map w 82 _ _ b es clock Tryz.underlying82 hb, hp, es, clock, #[], clock, ((MapKept.heap_alloc w _).2 b hlt).trans hb, hst, (MapKept.heap_alloc w _).1, Nat.le_refl _, ?_, List.Perm.refl _⟩
  have e0 : leftOf es #[] = es := Array.filter_eq_self.2 (by simp)
  rw [e0]; exact hL
/-- The step. -/
theorem Rng.next {w : World} {b r : Nat} {L pre rest : List (It (Cx 28))} (h : Rng w b r L pre rest) (ty : TypeId) :
    (rest = [] ∧ (Instr.next (.pointer (some ⟨r, 0, none⟩)) false ty).run Tryz.prog w = .ok (.tuple #[.bool false]) w) ∨
    ∃ (i : It (Cx 28)) (rest' : List (It (Cx 28))) (w' : World), (Instr.next (.pointer (some ⟨r, 0, none⟩)) false ty).run Tryz.prog w = .ok (.tuple #[.bool true, .agg (dotc i.r i.n), .agg (xc i)]) w' ∧
      (Instr.entry (.pointer (some ⟨r, 0, none⟩))).run Tryz.prog w' = .ok (.tuple #[.agg (dotc i.r i.n), .agg (xc i)]) w' ∧ Rng w' b r L (pre ++ [i]) rest' ∧ rest'.length < rest.length ∧ w.grownBy w' (some r) := by
  have hne := h.lt.2.2
  obtain ⟨es, clock, seen, c0, hb, hst, hr, hc, hL, hp⟩ := h
  obtain ⟨s1, s2, s3⟩ := hst
  rcases run_next_at (P := Tryz.prog) w ty r b clock c0 seen es clock hr hb s1 hc with ⟨h0, hrun⟩ | ⟨e, he, w1, hal, hrun⟩
  · refine .inl ⟨?_, hrun⟩
    have : (leftOf es seen).toList = [] := by
      have h2 : leftOf es seen = #[] := Array.eq_empty_of_size_eq_zero h0
      rw [h2]
    rw [this] at hL
    cases rest with
    | nil => rfl
    | cons a l => simp at hL
  · obtain ⟨j, hj⟩ := List.getElem?_of_mem he
    have hnd : ((leftOf es seen).toList.map (·.born)).Nodup := by
      unfold leftOf
      rw [Array.toList_filter]
      exact List.Nodup.sublist (List.Sublist.map _ List.filter_sublist) s2
    have hjL : (rest.map kvI)[j]? = some (kvE e) := by rw [← hL, List.getElem?_map, hj]; rfl
    rw [List.getElem?_map, Option.map_eq_some_iff] at hjL
    obtain ⟨i, hi, hkv⟩ := hjL
    have hk : e.key = .agg (dotc i.r i.n) := (congrArg Prod.fst hkv).symm
    have hv : e.val = .agg (xc i) := (congrArg Prod.snd hkv).symm
    have hr1 : w1.heap[r]? = some (.mapIter (some b) clock seen c0) := by rcases hal with rfl | rfl <;> exact hr
    have hb1 : w1.heap[b]? = some (.map es clock) := by rcases hal with rfl | rfl <;> exact hb
    have hset := MapKept.heap_set (o' := .mapIter (some b) clock (seen.push e.born) clock) hr1
    have hb' : (setBlock w1 r (.mapIter (some b) clock (seen.push e.born) clock)).heap[b]? = some (.map es clock) := (hset.2 b (fun e1 => hne e1.symm)).trans hb1
    refine .inr ⟨i, rest.eraseIdx j, _, by rw [← hk, ← hv]; exact hrun, by rw [← hk, ← hv]; exact run_entry_at _ r b clock seen es clock e hset.1 hb' (mem_left he).1 s2, ⟨es, clock, seen.push e.born, clock, hb', ⟨s1, s2, s3⟩, hset.1, Nat.le_refl _, ?_, ?_⟩, ?_, ?_⟩
    · rw [left_push, filter_born hnd hj, map_erase, hL, map_erase]
    · rw [List.append_assoc]
      refine List.Perm.trans (List.Perm.append_left pre ?_) hp
      exact (perm_erase hi).symm
    · have := (List.getElem?_eq_some_iff.1 hi).1
      rw [List.length_eraseIdx, if_pos this]; omega
    · rcases hal with rfl | rfl <;> exact ⟨rfl, rfl, rfl, by simp [setBlock], fun k _ hk => hset.2 k (fun e1 => hk (by rw [e1]))⟩

set_option maxHeartbeats 1000000 in
/-- What the iterator of maps.Values gives, whatever the loop's body does, so that it leaves maps and iterators alone. -/
theorem valuesf_in (n l Bm b : Nat) (S : List (It (Cx 28))) (hn : 1 ≤ n) (J Jx : List (It (Cx 28)) → World → Prop) (W : World)
    (hY : ∀ pre x W1, J pre W1 → pre.length < S.length → YieldAt Fence.wide (n - 1) Tryz.prog l #[.agg (xc x)] W1 fun e W' =>
      (e = .returned (.bool true) ∧ J (pre ++ [x]) W' ∧ KeepsWalks W1 W') ∨ (e = .returned (.bool false) ∧ Jx (pre ++ [x]) W'))
    (hJ : AbidesFrom W.heap.size J) (hm : W.cell? ⟨Bm, 0, none⟩ = some (.map (some b))) (hM : Mp W b S) (h0 : J [] W) :
    CallsIn Fence.wide n Tryz.prog 222 #[.func (.yield l) #[] #[], .pointer (some ⟨Bm, 0, none⟩)] W fun e W' => (∃ v, e = .returned v) ∧ ((∃ xs, xs.Perm S ∧ J xs W') ∨ (∃ pre, True ∧ Jx pre W')) := by
  obtain ⟨clock, L, hrun, hp, hR⟩ := hM.range
  have hlen := hp.length_eq
  have hJ0 := hJ [] W (W.alloc (.mapIter (some b) clock #[] clock)) none h0 (World.grownBy_alloc W _ none) (fun r e => by cases e)
  have hs0 : W.heap.size < (W.alloc (.mapIter (some b) clock #[] clock)).heap.size := by simp
  refine callsIn_of_wp Tryz.func222 rfl trivial ?_ rfl
  simp only [Tryz.ntmps222, List.size_toArray, List.length_cons, List.length_nil, Nat.reduceAdd, Nat.reduceSub, Array.replicate_succ, Array.replicate_zero, List.push_toArray, List.append_toArray, List.nil_append, List.cons_append]
  gi_wp2
  clear hrun hm
  gi_loopw [4] (fun _ wr => ∃ pre rest : List (It (Cx 28)), Rng wr b W.heap.size L pre rest ∧ J pre wr) (fun _ wr => wr.rangeLeft b W.heap.size)
  case atStart => exact ⟨[], L, hR, hJ0⟩
  case round =>
    clear hR hJ0
    obtain ⟨pre, rest, hR, hJs⟩ := hrel
    have hlr := hR.left
    rcases hR.next 0 with ⟨rfl, hnx⟩ | ⟨i, rest', w2, hnx, hen, hR2, hlt, hg2⟩
    · have hpm := hR.perm
      rw [List.append_nil] at hpm
      clear hY hlr
      gi_wp2
      go_end0
      exact ⟨⟨_, rfl⟩, .inl ⟨pre, hpm.trans hp, hJs⟩⟩
    · have hJ2 : J pre w2 := hJ pre wr w2 (some W.heap.size) hJs hg2 (fun r e => by cases e; exact ⟨Nat.le_refl _, hR.walk⟩)
      have hJ3 : J pre (w2.alloc (.cells (xc i) 135)) := hJ pre w2 _ none hJ2 (World.grownBy_alloc w2 _ none) (fun r e => by cases e)
      have hpl : pre.length < S.length := by
        have := hR2.perm.length_eq
        simp at this
        omega
      obtain ⟨fn, tmps, assign, body, hy, hRd⟩ := hY pre i _ hJ3 hpl
      have hR3 := hR2.alloc (.cells (xc i) 135)
      have HL : Hid _ := hlr
      have HR : Hid (Rng (w2.alloc (.cells (xc i) 135)) b W.heap.size L (pre ++ [i]) rest') := hR3
      have HT : Hid _ := hlt
      have hst := st_new w2 i
      have hld := ld_new w2 i
      clear hY hlr hR3 hJ2 hJ3 hg2 hR2 hR hJs hpl hlt
      gi_wp2_with (first
        | (refine wpListIn_storeR (ty := 135) (x := .tmp 4) (y := .tmp 10) (ad := ⟨w2.heap.size, 0, none⟩) (v := .agg (xc i)) (w' := w2.alloc (.cells (xc i) 135)) rfl rfl rfl rfl hst ?_)
        | (refine wpListIn_loadR (ty := 135) (x := .tmp 4) (ad := ⟨w2.heap.size, 0, none⟩) (v := .agg (xc i)) rfl rfl rfl hld ?_)
        | gi_in)
      refine hRd.mono ?_
      rintro e W3 (⟨rfl, hJ4, hk3⟩ | ⟨rfl, hJx⟩)
      · gi_wp2
        have hR4 := HR.out.walks hk3
        go_roundw
        case rel => exact ⟨pre ++ [i], rest', hR4, hJ4⟩
        case measure => rw [hR4.left, HL.out]; exact HT.out
      · gi_wp2
        refine bodyPost_ret (results_none rfl _ _ _) rfl ?_
        exact ⟨⟨_, rfl⟩, .inr ⟨pre ++ [i], trivial, hJx⟩⟩
theorem values_stops (n Bm b : Nat) (S : List (It (Cx 28))) (hn : 1 ≤ n) (w : World) (hBm : Bm < w.heap.size) (hm : w.cell? ⟨Bm, 0, none⟩ = some (.map (some b))) (hM : Mp w b S) :
    SeqStopsK Fence.wide n Tryz.prog 222 #[.pointer (some ⟨Bm, 0, none⟩)] (fun i : It (Cx 28) => #[.agg (xc i)]) KeepsWalks (fun xs => xs.Perm S) (fun _ => True) S.length w := fun l J Jx W hW hJ _ hY h0 =>
  valuesf_in n l Bm b S hn J Jx W hY hJ ((hW.cell (p := ⟨Bm, 0, none⟩) hBm).trans hm) (hM.below hW hM.lt) h0
end Go.Proofs.YtmlfekbmbnfkjabGreatDoor.D

/-
  Rows of items of the program's own: append, one item read out of the midst, what the sort leaves.
-/
namespace Go.Proofs.YtmlfekbmbnfkjabGreatDoor.D
set_option maxRecDepth 100000
set_option maxRecDepth 100000
open Go.RowKit

/-- What is known of a list's type and xs elements'. -/
structure El (T e : TypeId) (z : Array Value) (bt : Nat) : Prop where
  ht : Tryz.prog.underlying T = some (.slice e)
  hi : (Tryz.prog.info? e).map (fun i => (i.zero, i.size, i.bytes)) = some (some (.agg z), 30, bt)
  hz : z.size = 30
  hb : bt ≤ 512
/-- A row of the program's own. -/
abbrev Rw (e : TypeId) (w : World) (base : Nat) (v : Value) (S : List (It (Cx 28))) : Prop := w.ownsRow base e 30 v S.length (xs S)
theorem rw_nil (e : TypeId) (w : World) (base : Nat) : Rw e w base (.slice none 0 0) [] := World.ownsRow_nil w base _ _
theorem Rw.lower {e : TypeId} {w : World} {base b : Nat} {v : Value} {S : List (It (Cx 28))} (h : Rw e w base v S) (hb : b ≤ base) : Rw e w b v S := by
  refine ⟨h.1, ?_⟩
  rcases h.2 with hn | ⟨g, cap, cur, e, hbg, rest⟩
  · exact .inl hn
  · exact .inr ⟨g, cap, cur, e, Nat.le_trans hb hbg, rest⟩
theorem Rw.keep {e : TypeId} {w w' : World} {base : Nat} {v : Value} {S : List (It (Cx 28))} (h : Rw e w base v S) (hk : ∀ k, v.ownBlock = some k → w'.heap[k]? = w.heap[k]?) : Rw e w' base v S := by
  refine ⟨h.1, ?_⟩
  rcases h.2 with hn | ⟨g, cap, cur, rfl, hbg, hg, rest⟩
  · exact .inl hn
  · exact .inr ⟨g, cap, cur, rfl, hbg, by rw [hk g rfl]; exact hg, rest⟩
theorem Rw.below {e : TypeId} {w w' : World} {base B : Nat} {v : Value} {S : List (It (Cx 28))} (h : Rw e w base v S) (hb : Below B w w') (hB : w.heap.size ≤ B) : Rw e w' base v S :=
  h.keep fun k hk => hb.block k (by have := (h.lt k hk).2; omega)
/-- Which slice it is. -/
theorem Rw.val {e : TypeId} {w : World} {base : Nat} {v : Value} {S : List (It (Cx 28))} (h : Rw e w base v S) : ∃ ao cap, v = .slice ao S.length cap ∧ S.length ≤ cap ∧ cap ≤ maxLen := by
  rcases h.2 with ⟨rfl, h0⟩ | ⟨g, cap, cur, rfl, hbg, hg, hn, hc, rest⟩
  · exact ⟨none, 0, by rw [h0], by omega, Nat.zero_le _⟩
  · exact ⟨_, cap, rfl, hn, hc⟩
/-- One item of it. -/
theorem Rw.atx {e : TypeId} {w : World} {base : Nat} {v : Value} {S : List (It (Cx 28))} (h : Rw e w base v S) {k : Nat} (hk : k < S.length) : ∃ g cap i, v = .slice (some ⟨g, 0, none⟩) S.length cap ∧ S.length ≤ cap ∧ S[k]? = some i ∧ base ≤ g ∧ g < w.heap.size ∧
    w.rangeAt g (k * 30) (xl i) ∧ ∃ cur, w.heap[g]? = some (.cells cur e (0, 0)) := by
  obtain ⟨i, hi⟩ : ∃ i, S[k]? = some i := ⟨_, List.getElem?_eq_getElem hk⟩
  rcases h.2 with ⟨rfl, h0⟩ | ⟨g, cap, cur, rfl, hbg, hg, hn, hc, rest⟩
  · omega
  · have hc := fun j u hu => h.cells (g := g) rfl j u hu
    refine ⟨g, cap, i, rfl, hn, hi, hbg, (Array.getElem?_eq_some_iff.1 hg).1, fun j v hv => ?_, cur, hg⟩
    have := hc _ _ (xs_at k i hi j v hv)
    rw [Addr.add_mid, Nat.zero_add] at this
    exact this

/-- Items that lie at an address. -/
structure Ats (w : World) (ad : Addr) (F : List (It (Cx 28))) : Prop where
  cells : ∀ j u, (xs F)[j]? = some u → w.cell? (ad.add j) = some u
theorem app_new {T e : TypeId} {z : Array Value} {bt : Nat} (E : El T e z bt) {w : World} (base : Nat) (ty : TypeId) (i : TypeInfo) (hi : Tryz.prog.info? e = some i) (hz : i.zero = some (.agg z)) (hsize : i.size = 30) (hbytes : i.bytes = bt)
    (v : Value) (n : Nat) (xs : List Value) (hown : w.ownsRow base e 30 v n xs)
    (a : Addr) (m c : Nat) (news : List Value) (hl : news.length = m * 30) (hnews : ∀ j u, news[j]? = some u → w.cell? (a.add j) = some u) (h1 : ∀ u ∈ news, u.oneCell' = true)
    (hnm : n + m ≤ 1048576) (hm : 0 < m) (v' : Value) (w' : World) (hr : (Builtin.append_ #[T, T] ty #[v, .slice (some a) m c]).run Tryz.prog w = .ok v' w') :
    ∀ k, v'.ownBlock = some k → v.ownBlock = some k ∨ w.heap.size ≤ k := by
  intro k hk
  have ht := E.ht
  have hbt := E.hb
  have hown' := hown
  have hmul : (n + m) * bt ≤ 1048576 * 512 := Nat.mul_le_mul hnm hbt
  have hmul2 : m * bt ≤ 1048576 * 512 := Nat.mul_le_mul (by omega) hbt
  rcases hown.2 with ⟨rfl, rfl⟩ | ⟨g, cap, cur, rfl, hbg, hg, hnc, hcm, hcs, htake⟩
  · have h2 := run_append_nil (P := Tryz.prog) w T ty e i _ ht hi hz a m c news (by rw [hsize]; omega) hnews (by omega) (by omega) (by rw [hbytes]; omega)
    rw [h2] at hr
    simp only [Result.ok.injEq] at hr
    rw [← hr.1] at hk
    simp only [Value.ownBlock, Option.some.injEq] at hk
    right; omega
  · by_cases hroom : n + m ≤ cap
    · obtain ⟨w2, h2, -⟩ := run_append_fits (P := Tryz.prog) w base T ty e i 30 ht hi hsize g n cap xs hown' a m c news (by omega) hnews h1 hroom
      rw [h2] at hr
      simp only [Result.ok.injEq] at hr
      rw [← hr.1] at hk
      exact .inl hk
    · have h2 := run_append_grow (P := Tryz.prog) w T ty e i _ ht hi hz ⟨g, 0, none⟩ n cap xs (by rw [hsize]; exact hown.1) (hown'.cells (g := g) rfl) a m c news (by rw [hsize]; omega) hnews (by omega) (by omega) (growslice_fits (by omega) (by rw [hbytes]; omega))
      rw [h2] at hr
      simp only [Result.ok.injEq] at hr
      rw [← hr.1] at hk
      simp only [Value.ownBlock, Option.some.injEq] at hk
      right; omega
/-- What 'append' of one item does. -/
theorem run_app1 {T e : TypeId} {z : Array Value} {bt : Nat} (E : El T e z bt) {w : World} (ty : TypeId) (base : Nat) (v : Value) (S : List (It (Cx 28))) (hown : Rw e w base v S)
    (ad : Addr) (c : Nat) (i : It (Cx 28)) (hF : Ats w ad [i]) (hnm : S.length < 1048576) (hbase : base ≤ w.heap.size) :
    ∃ v' w', (Builtin.append_ #[T, T] ty #[v, .slice (some ad) 1 c]).run Tryz.prog w = .ok v' w' ∧ Rw e w' base v' (S ++ [i]) ∧ w.grownBy w' v.ownBlock ∧ (∀ k, v'.ownBlock = some k → v.ownBlock = some k ∨ w.heap.size ≤ k) := by
  obtain ⟨i0, hi, hz0, hz1, hz2⟩ := info_parts E.hi
  have hbt := E.hb
  have hmul : (S.length + 1) * bt ≤ 1048576 * 512 := Nat.mul_le_mul (by omega) hbt
  obtain ⟨v', w', hr, h2, h3, -⟩ := run_append_own (P := Tryz.prog) w base T ty e i0 (.agg z) 30 i0.bytes E.ht hi hz0 hz1 rfl E.hz (by omega) v S.length (xs S) hown ad 1 c (xs [i]) (xs_length [i]) hF.cells (xs_one [i]) (by unfold maxLen; omega) (by rw [hz2]; omega) hbase
  have h4 := app_new E base ty i0 hi hz0 hz1 hz2 v S.length (xs S) hown ad 1 c (xs [i]) (xs_length [i]) hF.cells (xs_one [i]) (by omega) (by omega) v' w' hr
  exact ⟨v', w', hr, by rw [Rw, xs_append, List.length_append]; exact h2, h3, h4⟩
/-- A list of one item. -/
theorem run_build1 {T e : TypeId} {z : Array Value} {bt : Nat} (E : El T e z bt) (w : World) (i : It (Cx 28)) : (Instr.buildSlice T 1 #[(0, .agg (xc i))]).run Tryz.prog w = .ok (.slice (some ⟨w.heap.size, 0, none⟩) 1 1) (w.alloc (.cells (xc i) e)) := by
  obtain ⟨i0, hi, hz0, hz1, hz2⟩ := info_parts E.hi
  have hz := E.hz
  refine run_buildSlice w T e 1 _ (xc i) i0 _ E.ht hi hz0 (by rw [hz1]; decide) (by rw [hz1]; decide) ?_
  rw [hz1]
  have := Great.fill_whole (s := 30) (by omega) [.agg (xc i)] ((Array.range (1 * 30)).map ((Value.agg z).cells[· % (Value.agg z).cells.size]!)) (by
    intro v hv
    rw [List.mem_singleton.1 hv]
    exact xc_size i) (by simp)
  refine Eq.trans this ?_
  simp [Value.cells]
theorem ats_new (w : World) (e : TypeId) (i : It (Cx 28)) : Ats (w.alloc (.cells (xc i) e)) ⟨w.heap.size, 0, none⟩ [i] := ⟨fun j u hu => by
  have e1 : xs [i] = xl i := by simp [xs]
  rw [e1] at hu
  rw [Addr.add_mid, Nat.zero_add, cell_of_row (w.alloc (.cells (xc i) e)) w.heap.size j _ _ _ (heap_alloc_new w _)]
  simpa [xc] using hu⟩
theorem ld_mid {w : World} {g off : Nat} {i : It (Cx 28)} (h : w.rangeAt g off (xl i)) : (loadVar 135 ⟨g, off, none⟩).run Tryz.prog w = .ok (.agg (xc i)) w :=
  run_loadVar_mid (P := Tryz.prog) w g off 135 _ _ h Tryz.underlying135 rfl (by rw [xl_length]; kernel_rfl)
theorem Rw.alloc {e : TypeId} {w : World} {base : Nat} {v : Value} {S : List (It (Cx 28))} (h : Rw e w base v S) (o : Obj) : Rw e (w.alloc o) base v S := h.below ((Below.refl _ w).alloc (Nat.le_refl _) o) (Nat.le_refl _)
end Go.Proofs.YtmlfekbmbnfkjabGreatDoor.D

/-
  Where the sort's functions and types stand in this program.
-/
namespace Go.Proofs.YtmlfekbmbnfkjabGreatDoor.D
set_option maxRecDepth 100000

def sortRen : Go.Shelf.Ren := ⟨fun
   
    | 6 => 221
    | 15 => 211
    | 14 => 264
    | 28 => 244
    | 29 => 231
    | 20 => 284
    | 21 => 285
    | 22 => 286
    | 23 => 287
    | 24 => 288
    | 25 => 289
    | 26 => 290
    | 27 => 291
    | 46 => 296
    | 47 => 274
    | 48 => 275
    | 49 => 297
    | 50 => 298
    | 57 => 301
    | n => n, fun
   
    | 22 => 187
    | 24 => 135
    | 25 => 224
    | 3 => 3
    | 39 => 239
    | 0 => 0
    | 53 => 270
    | 55 => 236
    | 4 => 4
    | 46 => 274
    | 45 => 273
    | 50 => 278
    | 5 => 5
    | 9 => 9
    | 66 => 297
    | 70 => 96
    | 76 => 314
    | 77 => 157
    | n => n, fun
   
    | n => n⟩
theorem sortLaid : Go.Proofs.SlLaysF0.n6 Tryz.prog sortRen :=
  {
    mixed := by kernel_rfl,
    f6 := ⟨Tryz.f221.name, by decide, Tryz.func221.trans (congrArg some (by kernel_rfl))⟩,
    f14 := ⟨Tryz.f264.name, by decide, Tryz.func264.trans (congrArg some (by kernel_rfl))⟩,
    f15 := Tryz.func211.trans (congrArg some (by kernel_rfl)),
    f20 := ⟨Tryz.f284.name, by decide, Tryz.func284.trans (congrArg some (by kernel_rfl))⟩,
    f21 := ⟨Tryz.f285.name, by decide, Tryz.func285.trans (congrArg some (by kernel_rfl))⟩,
    f22 := ⟨Tryz.f286.name, by decide, Tryz.func286.trans (congrArg some (by kernel_rfl))⟩,
    f23 := ⟨Tryz.f287.name, by decide, Tryz.func287.trans (congrArg some (by kernel_rfl))⟩,
    f24 := ⟨Tryz.f288.name, by decide, Tryz.func288.trans (congrArg some (by kernel_rfl))⟩,
    f25 := ⟨Tryz.f289.name, by decide, Tryz.func289.trans (congrArg some (by kernel_rfl))⟩,
    f26 := ⟨Tryz.f290.name, by decide, Tryz.func290.trans (congrArg some (by kernel_rfl))⟩,
    f27 := ⟨Tryz.f291.name, by decide, Tryz.func291.trans (congrArg some (by kernel_rfl))⟩,
    f28 := Tryz.func244.trans (congrArg some (by kernel_rfl)),
    f29 := Tryz.func231.trans (congrArg some (by kernel_rfl)),
    f46 := ⟨Tryz.f296.name, by decide, Tryz.func296.trans (congrArg some (by kernel_rfl))⟩,
    f47 := Tryz.func274.trans (congrArg some (by kernel_rfl)),
    f48 := Tryz.func275.trans (congrArg some (by kernel_rfl)),
    f49 := ⟨Tryz.f297.name, by decide, Tryz.func297.trans (congrArg some (by kernel_rfl))⟩,
    f50 := ⟨Tryz.f298.name, by decide, Tryz.func298.trans (congrArg some (by kernel_rfl))⟩,
    f57 := ⟨Tryz.f301.name, by decide, Tryz.func301.trans (congrArg some (by kernel_rfl))⟩,
    t0 := Tryz.underlying0,
    a0 := Tryz.isAgg0,
    z0 := Tryz.sizeOf0,
    v0 := Tryz.zeroValue0,
    t3 := Tryz.underlying3,
    a3 := Tryz.isAgg3,
    z3 := Tryz.sizeOf3,
    v3 := Tryz.zeroValue3,
    t4 := Tryz.underlying4,
    a4 := Tryz.isAgg4,
    z4 := Tryz.sizeOf4,
    v4 := Tryz.zeroValue4,
    t5 := Tryz.underlying5,
    a5 := Tryz.isAgg5,
    z5 := Tryz.sizeOf5,
    v5 := Tryz.zeroValue5,
    t9 := Tryz.underlying9,
    a9 := Tryz.isAgg9,
    z9 := Tryz.sizeOf9,
    v9 := Tryz.zeroValue9,
    t22 := Tryz.underlying187,
    a22 := Tryz.isAgg187,
    z22 := Tryz.sizeOf187,
    v22 := Tryz.zeroValue187,
    t25 := Tryz.underlying224,
    a25 := Tryz.isAgg224,
    z25 := Tryz.sizeOf224,
    v25 := Tryz.zeroValue224,
    t39 := Tryz.underlying239,
    a39 := Tryz.isAgg239,
    z39 := Tryz.sizeOf239,
    v39 := Tryz.zeroValue239,
    t45 := Tryz.underlying273,
    a45 := Tryz.isAgg273,
    z45 := Tryz.sizeOf273,
    v45 := Tryz.zeroValue273,
    t46 := Tryz.underlying274,
    a46 := Tryz.isAgg274,
    z46 := Tryz.sizeOf274,
    v46 := Tryz.zeroValue274,
    t50 := Tryz.underlying278,
    a50 := Tryz.isAgg278,
    z50 := Tryz.sizeOf278,
    v50 := Tryz.zeroValue278,
    t53 := Tryz.underlying270,
    a53 := Tryz.isAgg270,
    z53 := Tryz.sizeOf270,
    v53 := Tryz.zeroValue270,
    t55 := Tryz.underlying236,
    a55 := Tryz.isAgg236,
    z55 := Tryz.sizeOf236,
    v55 := Tryz.zeroValue236,
    t66 := Tryz.underlying297,
    a66 := Tryz.isAgg297,
    z66 := Tryz.sizeOf297,
    v66 := Tryz.zeroValue297,
    t70 := Tryz.underlying96,
    a70 := Tryz.isAgg96,
    z70 := Tryz.sizeOf96,
    v70 := Tryz.zeroValue96,
    t76 := Tryz.underlying314,
    a76 := Tryz.isAgg314,
    z76 := Tryz.sizeOf314,
    v76 := Tryz.zeroValue314,
    t77 := Tryz.underlying157,
    a77 := Tryz.isAgg157,
    z77 := Tryz.sizeOf157,
    v77 := Tryz.zeroValue157 }
end Go.Proofs.YtmlfekbmbnfkjabGreatDoor.D

