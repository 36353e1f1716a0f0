/-
  Things of many cells under dots.
-/
import Derived.Test.YtmlfekbmbnfkjabGreatDoorR13
import Derived.Test.YtmlfekbmbnfkjabGreatDoorR02
import Derived.Test.YtmlfekbmbnfkjabGreatDoorR03
import Derived.Test.YtmlfekbmbnfkjabGreatDoorR04
import Derived.Maps.RangeRun
import Derived.OwnWalk
import Derived.RangeFuncNested
import Derived.RangeFuncStops
import Derived.Shelf.Abstract
import Derived.Shelf.AbstractIn
import Derived.WalkKit
import Derived.OwnWalkIn
import Derived.TacticsInMore
import Derived.LoopNIn
import Derived.LoopIn
namespace Go.Proofs.YtmlfekbmbnfkjabGreatDoor
set_option maxRecDepth 100000
open Go.RowKit

/-- A thing's cells. -/
structure Cx (k : Nat) where
  l : List Value
  len : l.length = k
  one : ∀ u ∈ l, u.oneCell' = true
theorem Cx.same {k : Nat} {a b : Cx k} (h : a.l = b.l) : a = b := by
  cases a; cases b; cases h; rfl
/-- An item's cells. -/
def xl {k : Nat} (i : It (Cx k)) : List Value := .int .i64 i.r :: .int .i64 i.n :: i.x.l
def xc {k : Nat} (i : It (Cx k)) : Array Value := (xl i).toArray
theorem xl_length {k : Nat} (i : It (Cx k)) : (xl i).length = k + 2 := by simp [xl, i.x.len]
theorem xc_size {k : Nat} (i : It (Cx k)) : (xc i).size = k + 2 := by rw [xc, List.size_toArray, xl_length]
theorem xl_one {k : Nat} (i : It (Cx k)) : ∀ u ∈ xl i, u.oneCell' = true := by
  intro u hu
  simp only [xl, List.mem_cons] at hu
  rcases hu with rfl | rfl | hu
  · rfl
  · rfl
  · exact i.x.one u hu
theorem xc_one {k : Nat} (i : It (Cx k)) : (xc i).all (·.oneCell') = true := by
  rw [Array.all_eq_true_iff_forall_mem]
  exact fun u hu => xl_one i u (by simpa [xc] using hu)
/-- The cells of many. -/
def xs {k : Nat} (S : List (It (Cx k))) : List Value := S.flatMap xl
theorem xs_cons {k : Nat} (i : It (Cx k)) (S : List (It (Cx k))) : xs (i :: S) = xl i ++ xs S := by simp [xs]
theorem xs_length {k : Nat} : ∀ S : List (It (Cx k)), (xs S).length = S.length * (k + 2)
  | [] => by simp [xs]
  | i :: S => by
    rw [xs_cons, List.length_append, xs_length S, xl_length, List.length_cons, Nat.succ_mul]; omega
theorem xs_append {k : Nat} (S T : List (It (Cx k))) : xs (S ++ T) = xs S ++ xs T := by simp [xs]
theorem xs_one {k : Nat} (S : List (It (Cx k))) : ∀ u ∈ xs S, u.oneCell' = true := by
  intro u hu
  obtain ⟨i, -, h⟩ := List.mem_flatMap.1 hu
  exact xl_one i u h
theorem xs_at {k : Nat} : ∀ {S : List (It (Cx k))} (p : Nat) (i : It (Cx k)), S[p]? = some i → ∀ (j : Nat) (v : Value), (xl i)[j]? = some v → (xs S)[p * (k + 2) + j]? = some v
  | [], p, i, hi, j, v, hv => by simp at hi
  | x :: S, p, i, hi, j, v, hv => by
    cases p with
    | zero =>
      have : x = i := by simpa using hi
      subst this
      have hj : j < k + 2 := by have := (List.getElem?_eq_some_iff.1 hv).1; rw [xl_length] at this; exact this
      rw [xs_cons, Nat.zero_mul, Nat.zero_add, List.getElem?_append_left (by rw [xl_length]; omega)]
      exact hv
    | succ p =>
      rw [xs_cons, List.getElem?_append_right (by rw [xl_length, Nat.succ_mul]; omega), xl_length, show (p + 1) * (k + 2) + j - (k + 2) = p * (k + 2) + j by rw [Nat.succ_mul]; omega]
      exact xs_at p i (by simpa using hi) j v hv
theorem xs_set {k : Nat} : ∀ (S : List (It (Cx k))) (p : Nat) (i : It (Cx k)), p < S.length → xs (S.set p i) = (xs S).take (p * (k + 2)) ++ (xl i ++ (xs S).drop ((p + 1) * (k + 2)))
  | [], p, i, h => by simp at h
  | a :: S, 0, i, h => by
    have hl := xl_length a
    rw [List.set_cons_zero, xs_cons, xs_cons, Nat.zero_mul, List.take_zero, List.nil_append, Nat.zero_add, Nat.one_mul, ← hl, List.drop_left]
  | a :: S, p + 1, i, h => by
    have ih := xs_set S p i (by simpa using h)
    have hl := xl_length a
    have e1 : (p + 1) * (k + 2) = (xl a).length + p * (k + 2) := by rw [hl, Nat.succ_mul]; omega
    have e2 : (p + 1 + 1) * (k + 2) = (xl a).length + (p + 1) * (k + 2) := by rw [hl, Nat.succ_mul (p + 1)]; omega
    have t1 : (xl a ++ xs S).take ((p + 1) * (k + 2)) = xl a ++ (xs S).take (p * (k + 2)) := by rw [e1, List.take_length_add_append]
    rw [List.set_cons_succ, xs_cons, xs_cons, ih, t1, e2, List.drop_length_add_append, List.append_assoc]
theorem take_mid {C X : List Value} {p q N : Nat} (hN : N ≤ C.length) (hp : p + q ≤ N) (hX : X.length = q) : (C.take p ++ X ++ C.drop (p + q)).take N = (C.take N).take p ++ (X ++ (C.take N).drop (p + q)) := by
  have h1 : (C.take p ++ X).length = p + q := by rw [List.length_append, List.length_take, hX]; omega
  rw [List.take_append, List.take_of_length_le (by omega), h1, List.drop_take, List.take_take, Nat.min_eq_left (by omega), List.append_assoc]
/-- What a call may have turned: a block and a map; the map is then the old one, or a new one. -/
structure Tn (g : Nat) (m m' : Option Nat) (w w' : World) : Prop where
  os : w'.os = w.os
  tape : w'.tape = w.tape
  output : w'.output = w.output
  size : w.heap.size ≤ w'.heap.size
  block : ∀ k, k < w.heap.size → k ≠ g → m ≠ some k → w'.heap[k]? = w.heap[k]?
  own : ∀ k, m' = some k → m = some k ∨ w.heap.size ≤ k
theorem Tn.refl (g : Nat) (m : Option Nat) (w : World) : Tn g m m w w := ⟨rfl, rfl, rfl, Nat.le_refl _, fun _ _ _ _ => rfl, fun _ h => .inl h⟩
theorem Tn.trans {g : Nat} {m m' m'' : Option Nat} {a b c : World} (h : Tn g m m' a b) (k : Tn g m' m'' b c) : Tn g m m'' a c :=
  ⟨k.os.trans h.os, k.tape.trans h.tape, k.output.trans h.output, Nat.le_trans h.size k.size,
   fun i hi hg hv => (k.block i (Nat.lt_of_lt_of_le hi h.size) hg (fun e => by rcases h.own i e with h1 | h1; · exact hv h1
                                                                               · omega)).trans (h.block i hi hg hv),
   fun i hi => by
    rcases k.own i hi with h1 | h1
    · exact h.own i h1
    · exact .inr (Nat.le_trans h.size h1)⟩
theorem Tn.of_below {g : Nat} (m : Option Nat) {w w' : World} (h : Below w.heap.size w w') : Tn g m m w w' :=
  ⟨h.os, h.tape, h.output, h.size, fun k hk _ _ => h.block k hk, fun _ e => .inl e⟩
theorem Tn.below {g B : Nat} {m m' : Option Nat} {w w' : World} (h : Tn g m m' w w') (hB : B ≤ w.heap.size) (hg : B ≤ g) (hv : ∀ k, m = some k → B ≤ k) : Below B w w' :=
  ⟨h.os, h.tape, h.output, h.size, fun k hk => h.block k (by omega) (by omega) (fun e => by have := hv k e; omega)⟩
/-- Blocks of cells are as they were, but for those of one type. -/
def Kpc (th : TypeId) (W w' : World) : Prop := W.heap.size ≤ w'.heap.size ∧ ∀ (k : Nat) (cur : Array Value) (t : TypeId), t ≠ th → W.heap[k]? = some (.cells cur t (0, 0)) → w'.heap[k]? = W.heap[k]?
theorem Kpc.trans {th : TypeId} {a b c : World} (h : Kpc th a b) (k : Kpc th b c) : Kpc th a c :=
  ⟨Nat.le_trans h.1 k.1, fun i cur t ht hi => (k.2 i cur t ht ((h.2 i cur t ht hi).trans hi)).trans (h.2 i cur t ht hi)⟩
theorem Kpc.of_below {th : TypeId} {a b : World} (h : Below a.heap.size a b) : Kpc th a b :=
  ⟨h.size, fun k _ _ _ hk => h.block k (Array.getElem?_eq_some_iff.1 hk).1⟩
theorem grown_of_below {a b : World} (h : Below a.heap.size a b) : a.grownBy b none := ⟨h.os, h.tape, h.output, h.size, fun k hk _ => h.block k hk⟩
end Go.Proofs.YtmlfekbmbnfkjabGreatDoor

/-
  The zero thing, 28 cells an item.
-/
namespace Go.Proofs.YtmlfekbmbnfkjabGreatDoor.E
set_option maxRecDepth 100000
open Go.RowKit

def zx : Cx 26 := ⟨evl zv, by simp [evl, opl, zv, zeros], by
  intro u hu
  simp [evl, opl, zv, zeros] at hu
  rcases hu with rfl | rfl | rfl | rfl <;> rfl⟩
theorem zx_cells : xc (⟨0, 0, zx⟩ : It (Cx 26)) = #[Value.int IntKind.i64 0, Value.int IntKind.i64 0, Value.int IntKind.i64 0, Value.int IntKind.i64 0, Value.int IntKind.i64 0, Value.int IntKind.i64 0, Value.int IntKind.i64 0, Value.int IntKind.i64 0, Value.int IntKind.i64 0, Value.int IntKind.i64 0, Value.int IntKind.i64 0, Value.int IntKind.i64 0, Value.int IntKind.i64 0, Value.int IntKind.i64 0, Value.int IntKind.i64 0, Value.int IntKind.i64 0, Value.int IntKind.i64 0, Value.int IntKind.i64 0, Value.int IntKind.i64 0, Value.int IntKind.i64 0, Value.int IntKind.i64 0, Value.int IntKind.i64 0, Value.string { data := #[] }, Value.string { data := #[] }, Value.string { data := #[] }, Value.int IntKind.i64 0, Value.int IntKind.i64 0, Value.int IntKind.i64 0] := rfl
end Go.Proofs.YtmlfekbmbnfkjabGreatDoor.E

/-
  The zero thing, 30 cells an item.
-/
namespace Go.Proofs.YtmlfekbmbnfkjabGreatDoor.D
set_option maxRecDepth 100000
open Go.RowKit

def zx : Cx 28 := ⟨(evl zv ++ [.int .i64 0, .int .i64 0]), by simp [evl, opl, zv, zeros], by
  intro u hu
  simp [evl, opl, zv, zeros] at hu
  rcases hu with rfl | rfl | rfl | rfl <;> rfl⟩
theorem zx_cells : xc (⟨0, 0, zx⟩ : It (Cx 28)) = #[Value.int IntKind.i64 0, Value.int IntKind.i64 0, Value.int IntKind.i64 0, Value.int IntKind.i64 0, Value.int IntKind.i64 0, Value.int IntKind.i64 0, Value.int IntKind.i64 0, Value.int IntKind.i64 0, Value.int IntKind.i64 0, Value.int IntKind.i64 0, Value.int IntKind.i64 0, Value.int IntKind.i64 0, Value.int IntKind.i64 0, Value.int IntKind.i64 0, Value.int IntKind.i64 0, Value.int IntKind.i64 0, Value.int IntKind.i64 0, Value.int IntKind.i64 0, Value.int IntKind.i64 0, Value.int IntKind.i64 0, Value.int IntKind.i64 0, Value.int IntKind.i64 0, Value.string { data := #[] }, Value.string { data := #[] }, Value.string { data := #[] }, Value.int IntKind.i64 0, Value.int IntKind.i64 0, Value.int IntKind.i64 0, Value.int IntKind.i64 0, Value.int IntKind.i64 0] := rfl
end Go.Proofs.YtmlfekbmbnfkjabGreatDoor.D

/-
  Live and dead events as things under dots.
-/
namespace Go.Proofs.YtmlfekbmbnfkjabGreatDoor
set_option maxRecDepth 100000
open Go.RowKit

/-- A dead event, and the dot of what ended it. -/
structure Ed where
  push : Ev
  br : Int
  bn : Int
def edl (d : Ed) : List Value := evl d.push ++ [.int .i64 d.br, .int .i64 d.bn]
theorem evl_one (e : Ev) : ∀ u ∈ evl e, u.oneCell' = true := by
  have := evc_one e
  rw [Array.all_eq_true_iff_forall_mem] at this
  exact fun u hu => this u (by simpa [evc] using hu)
theorem edl_one (d : Ed) : ∀ u ∈ edl d, u.oneCell' = true := by
  intro u hu
  simp only [edl, List.mem_append, List.mem_cons, List.not_mem_nil, or_false] at hu
  rcases hu with hu | rfl | rfl
  · exact evl_one _ u hu
  · rfl
  · rfl
def evX (e : Ev) : Cx 26 := if h : e.deps.length = 16 then ⟨evl e, evl_length e h, evl_one e⟩ else E.zx
def edX (d : Ed) : Cx 28 := if h : d.push.deps.length = 16 then ⟨edl d, by simp [edl, evl_length _ h], edl_one d⟩ else D.zx
theorem evX_l {e : Ev} (h : e.deps.length = 16) : (evX e).l = evl e := by unfold evX; rw [dif_pos h]
theorem edX_l {d : Ed} (h : d.push.deps.length = 16) : (edX d).l = edl d := by unfold edX; rw [dif_pos h]
theorem evX_c {e : Ev} (h : e.deps.length = 16) : (evX e).l.toArray = evc e := by rw [evX_l h, evc]
def eit (e : Ev) : It (Cx 26) := ⟨e.r, e.n, evX e⟩
def dit (d : Ed) : It (Cx 28) := ⟨d.push.r, d.push.n, edX d⟩
def befE (a b : Ev) : Bool := decide (a.r < b.r ∨ (a.r = b.r ∧ a.n < b.n))
def putE (L : List Ev) (e : Ev) : List Ev := L.filter (fun a => befE a e) ++ e :: L.filter (fun a => befE e a)
def putD (D : List Ed) (d : Ed) : List Ed := D.filter (fun a => befE a.push d.push) ++ d :: D.filter (fun a => befE d.push a.push)
theorem put_eit (L : List Ev) (e : Ev) : put (L.map eit) (eit e) = (putE L e).map eit := by
  unfold put putE
  rw [List.filter_map, List.filter_map, List.map_append, List.map_cons]
  rfl
theorem put_dit (L : List Ed) (e : Ed) : put (L.map dit) (dit e) = (putD L e).map dit := by
  unfold put putD
  rw [List.filter_map, List.filter_map, List.map_append, List.map_cons]
  rfl
/-- In their dots' order. -/
def SrE (L : List Ev) : Prop := L.Pairwise fun a b => befE a b = true
def SrD (L : List Ed) : Prop := L.Pairwise fun a b => befE a.push b.push = true
theorem srt_eit {L : List Ev} : Srt (L.map eit) ↔ SrE L := by
  unfold Srt SrE
  rw [List.pairwise_map]
  exact Iff.rfl
theorem befE_iff {a b : Ev} : befE a b = true ↔ (a.r < b.r ∨ (a.r = b.r ∧ a.n < b.n)) := by simp [befE]
theorem SrE.same {L : List Ev} (h : SrE L) {a b : Ev} (ha : a ∈ L) (hb : b ∈ L) (hr : a.r = b.r) (hn : a.n = b.n) : a = b := by
  induction L with
  | nil => simp at ha
  | cons x L ih =>
    obtain ⟨h1, h2⟩ := List.pairwise_cons.1 h
    rcases List.mem_cons.1 ha with e1 | ha'
    · rcases List.mem_cons.1 hb with e2 | hb'
      · rw [e1, e2]
      · have := befE_iff.1 (h1 b hb'); rw [e1] at hr hn; omega
    · rcases List.mem_cons.1 hb with e2 | hb'
      · have := befE_iff.1 (h1 a ha'); rw [e2] at hr hn; omega
      · exact ih h2 ha' hb'
/-- What an event ends of live events: a Push is dead then. -/
def fell (e a : Ev) : Bool := endsE e a && decide (a.kind = 9)
def deadTo (e : Ev) (L : List Ev) (D : List Ed) : List Ed := L.foldl (fun D a => if fell e a then putD D ⟨a, e.r, e.n⟩ else D) D
theorem deadTo_snoc (e : Ev) (L : List Ev) (D : List Ed) (a : Ev) : deadTo e (L ++ [a]) D = if fell e a then putD (deadTo e L D) ⟨a, e.r, e.n⟩ else deadTo e L D := by simp [deadTo]
theorem ends_covers {e a : Ev} (h : hasv e.deps a.r a.n = false) : endsE e a = false := by
  unfold endsE coversE
  rw [h, Bool.false_and]
end Go.Proofs.YtmlfekbmbnfkjabGreatDoor

/-
  A bag's map in memory: one entry a thing, under its dot; what is stored, looked up, deleted.
-/
namespace Go.Proofs.YtmlfekbmbnfkjabGreatDoor.E
set_option maxRecDepth 100000
open Go.RowKit
open Go.ChangeMaps (setBlock heap_setBlock_same heap_setBlock_other)
open Go.MapKept (Stamped stamped_iff stamped_push stamped_modify stamped_erase stamped_empty)

def kvI (i : It (Cx 26)) : Value × Value := (.agg (dotc i.r i.n), .agg (xc i))
def kvE (e : MapEntry) : Value × Value := (e.key, e.val)
theorem dotc_inj {r n r' n' : Int} (h : (Value.agg (dotc r n)) = .agg (dotc r' n')) : r = r' ∧ n = n' := by
  simpa [dotc] using h

/-- A block is a map of these things. -/
def Mp (w : World) (b : Nat) (S : List (It (Cx 26))) : Prop :=
  ∃ (es : Array MapEntry) (clock : Nat) (L : List (It (Cx 26))), w.heap[b]? = some (.map es clock) ∧ Stamped es clock ∧ es.toList.map kvE = L.map kvI ∧ L.Perm S ∧ Srt S

theorem Mp.lt {w : World} {b : Nat} {S : List (It (Cx 26))} (h : Mp w b S) : b < w.heap.size := by
  obtain ⟨es, clock, L, hb, -⟩ := h
  exact (Array.getElem?_eq_some_iff.1 hb).1
theorem Mp.srt {w : World} {b : Nat} {S : List (It (Cx 26))} (h : Mp w b S) : Srt S := by
  obtain ⟨es, clock, L, -, -, -, -, hS⟩ := h
  exact hS
theorem Mp.kept {w w' : World} {b : Nat} {S : List (It (Cx 26))} (h : Mp w b S) (hk : w'.heap[b]? = w.heap[b]?) : Mp w' b S := by
  obtain ⟨es, clock, L, hb, rest⟩ := h
  exact ⟨es, clock, L, hk.trans hb, rest⟩
theorem Mp.below {w w' : World} {b B : Nat} {S : List (It (Cx 26))} (h : Mp w b S) (hb : Below B w w') (hB : b < B) : Mp w' b S := h.kept (hb.block b hB)
theorem Mp.alloc {w : World} {b : Nat} {S : List (It (Cx 26))} (h : Mp w b S) (o : Obj) : Mp (w.alloc o) b S := h.kept (Below.heap_alloc w o b h.lt)
theorem mp_new (w : World) : Mp (w.alloc (.map #[] 0)) w.heap.size [] :=
  ⟨#[], 0, [], MapKept.heap_alloc w _ |>.1, stamped_empty 0, rfl, List.Perm.refl _, Srt.nil⟩

theorem run_equal_dot (w : World) (r n r' n' : Int) : (Op.equal 32 (.agg (dotc r n)) (.agg (dotc r' n'))).run Tryz.prog w = .ok (decide (r = r' ∧ n = n')) w := run_equalIn_dot w 9998 r n r' n'
theorem run_checkKey_dot (w : World) (em : Bool) (r n : Int) : (Instr.checkKey em 10000 32 (.agg (dotc r n))).run Tryz.prog w = .ok () w := by kernel_rfl
theorem run_keyStays_dot (w : World) (r n : Int) : (Instr.keyThatStays (.agg (dotc r n)) (.agg (dotc r n))).run Tryz.prog w = .ok (.agg (dotc r n)) w := by
  simp [Instr.keyThatStays, Instr.sameBits, dotc]

theorem run_findAsking_dot (r n : Int) : ∀ (es : List MapEntry) (L : List (It (Cx 26))) (k : Nat), es.map kvE = L.map kvI →
    (find L r n = none ∧ ∀ w, (Instr.findAsking 32 (.agg (dotc r n)) es k).run Tryz.prog w = .ok none w) ∨
    ∃ j i, L[j]? = some i ∧ i.r = r ∧ i.n = n ∧ find L r n = some i ∧ ∀ w, (Instr.findAsking 32 (.agg (dotc r n)) es k).run Tryz.prog w = .ok (some (k + j, .agg (xc i))) w
  | [], [], k, _ => .inl ⟨rfl, fun w => by simp [Instr.findAsking]⟩
  | [], _ :: _, k, h => by simp at h
  | _ :: _, [], k, h => by simp at h
  | e :: es, i :: L, k, h => by
    simp only [List.map_cons, List.cons.injEq, kvE, kvI, Prod.mk.injEq] at h
    obtain ⟨⟨h1, h2⟩, h3⟩ := h
    have ih := run_findAsking_dot r n es L (k + 1) h3
    by_cases hd : r = i.r ∧ n = i.n
    · obtain ⟨rfl, rfl⟩ := hd
      refine .inr ⟨0, i, rfl, rfl, rfl, by simp [find, isAt], fun w => ?_⟩
      simp [Instr.findAsking, Sem.run_bind, h1, h2, run_equal_dot]
    · have hne : isAt r n i = false := by
        cases hh : isAt r n i
        · rfl
        · rw [isAt_iff] at hh; exact absurd ⟨hh.1.symm, hh.2.symm⟩ hd
      have hf : find (i :: L) r n = find L r n := by simp [find, hne]
      have hs : ∀ w, (Instr.findAsking 32 (.agg (dotc r n)) (e :: es) k).run Tryz.prog w = (Instr.findAsking 32 (.agg (dotc r n)) es (k + 1)).run Tryz.prog w := fun w => by
        simp [Instr.findAsking, Sem.run_bind, h1, run_equal_dot, hd]
      rw [hf]
      rcases ih with ⟨a, c⟩ | ⟨j, x, a, b, c, d, f⟩
      · exact .inl ⟨a, fun w => (hs w).trans (c w)⟩
      · exact .inr ⟨j + 1, x, a, b, c, d, fun w => by rw [hs w, f w, show k + 1 + j = k + (j + 1) by omega]⟩
theorem run_findKey_dot (r n : Int) (es : List MapEntry) (L : List (It (Cx 26))) (h : es.map kvE = L.map kvI) :
    (find L r n = none ∧ ∀ w, (Instr.findKey 32 (.agg (dotc r n)) es).run Tryz.prog w = .ok none w) ∨
    ∃ j i, L[j]? = some i ∧ i.r = r ∧ i.n = n ∧ find L r n = some i ∧ ∀ w, (Instr.findKey 32 (.agg (dotc r n)) es).run Tryz.prog w = .ok (some (j, .agg (xc i))) w := by
  cases es with
  | nil =>
    have hL : L = [] := by
      cases L with
      | nil => rfl
      | cons a L => simp at h
    subst hL
    exact .inl ⟨rfl, fun w => by simp [Instr.findKey, run_underlying Tryz.underlying32, Instr.findNow]⟩
  | cons e es =>
    have h0 := run_findAsking_dot r n (e :: es) L 0 h
    have hs : ∀ w, (Instr.findKey 32 (.agg (dotc r n)) (e :: es)).run Tryz.prog w = (Instr.findAsking 32 (.agg (dotc r n)) (e :: es) 0).run Tryz.prog w := fun w => by
      simp [Instr.findKey, Sem.run_bind, run_underlying Tryz.underlying32, Instr.findNow, Instr.sameNow]
    rcases h0 with ⟨a, c⟩ | ⟨j, i, a, b, c, d, f⟩
    · exact .inl ⟨a, fun w => (hs w).trans (c w)⟩
    · exact .inr ⟨j, i, a, b, c, d, fun w => by rw [hs w, f w, Nat.zero_add]⟩

theorem find_perm {L S : List (It (Cx 26))} (hp : L.Perm S) (hS : Srt S) (r n : Int) : find L r n = find S r n := by
  cases hf : find L r n with
  | none =>
    symm
    rw [find_none] at hf ⊢
    cases hh : hasD S r n
    · rfl
    · obtain ⟨i, hi, h1, h2⟩ := hasD_iff.1 hh
      have : hasD L r n = true := hasD_iff.2 ⟨i, hp.mem_iff.2 hi, h1, h2⟩
      rw [hf] at this; cases this
  | some i =>
    obtain ⟨hi, rfl, rfl⟩ := find_mem hf
    exact (find_some hS (hp.mem_iff.1 hi)).symm

/-- 'v, ok := m[d]'. -/
theorem Mp.lookup {w : World} {b : Nat} {S : List (It (Cx 26))} (h : Mp w b S) (r n : Int) :
    (Instr.lookup 79 (.map (some b)) (.agg (dotc r n)) true).run Tryz.prog w = .ok (.tuple #[.agg (xc ((find S r n).getD ⟨0, 0, zx⟩)), .bool (hasD S r n)]) w := by
  obtain ⟨es, clock, L, hb, hst, hL, hp, hS⟩ := h
  rw [hasD_find, ← find_perm hp hS]
  rcases run_findKey_dot r n es.toList L hL with ⟨h1, h2⟩ | ⟨j, i, h1, rfl, rfl, h2, h3⟩
  · simp [Instr.lookup, Sem.run_bind, run_underlying Tryz.underlying79, MapKept.run_getObj_map hb, run_checkKey_dot, h2, h1, Tryz.zeroValue112, zx_cells]
  · simp [Instr.lookup, Sem.run_bind, run_underlying Tryz.underlying79, MapKept.run_getObj_map hb, run_checkKey_dot, h3, h2]
theorem lookup_nil (w : World) (r n : Int) : (Instr.lookup 79 (.map none) (.agg (dotc r n)) true).run Tryz.prog w = .ok (.tuple #[.agg (xc ⟨0, 0, zx⟩), .bool false]) w := by
  rcases run_findKey_dot r n [] [] rfl with ⟨h1, h2⟩ | ⟨j, i, h1, _⟩
  · simp [Instr.lookup, Sem.run_bind, run_underlying Tryz.underlying79, run_checkKey_dot, h2, Tryz.zeroValue112, zx_cells]
  · simp at h1
/-- 'm[d] = Item{d, x}'. -/
theorem Mp.update {w : World} {b : Nat} {S : List (It (Cx 26))} (h : Mp w b S) (i : It (Cx 26)) :
    ∃ o : Obj, ∀ W : World, W.heap[b]? = w.heap[b]? → (Instr.mapUpdate 79 (.map (some b)) (.agg (dotc i.r i.n)) (.agg (xc i))).run Tryz.prog W = .ok () (setBlock W b o) ∧ Mp (setBlock W b o) b (put S i) := by
  obtain ⟨es, clock, L, hb0, hst, hL, hp, hS⟩ := h
  rw [hb0]
  have hkeys : ∀ x ∈ es.toList, ∃ j ∈ L, x.key = .agg (dotc j.r j.n) := fun x hx => by
    have : kvE x ∈ L.map kvI := by rw [← hL]; exact List.mem_map.2 ⟨x, hx, rfl⟩
    obtain ⟨j, hj, e⟩ := List.mem_map.1 this
    exact ⟨j, hj, (congrArg Prod.fst e).symm⟩
  rcases run_findKey_dot i.r i.n es.toList L hL with ⟨h1, h2⟩ | ⟨j, i0, h1, hr, hn, h2, h3⟩
  · have hno : ∀ x ∈ es.toList, x.key ≠ .agg (dotc i.r i.n) := fun x hx e => by
      obtain ⟨j, hj, e'⟩ := hkeys x hx
      rw [e'] at e
      obtain ⟨e1, e2⟩ := dotc_inj e
      rw [find_none] at h1
      have : hasD L i.r i.n = true := hasD_iff.2 ⟨j, hj, e1, e2⟩
      rw [h1] at this; cases this
    refine ⟨.map (es.push ⟨.agg (dotc i.r i.n), .agg (xc i), clock⟩) (clock + 1), fun w hb => ⟨?_, _, _, L ++ [i], heap_setBlock_same hb _, stamped_push hst hno, ?_, ?_, hS.put i⟩⟩
    · simp [Instr.mapUpdate, Sem.run_bind, run_underlying Tryz.underlying79, MapKept.run_getObj_map hb, run_checkKey_dot, h2, MapKept.run_setObj_map _ hb, setBlock]
    · rw [Array.toList_push, List.map_append, hL, List.map_append]; rfl
    · refine (List.perm_append_singleton i L).trans (((hp.cons i).trans ?_).trans (put_perm S i).symm)
      rw [del_of_not]
      rw [find_perm hp hS, find_none] at h1
      exact h1
  · have hkey : i0.r = i.r ∧ i0.n = i.n := ⟨hr, hn⟩
    have hjl : j < es.toList.length := by
      have h4 := (List.getElem?_eq_some_iff.1 h1).1
      have h5 := congrArg List.length hL
      simp only [List.length_map] at h5
      omega
    have hjs : j < es.size := by simpa using hjl
    obtain ⟨e0, he0⟩ : ∃ e0, es.toList[j]? = some e0 := ⟨_, List.getElem?_eq_getElem hjl⟩
    have hej : kvE e0 = kvI i0 := by
      have h4 : (es.toList.map kvE)[j]? = (L.map kvI)[j]? := by rw [hL]
      rw [List.getElem?_map, List.getElem?_map, h1, he0] at h4
      simpa using h4
    have hk0 : e0.key = .agg (dotc i.r i.n) := by
      have := congrArg Prod.fst hej
      simpa [kvE, kvI, hkey.1, hkey.2] using this
    have hj? : es[j]? = some e0 := by simpa using he0
    refine ⟨.map (es.modify j fun e => { e with key := .agg (dotc i.r i.n), val := .agg (xc i) }) clock, fun w hb => ⟨?_, _, _, L.set j i, heap_setBlock_same hb _, stamped_modify hst _ _ (fun _ _ => rfl) (fun e _ he => ?_), ?_, ?_, hS.put i⟩⟩
    · simp [Instr.mapUpdate, Sem.run_bind, run_underlying Tryz.underlying79, MapKept.run_getObj_map hb, run_checkKey_dot, h3, MapKept.run_setObj_map _ hb, setBlock, hj?, hk0, run_keyStays_dot]
    · rw [hj?] at he
      cases he
      exact hk0.symm
    · rw [Array.toList_modify]
      apply List.ext_getElem?
      intro m
      by_cases hm : m = j
      · subst hm
        rw [List.getElem?_map, List.getElem?_map, List.getElem?_modify_eq, he0, List.getElem?_set_self (List.getElem?_eq_some_iff.1 h1).1]
        rfl
      · rw [List.getElem?_map, List.getElem?_map, List.getElem?_modify, List.getElem?_set_ne (fun e => hm (Eq.symm e))]
        have h8 : (es.toList.map kvE)[m]? = (L.map kvI)[m]? := by rw [hL]
        have h9 : ¬ j = m := fun e => hm e.symm
        simpa [h9] using h8
    · have p1 : L.Perm (i0 :: L.eraseIdx j) := perm_erase h1
      have p2 : (L.set j i).Perm (i :: L.eraseIdx j) := perm_set h1
      refine p2.trans (List.Perm.trans ?_ (put_perm S i).symm)
      refine List.Perm.cons i ?_
      have p3 : (i0 :: L.eraseIdx j).Perm S := p1.symm.trans hp
      have p4 := p3.filter (fun x => !isAt i.r i.n x)
      rw [List.filter_cons_of_neg (by simp [isAt, hr, hn])] at p4
      refine List.Perm.trans (List.Perm.of_eq (List.filter_eq_self.2 fun x hx => ?_).symm) p4
      have ap : (i0 :: L.eraseIdx j).Pairwise fun a b => ¬ (a.r = b.r ∧ a.n = b.n) := (p3.symm.pairwise_iff (fun {a b} (hh : ¬ (a.r = b.r ∧ a.n = b.n)) e => hh ⟨e.1.symm, e.2.symm⟩)).1 hS.apart
      have := (List.pairwise_cons.1 ap).1 x hx
      cases hh : isAt i.r i.n x
      · rfl
      · rw [isAt_iff] at hh; exact absurd ⟨hr.trans hh.1.symm, hn.trans hh.2.symm⟩ this
/-- 'delete(m, d)'. -/
theorem Mp.delete {w : World} {b : Nat} {S : List (It (Cx 26))} (h : Mp w b S) (r n : Int) (ty : TypeId) :
    ∃ o : Obj, ∀ W : World, W.heap[b]? = w.heap[b]? → (Builtin.delete_ #[79, 32] ty #[.map (some b), .agg (dotc r n)]).run Tryz.prog W = .ok (.tuple #[]) (setBlock W b o) ∧ Mp (setBlock W b o) b (del S r n) := by
  obtain ⟨es, clock, L, hb0, hst, hL, hp, hS⟩ := h
  rw [hb0]
  rcases run_findKey_dot r n es.toList L hL with ⟨h1, h2⟩ | ⟨j, i0, h1, hr, hn, h2, h3⟩
  · refine ⟨.map es clock, fun w hb => ⟨?_, _, _, L, heap_setBlock_same hb _, hst, hL, ?_, hS.del r n⟩⟩
    · simp [Builtin.delete_, Sem.run_bind, run_underlying Tryz.underlying79, MapKept.run_getObj_map hb, run_checkKey_dot, h2, MapKept.run_setObj_map _ hb, setBlock]
    · rw [find_perm hp hS, find_none] at h1
      rw [del_of_not h1]; exact hp
  · have hjL := (List.getElem?_eq_some_iff.1 h1).1
    have hjl : j < es.toList.length := by
      have h5 := congrArg List.length hL
      simp only [List.length_map] at h5
      omega
    have hjs : j < es.size := by simpa using hjl
    have hsub : (es.eraseIdxIfInBounds j).toList = es.toList.eraseIdx j := by
      unfold Array.eraseIdxIfInBounds
      rw [dif_pos hjs]
      simp
    refine ⟨.map (es.eraseIdxIfInBounds j) clock, fun w hb => ⟨?_, _, _, L.eraseIdx j, heap_setBlock_same hb _, stamped_erase hst j, ?_, ?_, hS.del r n⟩⟩
    · simp [Builtin.delete_, Sem.run_bind, run_underlying Tryz.underlying79, MapKept.run_getObj_map hb, run_checkKey_dot, h3, MapKept.run_setObj_map _ hb, setBlock]
    · rw [hsub, map_erase, hL, map_erase]
    · have p1 : L.Perm (i0 :: L.eraseIdx j) := perm_erase h1
      have p3 : (i0 :: L.eraseIdx j).Perm S := p1.symm.trans hp
      have p4 := p3.filter (fun x => !isAt r n x)
      rw [List.filter_cons_of_neg (by simp [isAt, hr, hn])] at p4
      refine List.Perm.trans (List.Perm.of_eq (List.filter_eq_self.2 fun x hx => ?_).symm) p4
      have ap : (i0 :: L.eraseIdx j).Pairwise fun a b => ¬ (a.r = b.r ∧ a.n = b.n) := (p3.symm.pairwise_iff (fun {a b} (hh : ¬ (a.r = b.r ∧ a.n = b.n)) e => hh ⟨e.1.symm, e.2.symm⟩)).1 hS.apart
      have := (List.pairwise_cons.1 ap).1 x hx
      cases hh : isAt r n x
      · rfl
      · rw [isAt_iff] at hh; exact absurd ⟨hr.trans hh.1.symm, hn.trans hh.2.symm⟩ this
theorem delete_nil (w : World) (r n : Int) (ty : TypeId) : (Builtin.delete_ #[79, 32] ty #[.map none, .agg (dotc r n)]).run Tryz.prog w = .ok (.tuple #[]) w := by
  simp [Builtin.delete_, Sem.run_bind, run_underlying Tryz.underlying79, run_checkKey_dot]
theorem Mp.len {w : World} {b : Nat} {S : List (It (Cx 26))} (h : Mp w b S) (ty : TypeId) : (Builtin.len_ #[79] ty #[.map (some b)]).run Tryz.prog w = .ok (.int .i64 (S.length : Int)) w := by
  obtain ⟨es, clock, L, hb, hst, hL, hp, hS⟩ := h
  have h5 := congrArg List.length hL
  simp only [List.length_map, Array.length_toList] at h5
  simp [Builtin.len_, Sem.run_bind, run_underlying Tryz.underlying79, MapKept.run_getObj_map hb, goInt, h5, hp.length_eq]
theorem len_nil (w : World) (ty : TypeId) : (Builtin.len_ #[79] ty #[.map none]).run Tryz.prog w = .ok (.int .i64 0) w := by
  simp [Builtin.len_, Sem.run_bind, run_underlying Tryz.underlying79, goInt]
theorem grownBy_setBlock (w : World) (b : Nat) (o : Obj) : w.grownBy (setBlock w b o) (some b) :=
  ⟨rfl, rfl, rfl, by simp [setBlock], fun k _ hk => by
    have hne : b ≠ k := fun e => hk (by rw [e])
    simp [setBlock, hne]⟩
end Go.Proofs.YtmlfekbmbnfkjabGreatDoor.E

/-
  A load and a store whose runs are known, within a fence; a block that is laid whole.
-/
namespace Go.Proofs.YtmlfekbmbnfkjabGreatDoor
set_option maxRecDepth 100000
open Go.RowKit Go.Shelf

section
variable {F : Fence} {n : Nat} {P : Program} {w w' : World} {ops : Array Oper} {rest : List Oper} {o : Oper} {a : Act} {Q : Exit → Act → World → Prop} {x y : Operand} {ty : TypeId} {ad : Addr} {v : Value}
theorem wpListIn_loadR (hg : o.guard = none) (ho : o.op = .load ty x) (hx : a.eval x = .pointer (some ad)) (hr : (loadVar ty ad).run P w = .ok v w) (hK : wpListIn F n P ops Q rest (a.put o.dst v) w) : wpListIn F n P ops Q (o :: rest) a w := by
  refine wpListIn_plain hg fun K hK' => ?_
  unfold Oper.wpIn
  refine ⟨by simp [Oper.about, ho], ?_⟩
  rw [Oper.semAt_plain F _ _ (by rw [ho]; intro c hc'; cases hc')]
  simp only [execOp, ho, hx, Instr.loadAt, Instr.sureAddr, Sem.run_bind, Sem.run_pure, Result.andThen_ok, hr]
  exact hK' _ _ hK
theorem wpListIn_storeR (hg : o.guard = none) (ho : o.op = .store ty x y) (hx : a.eval x = .pointer (some ad)) (hy : a.eval y = v) (hr : (storeVar ty ad v).run P w = .ok () w') (hK : wpListIn F n P ops Q rest (a.put o.dst undef) w') : wpListIn F n P ops Q (o :: rest) a w := by
  refine wpListIn_plain hg fun K hK' => ?_
  unfold Oper.wpIn
  refine ⟨by simp [Oper.about, ho], ?_⟩
  rw [Oper.semAt_plain F _ _ (by rw [ho]; intro c hc'; cases hc')]
  simp only [execOp, ho, hx, hy, Instr.storeAt, Instr.sureAddr, Sem.run_bind, Sem.run_pure, Result.andThen_ok, hr]
  exact hK' _ _ hK
theorem wpListIn_buildR {k : Nat} {u : Value} (hg : o.guard = none) (ho : o.op = .buildSlice ty k #[(0, x)]) (hx : a.eval x = u) (hr : (Instr.buildSlice ty k #[(0, u)]).run P w = .ok v w') (hK : wpListIn F n P ops Q rest (a.put o.dst v) w') : wpListIn F n P ops Q (o :: rest) a w := by
  refine wpListIn_plain hg fun K hK' => ?_
  unfold Oper.wpIn
  refine ⟨by simp [Oper.about, ho], ?_⟩
  rw [Oper.semAt_plain F _ _ (by rw [ho]; intro c hc'; cases hc')]
  simp only [execOp, ho, List.map_toArray, List.map_cons, List.map_nil, hx, Sem.run_bind, Sem.run_pure, Result.andThen_ok, hr]
  exact hK' _ _ hK
end

theorem setRow_new (w : World) (z cs : Array Value) (t : TypeId) : (w.alloc (.cells z t)).setRow w.heap.size cs = w.alloc (.cells cs t) := by
  unfold World.setRow World.alloc
  congr 1
  apply Array.ext_getElem?
  intro j
  rw [Array.getElem?_modify, Array.getElem?_push, Array.getElem?_push]
  by_cases hj : j = w.heap.size
  · subst hj
    simp
  · have : ¬ w.heap.size = j := fun e => hj e.symm
    simp [hj, this]
end Go.Proofs.YtmlfekbmbnfkjabGreatDoor

