/-
  What a call on a log and its disk may have turned.
-/
import Derived.Test.YthdhnilfkpbmpaaLpa
namespace Go.Proofs.Ythdhnilfkpbmpaa
set_option maxRecDepth 100000
open Go.RowKit

structure Mv (g gd : Nat) (vE vd vE' vd' : Value) (w w' : World) : Prop where
  os : w'.os = w.os
  tape : w'.tape = w.tape
  output : w'.output = w.output
  size : w.heap.size ≤ w'.heap.size
  block : ∀ k, k < w.heap.size → k ≠ g → k ≠ gd → vE.ownBlock ≠ some k → vd.ownBlock ≠ some k → w'.heap[k]? = w.heap[k]?
  ownE : ∀ k, vE'.ownBlock = some k → vE.ownBlock = some k ∨ w.heap.size ≤ k
  ownD : ∀ k, vd'.ownBlock = some k → vd.ownBlock = some k ∨ w.heap.size ≤ k
theorem Mv.quiet {w w' : World} (g gd : Nat) (vE vd : Value) (h : Below w.heap.size w w') : Mv g gd vE vd vE vd w w' := ⟨h.os, h.tape, h.output, h.size, fun k hk _ _ _ _ => h.block k hk, fun _ h => .inl h, fun _ h => .inl h⟩
theorem Mv.disk {w w' : World} {g gd : Nat} {vE vd vd' : Value} (h : Step gd vd vd' w w') : Mv g gd vE vd vE vd' w w' := ⟨h.os, h.tape, h.output, h.size, fun k hk _ h2 _ h4 => h.block k hk h2 h4, fun _ h => .inl h, h.own⟩
theorem Mv.log {w w' : World} {g gd : Nat} {vE vd vE' : Value} (h : Step g vE vE' w w') : Mv g gd vE vd vE' vd w w' := ⟨h.os, h.tape, h.output, h.size, fun k hk h1 _ h3 _ => h.block k hk h1 h3, h.own, fun _ h => .inl h⟩
theorem Mv.trans {a b c : World} {g gd : Nat} {vE vd vE' vd' vE'' vd'' : Value} (h : Mv g gd vE vd vE' vd' a b) (k : Mv g gd vE' vd' vE'' vd'' b c) : Mv g gd vE vd vE'' vd'' a c :=
  ⟨k.os.trans h.os, k.tape.trans h.tape, k.output.trans h.output, Nat.le_trans h.size k.size,
   fun i hi h1 h2 h3 h4 => (k.block i (Nat.lt_of_lt_of_le hi h.size) h1 h2
      (fun e => (h.ownE i e).elim h3 (fun q => by omega)) (fun e => (h.ownD i e).elim h4 (fun q => by omega))).trans (h.block i hi h1 h2 h3 h4),
   fun i hi => (k.ownE i hi).elim (h.ownE i) (fun q => .inr (Nat.le_trans h.size q)),
   fun i hi => (k.ownD i hi).elim (h.ownD i) (fun q => .inr (Nat.le_trans h.size q))⟩
theorem Mv.below {w w' : World} {g gd B : Nat} {vE vd vE' vd' : Value} (h : Mv g gd vE vd vE' vd' w w') (hB : B ≤ w.heap.size) (hg : B ≤ g) (hd : B ≤ gd) (hE : ∀ k, vE.ownBlock = some k → B ≤ k) (hD : ∀ k, vd.ownBlock = some k → B ≤ k) : Below B w w' :=
  ⟨h.os, h.tape, h.output, h.size, fun k hk => h.block k (by omega) (by omega) (by omega) (fun e => by have := hE k e; omega) (fun e => by have := hD k e; omega)⟩
/-- A log on its disk. -/
structure Both (w : World) (base g gd : Nat) (vE vd : Value) (b : Bool) (s : List UInt8) (E : List Ev) (k : Nat) (l : List UInt8) (f r : Nat) : Prop where
  log : Lg w base g (some ⟨gd, 0, none⟩) vE b s E k
  dsk : Dsk w base gd vd l f r
theorem Both.below {w w' : World} {base g gd : Nat} {vE vd : Value} {b : Bool} {s : List UInt8} {E : List Ev} {k : Nat} {l : List UInt8} {f r B : Nat} (h : Both w base g gd vE vd b s E k l f r) (hb : Below B w w') (hB : w.heap.size ≤ B) : Both w' base g gd vE vd b s E k l f r := ⟨h.log.below hb hB, h.dsk.below hb hB⟩
theorem Both.moved {w w' : World} {base g gd : Nat} {vE vd vE' vd' : Value} {b : Bool} {s : List UInt8} {E : List Ev} {k : Nat} {l : List UInt8} {f r : Nat} (h : Both w base g gd vE vd b s E k l f r) (hm : Mv g gd vE vd vE' vd' w w') (hB : base ≤ w.heap.size) : Below base w w' :=
  hm.below hB h.log.low h.dsk.low (fun k hk => (h.log.own k hk).1) (fun k hk => (h.dsk.own k hk).1)
end Go.Proofs.Ythdhnilfkpbmpaa
