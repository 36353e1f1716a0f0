/-
  A log whose disk holds just its bytes, of which those of its fast events are fast: kept by Add, Sync and Rewrite.
-/
import Derived.Test.YthdhnilfkpbmpaaLcl
namespace Go.Proofs.Ythdhnilfkpbmpaa
set_option maxRecDepth 100000
set_option linter.unusedVariables false
open Go.RowKit

structure Kept (w : World) (base g gd : Nat) (vE vd : Value) (b : Bool) (s : List UInt8) (E : List Ev) (k : Nat) : Prop where
  both : Both w base g gd vE vd b s E k (file b s E) (file b s (E.take k)).length 65536
  fine : Fine b s E
section
variable {w w' : World} {base g gd : Nat} {vE vd : Value} {b : Bool} {s : List UInt8} {E : List Ev} {k : Nat}
theorem Kept.few (h : Kept w base g gd vE vd b s E k) : E.length < 65536 := by
  have h1 := file_many b s E
  have h2 := h.both.dsk.len
  omega
theorem Kept.below {B : Nat} (h : Kept w base g gd vE vd b s E k) (hb : Below B w w') (hB : w.heap.size ≤ B) : Kept w' base g gd vE vd b s E k := ⟨h.both.below hb hB, h.fine⟩
/-- Somehow kept, and nothing else turned. -/
def Goes (w w' : World) (base g gd : Nat) (vE vd : Value) : Prop := ∃ vE' vd' b' s' E' k', Kept w' base g gd vE' vd' b' s' E' k' ∧ Mv g gd vE vd vE' vd' w w'
theorem Kept.add (h : Kept w base g gd vE vd b s E k) (hbase : base ≤ w.heap.size) (x : Ev) (hx : Wide x) :
    Calls Try.prog 11 #[.pointer (some ⟨g, 0, none⟩), .agg (evc x)] w fun e w' => ∃ err : Int, e = .returned (.int .i64 err) ∧ Goes w w' base g gd vE vd := by
  refine (add_any x h.both hbase hx h.few).mono ?_
  rintro e w' (⟨err, -, rfl, hB, hM⟩ | ⟨rfl, hg, vE', vd', hB, hM⟩)
  · exact ⟨err, rfl, vE, vd, b, s, E, k, ⟨hB, h.fine⟩, hM⟩
  · refine ⟨0, rfl, vE', vd', b, s, E ++ [x], k, ⟨?_, h.fine.add hg⟩, hM⟩
    rw [List.take_append_of_le_length h.both.log.fast, file_add]
    exact hB
theorem Kept.sync (h : Kept w base g gd vE vd b s E k) :
    Calls Try.prog 12 #[.pointer (some ⟨g, 0, none⟩)] w fun e w' => e = .returned (.tuple #[]) ∧ Kept w' base g gd vE vd b s E E.length ∧ Mv g gd vE vd vE vd w w' := by
  refine (lsync_any _ _ _ _ _ _ _ _ _ _ _ _ _ _ _ _ _ (lorz_some g _) (orz_some gd _) h.both.log h.both.log h.both.dsk).mono ?_
  rintro e w' ⟨rfl, hL, hD, w3, hS1, hS2⟩
  refine ⟨rfl, ⟨⟨hL, ?_⟩, h.fine⟩, (Mv.disk hS1).trans (Mv.log hS2)⟩
  rw [List.take_length]
  exact hD
theorem Kept.rewrite (h : Kept w base g gd vE vd b s E k) (hbase : base ≤ w.heap.size) (t : List UInt8) (ao : Option Addr) (m c : Nat) (L : List Ev) (hE : Evs w ao m c L) (ho : Off ao m g gd vE vd w) (ht : t.length ≤ 70000) (hm : m ≤ 100) :
    Calls Try.prog 13 #[.pointer (some ⟨g, 0, none⟩), .string (sb t), .slice ao m c] w fun e w' => ∃ err : Int, e = .returned (.int .i64 err) ∧ Goes w w' base g gd vE vd := by
  refine (rewrite_any t ao m c L h.both hbase hE ho ht hm).mono ?_
  rintro e w' (⟨err, -, rfl, hB, hM⟩ | ⟨rfl, hf, vE', vd', hB, hM⟩)
  · exact ⟨err, rfl, vE, vd, b, s, E, k, ⟨hB, h.fine⟩, hM⟩
  · refine ⟨0, rfl, vE', vd', true, t, L, L.length, ⟨?_, hf⟩, hM⟩
    rw [List.take_length]
    exact hB
end
theorem kept_begun (w : World) :
    Calls Try.prog 10 #[.int .i64 65536] w fun e w' => ∃ g gd vE vd, e = .returned (.tuple #[.pointer (some ⟨g, 0, none⟩), .pointer (some ⟨gd, 0, none⟩)]) ∧ Kept w' w.heap.size g gd vE vd false [] [] 0 ∧ Below w.heap.size w w' := by
  refine (begun_any 65536 w).mono ?_
  rintro e w' ⟨g, gd, vE, vd, rfl, hB, hb⟩
  exact ⟨g, gd, vE, vd, rfl, ⟨hB, ⟨by simp, by simp, fun _ => rfl⟩⟩, hb⟩
/-- What came in shares nothing with what was made since. -/
theorem off_of {w wr : World} {ao : Option Addr} {m c base g gd : Nat} {vE vd : Value} {b : Bool} {s : List UInt8} {E L : List Ev} {k : Nat} (h : Evs w ao m c L) (hk : Kept wr base g gd vE vd b s E k) (hb : w.heap.size ≤ base) (hs : w.heap.size ≤ wr.heap.size) : Off ao m g gd vE vd wr := fun h0 ad ha => by
  obtain ⟨b', off, e, h1, -, -, -, hlt⟩ := h.at h0
  rw [ha] at h1
  obtain rfl := Option.some.inj h1
  have a1 := hk.both.log.low
  have a2 := hk.both.dsk.low
  exact ⟨by show b' < _; omega, by show b' ≠ g; omega, by show b' ≠ gd; omega, fun e => by have := (hk.both.log.own b' e).1; omega, fun e => by have := (hk.both.dsk.own b' e).1; omega⟩
theorem crash_all (l : List UInt8) (x a t : Int) : Dk.crash l l.length x a t = l := by
  have h0 : Dk.kept l l.length x = 0 := by have := Dk.kept_le l l.length x; omega
  rw [Dk.crash, Dk.left, h0, if_neg (by omega), List.take_length, List.take_zero, List.append_nil]
end Go.Proofs.Ythdhnilfkpbmpaa
