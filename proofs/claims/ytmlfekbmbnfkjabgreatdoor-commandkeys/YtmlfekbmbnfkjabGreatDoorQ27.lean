/-
  What a command's arguments are, plainly: the call, or the error's number.
-/
import Derived.Test.YtmlfekbmbnfkjabGreatDoorQ22
import Derived.Test.YtmlfekbmbnfkjabGreatDoorQ25
import Derived.Test.YtmlfekbmbnfkjabGreatDoorQ26
namespace Go.Proofs.YtmlfekbmbnfkjabGreatDoor
set_option maxRecDepth 100000
open Go.RowKit

/-- A call. -/
structure Cl where
  name : List UInt8
  key : List UInt8
  field : List UInt8
  value : List UInt8
  n : Int
  m : Int
deriving DecidableEq
def clz : Cl := ⟨[], [], [], [], 0, 0⟩
def clc (c : Cl) : Array Value := #[.string (sb c.name), .string (sb c.key), .string (sb c.field), .string (sb c.value), .int .i64 c.n, .int .i64 c.m]
/-- A text as a part of a call: the error's number, and the call. -/
def textE (s : List UInt8) : Int := if 64 < s.length then 4 else 0
def keyTE (s : List UInt8) : Int := if s = [] then 1 else textE s
def numTE (s : List UInt8) : Int := if (numTx s).isSome then 0 else 13
def takeE (p : UInt8) (s : List UInt8) : Int := if p = 107 then keyTE s else if p = 102 ∨ p = 118 then textE s else numTE s
def takeC (c : Cl) (p : UInt8) (s : List UInt8) : Cl :=
  if p = 107 then { c with key := s } else if p = 102 then { c with field := s } else if p = 118 then { c with value := s } else if p = 110 then { c with n := (numTx s).getD 0 } else { c with m := (numTx s).getD 0 }
/-- The parts from the left. -/
def takesE : Cl → List UInt8 → List (List UInt8) → Cl × Int
  | c, p :: ps, s :: ss => if takeE p s = 0 then takesE (takeC c p s) ps ss else (clz, takeE p s)
  | c, _, _ => (c, 0)
def parseE : List (List UInt8) → Cl × Int
  | [] => (clz, 12)
  | a :: r => match rowN (upE a) with
    | none => (clz, 14)
    | some w => if r.length = w.takes.length then takesE { clz with name := w.name } w.takes r else (clz, 12)
theorem takesE_step {c : Cl} {ps : List UInt8} {ss : List (List UInt8)} {i : Nat} {p : UInt8} {s : List UInt8} (hp : ps[i]? = some p) (hs : ss[i]? = some s) :
    takesE c (ps.drop i) (ss.drop i) = if takeE p s = 0 then takesE (takeC c p s) (ps.drop (i + 1)) (ss.drop (i + 1)) else (clz, takeE p s) := by
  obtain ⟨h1, e1⟩ := List.getElem?_eq_some_iff.1 hp
  obtain ⟨h2, e2⟩ := List.getElem?_eq_some_iff.1 hs
  rw [List.drop_eq_getElem_cons h1, List.drop_eq_getElem_cons h2, e1, e2]
  rfl
theorem takesE_end {c : Cl} {ps : List UInt8} {ss : List (List UInt8)} {i : Nat} (h : ps.length ≤ i) : takesE c (ps.drop i) (ss.drop i) = (c, 0) := by
  rw [List.drop_eq_nil_of_le h]
  cases ss.drop i <;> rfl
end Go.Proofs.YtmlfekbmbnfkjabGreatDoor

