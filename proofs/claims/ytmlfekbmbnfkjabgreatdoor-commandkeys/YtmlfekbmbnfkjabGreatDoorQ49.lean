/-
  What TakeText comes to, as a plain function of the bytes that are left.
-/
import Derived.Test.YtmlfekbmbnfkjabGreatDoorQ48
import Derived.Laws.BytesArg
import Derived.Laws.IdiomStrings
import Derived.Test.YtmlfekbmbnfkjabGreatDoorQ02
import Derived.Test.YtmlfekbmbnfkjabGreatDoorQ25
namespace Go.Proofs.YtmlfekbmbnfkjabGreatDoor
set_option maxRecDepth 100000
open Go.RowKit

/-- TakeText's error, its text, and how many bytes it takes: of at most mo bytes. -/
def txE (mo : Nat) (d : List UInt8) : Int := if tkE d ≠ 0 then tkE d else if mo < tkV d then 4 else if (d.drop (tkW d)).length < tkV d then 2 else 0
def txS (mo : Nat) (d : List UInt8) : List UInt8 := if txE mo d = 0 then (d.drop (tkW d)).take (tkV d) else []
def txW (mo : Nat) (d : List UInt8) : Nat := if txE mo d = 0 then tkW d + tkV d else 0

end Go.Proofs.YtmlfekbmbnfkjabGreatDoor

/-
  Events as plain data: which fields a kind uses, an event's bytes, and a reader that reads from the left up to the first error. What is read without an error is just the event's bytes; and an event's bytes are read as it.
-/
namespace Go.Proofs.YtmlfekbmbnfkjabGreatDoor
set_option maxRecDepth 100000
open Go.RowKit

/-- What a kind uses. -/
def usesF (k : Int) : Bool := decide (3 ≤ k ∧ k ≤ 8)
def usesV (k : Int) : Bool := decide (k = 1 ∨ k = 5 ∨ k = 9)
def usesN (k : Int) : Bool := decide (k = 2 ∨ k = 7)
def usesR (k : Int) : Bool := decide (k = 9 ∨ k = 10)

/-- Numbers and texts as bytes. -/
def nm (x : Int) : List UInt8 := Vq.num x.toNat
def tm (s : List UInt8) : List UInt8 := Vq.num s.length ++ s
/-- A number that bytes without a sign may tell. -/
def Nn (x : Int) : Prop := 0 ≤ x ∧ x ≤ 4611686018427387904
def I64 (x : Int) : Prop := -9223372036854775808 ≤ x ∧ x ≤ 9223372036854775807

/-- What an event's bytes can hold; what isn't used is zero. -/
structure Fits (e : Ev) : Prop where
  r : Nn e.r
  n : Nn e.n
  t : Nn e.t
  len : e.deps.length = 16
  deps : ∀ x ∈ e.deps, Nn x
  kind : 1 ≤ e.kind ∧ e.kind ≤ 11
  key : e.key.length ≤ 64
  field : e.field.length ≤ 64 ∧ (usesF e.kind = false → e.field = [])
  value : e.value.length ≤ 64 ∧ (usesV e.kind = false → e.value = [])
  num : I64 e.num ∧ (usesN e.kind = false → e.num = 0)
  ref : Nn e.rr ∧ Nn e.rn ∧ (usesR e.kind = false → e.rr = 0 ∧ e.rn = 0)

/-- A reader: what is left, the first error. -/
structure Rd where
  d : List UInt8
  e : Int

def nmE (d : List UInt8) : Int := if tkE d ≠ 0 then tkE d else if 4611686018427387904 < tkV d then 3 else 0
def rdN (s : Rd) : Int × Rd := if s.e ≠ 0 then (0, s) else if nmE s.d ≠ 0 then (0, ⟨s.d, nmE s.d⟩) else ((tkV s.d : Nat), ⟨s.d.drop (tkW s.d), 0⟩)
def rdI (s : Rd) : Int × Rd := if s.e ≠ 0 then (0, s) else if tkE s.d ≠ 0 then (0, ⟨s.d, tkE s.d⟩) else (zag (tkV s.d), ⟨s.d.drop (tkW s.d), 0⟩)
def rdT (s : Rd) : List UInt8 × Rd := if s.e ≠ 0 then ([], s) else if txE 64 s.d ≠ 0 then ([], ⟨s.d, txE 64 s.d⟩) else (txS 64 s.d, ⟨s.d.drop (txW 64 s.d), 0⟩)
def rdNs : Nat → Rd → List Int × Rd
  | 0, s => ([], s)
  | k + 1, s => ((rdN s).1 :: (rdNs k (rdN s).2).1, (rdNs k (rdN s).2).2)

/-- What is read only where it is used. -/
def whenT (c : Bool) (s : Rd) : List UInt8 × Rd := if c then rdT s else ([], s)
def whenI (c : Bool) (s : Rd) : Int × Rd := if c then rdI s else (0, s)
def whenN (c : Bool) (s : Rd) : Int × Rd := if c then rdN s else (0, s)
/-- A kind that is none is an error. -/
def known (k : Int) (s : Rd) : Rd := if s.e = 0 ∧ (k < 1 ∨ 11 < k) then ⟨s.d, 3⟩ else s

/-- The reader's ways through an event, one behind the other. -/
def s1 (l : List UInt8) : Int × Rd := rdN ⟨l, 0⟩
def s2 (l : List UInt8) : Int × Rd := rdN (s1 l).2
def s3 (l : List UInt8) : Int × Rd := rdN (s2 l).2
def s4 (l : List UInt8) : List Int × Rd := rdNs 16 (s3 l).2
def s5 (l : List UInt8) : Int × Rd := ((rdN (s4 l).2).1, known (rdN (s4 l).2).1 (rdN (s4 l).2).2)
def s6 (l : List UInt8) : List UInt8 × Rd := rdT (s5 l).2
def s7 (l : List UInt8) : List UInt8 × Rd := whenT (usesF (s5 l).1) (s6 l).2
def s8 (l : List UInt8) : List UInt8 × Rd := whenT (usesV (s5 l).1) (s7 l).2
def s9 (l : List UInt8) : Int × Rd := whenI (usesN (s5 l).1) (s8 l).2
def s10 (l : List UInt8) : Int × Rd := whenN (usesR (s5 l).1) (s9 l).2
def s11 (l : List UInt8) : Int × Rd := whenN (usesR (s5 l).1) (s10 l).2
end Go.Proofs.YtmlfekbmbnfkjabGreatDoor

/-
  What vlq.PutText comes to, and the document's bytes of a number with a sign. Asked: texts of at most 1048576 bytes behind fewer than 2^40.
-/
namespace Go.Proofs.YtmlfekbmbnfkjabGreatDoor
set_option maxRecDepth 100000
open Go.RowKit

end Go.Proofs.YtmlfekbmbnfkjabGreatDoor

