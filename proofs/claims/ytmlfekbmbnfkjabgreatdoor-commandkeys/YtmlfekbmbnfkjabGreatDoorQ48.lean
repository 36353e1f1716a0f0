/-
  More of what calls come to: a text behind bytes, PutInt, and what Take tells where a number's bytes stand, whole or cut off. Asked: that the bytes are fewer than 2^47.
-/
import Derived.Test.YtmlfekbmbnfkjabGreatDoorQ47
import Derived.Lib.AppendStr
namespace Go.Proofs.YtmlfekbmbnfkjabGreatDoor
set_option maxRecDepth 100000
open Go.RowKit

end Go.Proofs.YtmlfekbmbnfkjabGreatDoor

/-
  What vlq.TakeInt comes to where a number's bytes stand.
-/
namespace Go.Proofs.YtmlfekbmbnfkjabGreatDoor
set_option maxRecDepth 100000
open Go.RowKit

/-- The number with a sign that one without goes for. -/
def zag (u : Nat) : Int := if u % 2 = 1 then -1 - ((u / 2 : Nat) : Int) else ((u / 2 : Nat) : Int)
end Go.Proofs.YtmlfekbmbnfkjabGreatDoor

/-
  What Take, TakeInt and TakeText come to, as plain functions of the bytes that are left: the number or text, how many bytes it takes, the error's number (0: none). Bytes that are taken are just those of what is told.
-/
namespace Go.Proofs.YtmlfekbmbnfkjabGreatDoor
set_option maxRecDepth 100000
open Go.RowKit

/-- Where the first byte below 128 stands. -/
def fl : List UInt8 → Option Nat
  | [] => none
  | c :: l => if c.toNat < 128 then some 0 else (fl l).map (· + 1)
/-- Take's error, its number, and how many bytes it takes. -/
def tkE (d : List UInt8) : Int :=
  match fl d with
  | none => 2
  | some p => if (d.take (p + 1)).head? = some 128 then 3 else if Vq.val (d.take (p + 1)) < 18446744073709551616 then 0 else 4
def tkV (d : List UInt8) : Nat := if tkE d = 0 then Vq.val (d.take ((fl d).getD 0 + 1)) else 0
def tkW (d : List UInt8) : Nat := if tkE d = 0 then (fl d).getD 0 + 1 else 0

end Go.Proofs.YtmlfekbmbnfkjabGreatDoor

