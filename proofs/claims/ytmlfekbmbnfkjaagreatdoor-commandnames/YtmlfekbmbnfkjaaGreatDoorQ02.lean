/-
  Events as plain data.
-/
import Derived.Test.YtmlfekbmbnfkjaaGreatDoorProg
import Derived.WalkKit
namespace Go.Proofs.YtmlfekbmbnfkjaaGreatDoor
set_option maxRecDepth 100000
open Go.RowKit

/-- An event. -/
structure Ev where
  r : Int
  n : Int
  t : Int
  deps : List Int
  kind : Int
  key : List UInt8
  field : List UInt8
  value : List UInt8
  num : Int
  rr : Int
  rn : Int
def addsE (k : Int) : Bool := decide (k = 1 ∨ k = 2 ∨ k = 3 ∨ k = 5 ∨ k = 7 ∨ k = 9)
end Go.Proofs.YtmlfekbmbnfkjaaGreatDoor

