/-
  Which parts of an event a kind uses.
-/
import Derived.Test.YteanpepmncgagaaEvm
namespace Go.Proofs.Yteanpepmncgagaa
set_option maxRecDepth 100000

/-- What a kind uses. -/
def usesF (k : Int) : Bool := decide (3 ≤ k ∧ k ≤ 8)
def usesV (k : Int) : Bool := decide (k = 1 ∨ k = 5 ∨ k = 9)
def usesN (k : Int) : Bool := decide (k = 2 ∨ k = 7)
def usesR (k : Int) : Bool := decide (k = 9 ∨ k = 10)
/-- A number that bytes without a sign may tell. -/
def Nn (x : Int) : Prop := 0 ≤ x ∧ x ≤ 4611686018427387904
def I64 (x : Int) : Prop := -9223372036854775808 ≤ x ∧ x ≤ 9223372036854775807
/-- What an event's bytes can hold; what isn't used is zero. -/
structure Fits (e : Ev) : Prop where
  r : Nn e.r
  n : Nn e.n
  t : Nn e.t
  len : e.deps.length = 16
  deps : ∀ x ∈ e.deps, Nn x
  kind : 1 ≤ e.kind ∧ e.kind ≤ 11
  key : e.key.length ≤ 64
  field : e.field.length ≤ 64 ∧ (usesF e.kind = false → e.field = [])
  value : e.value.length ≤ 64 ∧ (usesV e.kind = false → e.value = [])
  num : I64 e.num ∧ (usesN e.kind = false → e.num = 0)
  ref : Nn e.rr ∧ Nn e.rn ∧ (usesR e.kind = false → e.rr = 0 ∧ e.rn = 0)
end Go.Proofs.Yteanpepmncgagaa
