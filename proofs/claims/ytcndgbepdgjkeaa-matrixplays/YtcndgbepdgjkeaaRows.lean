/-
  No cell of these rows narrows 'for every input' (looked for: loops, veiled, ifaces, maps, wideKeys, modest, calm, conditions, laid).
  DERIVED. THE GIVEN ROWS OF THIS SEAT. 5 by the template 'for every input the law returns true; each argument reads behind the call as it read before'; 0 by the template 'total and deterministic' (their statements: YtcndgbepdgjkeaaTotals.lean).
  GIVEN WITH THE SEED: the statements are not yours to turn. If you find one false, say at which input.
  Laid BY PROGRAM, IN A SANDBOX (cutbox-rows.mjs): the forced cells as the released guide's own fill.sh prints them over the translation 5c1483411aa7fd9c… (all of the seat's roots in one cut). By AI agents, Wed Nov 11 2026. No macro, syntax, notation, axiom, sorry.
-/
import Derived.Test.YtcndgbepdgjkeaaChecked
import GoSem.Claim
import GoSem.ClaimJoined
import GoSem.ClaimMapViews
import Derived.JoinedTies
import Derived.KernelRfl
namespace Go.Proofs.Ytcndgbepdgjkeaa
/- THE CELL 'sum', in the pinned program and in every row, IS THE sha256 OF THE DUMP (.gsa) THAT YtcndgbepdgjkeaaProg.lean LOADS. Nothing in Lean hashes anything: it is a label: what it is worth is what the hold of that sum in a sandbox is worth. -/
noncomputable def Try.pinned : Pinned := { name := "ytcndgbepdgjkeaa", sum := "5c1483411aa7fd9cc5daaeac12654090dfb6d868e9f9d729b4343f5f8359b4a1", checked := Try.checked }
namespace Rows
def none {H : Type} : Left H := { results := [], args := [] }

/-- 'polyphonylaw19.MatrixPlays': WHATEVER THE INPUT: true; the input reads as it did. -/
def matrixPlaysSpec : ChangeSpec := { name := "matrixPlays", fn := fun _ => fun
  | [d1, d2, d3] => { results := [.lit (.bool true)], args := [d1, d2, d3] }
  | _ => none }
def matrixPlaysRow : OpenClaim := { program := "ytcndgbepdgjkeaa", sum := "5c1483411aa7fd9cc5daaeac12654090dfb6d868e9f9d729b4343f5f8359b4a1", func := "polyphony/polyphonylaw19.MatrixPlays", spec := "matrixPlays", apart := false }
def MatrixPlaysSaid : Prop := matrixPlaysRow.holds Try.pinned (OpenSpec.ofChange matrixPlaysSpec)

/-- ITS FALSE NEIGHBOUR: 'it returns false'. Refute it at one input. -/
def matrixPlaysWrong : ChangeSpec := { name := "matrixPlays", fn := fun _ => fun
  | [d1, d2, d3] => { results := [.lit (.bool false)], args := [d1, d2, d3] }
  | _ => none }
def MatrixPlaysWrongFalsely : Prop := matrixPlaysRow.holds Try.pinned (OpenSpec.ofChange matrixPlaysWrong)

/-- 'polyphonylaw19.MatrixRises': WHATEVER THE INPUT: true; the input reads as it did. -/
def matrixRisesSpec : ChangeSpec := { name := "matrixRises", fn := fun _ => fun
  | [d1, d2, d3] => { results := [.lit (.bool true)], args := [d1, d2, d3] }
  | _ => none }
def matrixRisesRow : OpenClaim := { program := "ytcndgbepdgjkeaa", sum := "5c1483411aa7fd9cc5daaeac12654090dfb6d868e9f9d729b4343f5f8359b4a1", func := "polyphony/polyphonylaw19.MatrixRises", spec := "matrixRises", apart := false }
def MatrixRisesSaid : Prop := matrixRisesRow.holds Try.pinned (OpenSpec.ofChange matrixRisesSpec)

/-- ITS FALSE NEIGHBOUR: 'it returns false'. Refute it at one input. -/
def matrixRisesWrong : ChangeSpec := { name := "matrixRises", fn := fun _ => fun
  | [d1, d2, d3] => { results := [.lit (.bool false)], args := [d1, d2, d3] }
  | _ => none }
def MatrixRisesWrongFalsely : Prop := matrixRisesRow.holds Try.pinned (OpenSpec.ofChange matrixRisesWrong)

/-- 'polyphonylaw19.MatrixOrder': WHATEVER THE INPUT: true; the input reads as it did. -/
def matrixOrderSpec : ChangeSpec := { name := "matrixOrder", fn := fun _ => fun
  | [d1, d2] => { results := [.lit (.bool true)], args := [d1, d2] }
  | _ => none }
def matrixOrderRow : OpenClaim := { program := "ytcndgbepdgjkeaa", sum := "5c1483411aa7fd9cc5daaeac12654090dfb6d868e9f9d729b4343f5f8359b4a1", func := "polyphony/polyphonylaw19.MatrixOrder", spec := "matrixOrder", apart := false }
def MatrixOrderSaid : Prop := matrixOrderRow.holds Try.pinned (OpenSpec.ofChange matrixOrderSpec)

/-- ITS FALSE NEIGHBOUR: 'it returns false'. Refute it at one input. -/
def matrixOrderWrong : ChangeSpec := { name := "matrixOrder", fn := fun _ => fun
  | [d1, d2] => { results := [.lit (.bool false)], args := [d1, d2] }
  | _ => none }
def MatrixOrderWrongFalsely : Prop := matrixOrderRow.holds Try.pinned (OpenSpec.ofChange matrixOrderWrong)

/-- 'polyphonylaw19.MatrixNil': WHATEVER THE INPUT: true; the input reads as it did. -/
def matrixNilSpec : ChangeSpec := { name := "matrixNil", fn := fun _ => fun
  | [d1, d2] => { results := [.lit (.bool true)], args := [d1, d2] }
  | _ => none }
def matrixNilRow : OpenClaim := { program := "ytcndgbepdgjkeaa", sum := "5c1483411aa7fd9cc5daaeac12654090dfb6d868e9f9d729b4343f5f8359b4a1", func := "polyphony/polyphonylaw19.MatrixNil", spec := "matrixNil", apart := false }
def MatrixNilSaid : Prop := matrixNilRow.holds Try.pinned (OpenSpec.ofChange matrixNilSpec)

/-- ITS FALSE NEIGHBOUR: 'it returns false'. Refute it at one input. -/
def matrixNilWrong : ChangeSpec := { name := "matrixNil", fn := fun _ => fun
  | [d1, d2] => { results := [.lit (.bool false)], args := [d1, d2] }
  | _ => none }
def MatrixNilWrongFalsely : Prop := matrixNilRow.holds Try.pinned (OpenSpec.ofChange matrixNilWrong)

/-- 'polyphonylaw19.MatrixBelow': WHATEVER THE INPUT: true; the input reads as it did. -/
def matrixBelowSpec : ChangeSpec := { name := "matrixBelow", fn := fun _ => fun
  | [d1, d2, d3] => { results := [.lit (.bool true)], args := [d1, d2, d3] }
  | _ => none }
def matrixBelowRow : OpenClaim := { program := "ytcndgbepdgjkeaa", sum := "5c1483411aa7fd9cc5daaeac12654090dfb6d868e9f9d729b4343f5f8359b4a1", func := "polyphony/polyphonylaw19.MatrixBelow", spec := "matrixBelow", apart := false }
def MatrixBelowSaid : Prop := matrixBelowRow.holds Try.pinned (OpenSpec.ofChange matrixBelowSpec)

/-- ITS FALSE NEIGHBOUR: 'it returns false'. Refute it at one input. -/
def matrixBelowWrong : ChangeSpec := { name := "matrixBelow", fn := fun _ => fun
  | [d1, d2, d3] => { results := [.lit (.bool false)], args := [d1, d2, d3] }
  | _ => none }
def MatrixBelowWrongFalsely : Prop := matrixBelowRow.holds Try.pinned (OpenSpec.ofChange matrixBelowWrong)

/- THE SECOND FORM. 'bulk': how many values and letters a reading holds, each counted each time it is reached (what is shared counts as often as it is met; a slice's spare places count too). A statement '..UptoSaid' is the law's where the arguments, and the package variables that the reading takes, are together of bulk at most 1048576: NARROWER than '..Said'. Prove '..Said' where nothing that the law and all that it calls make is longer than what came in: it says more and counts as full. Else prove '..UptoSaid'. A law counts once. -/
mutual
def uptoBulk {H : Type} : DataW H → Nat
  | .lit (.string bytes) => bytes.length + 1
  | .lit _ => 1
  | .nil => 1
  | .ptr d => uptoBulk d + 1
  | .slice elems spare => uptoBulkAll elems + uptoBulkAll spare + 1
  | .agg parts => uptoBulkAll parts + 1
  | .iface _ d => uptoBulk d + 1
  | .map entries => uptoBulkEntries entries + 1
  | .held _ => 1
def uptoBulkAll {H : Type} : List (DataW H) → Nat
  | [] => 0
  | d :: r => uptoBulk d + uptoBulkAll r
def uptoBulkEntries {H : Type} : List (Lit × DataW H) → Nat
  | [] => 0
  | x :: r => uptoBulkEntry x + uptoBulkEntries r
def uptoBulkEntry {H : Type} : Lit × DataW H → Nat
  | (.string bytes, d) => bytes.length + uptoBulk d + 1
  | (_, d) => uptoBulk d + 1
 end
def uptoSmall : (H : Type) → List (DataW H) → Bool := fun _ ds => decide (uptoBulkAll ds ≤ 1048576)
def OpenSpec.upto (s : _root_.Go.ChangeSpec) : _root_.Go.OpenSpec := { _root_.Go.OpenSpec.ofChange s with cond := some uptoSmall }

/-- 'polyphonylaw19.MatrixPlays', WHERE WHAT IT READS IS OF BULK AT MOST 1048576: true; the input reads as it did. -/
def matrixPlaysUptoRow : OpenClaim := { program := "ytcndgbepdgjkeaa", sum := "5c1483411aa7fd9cc5daaeac12654090dfb6d868e9f9d729b4343f5f8359b4a1", func := "polyphony/polyphonylaw19.MatrixPlays", spec := "matrixPlays", apart := false, narrowed := true }
def MatrixPlaysUptoSaid : Prop := matrixPlaysUptoRow.holds Try.pinned (OpenSpec.upto matrixPlaysSpec)

/-- 'polyphonylaw19.MatrixRises', WHERE WHAT IT READS IS OF BULK AT MOST 1048576: true; the input reads as it did. -/
def matrixRisesUptoRow : OpenClaim := { program := "ytcndgbepdgjkeaa", sum := "5c1483411aa7fd9cc5daaeac12654090dfb6d868e9f9d729b4343f5f8359b4a1", func := "polyphony/polyphonylaw19.MatrixRises", spec := "matrixRises", apart := false, narrowed := true }
def MatrixRisesUptoSaid : Prop := matrixRisesUptoRow.holds Try.pinned (OpenSpec.upto matrixRisesSpec)

/-- 'polyphonylaw19.MatrixOrder', WHERE WHAT IT READS IS OF BULK AT MOST 1048576: true; the input reads as it did. -/
def matrixOrderUptoRow : OpenClaim := { program := "ytcndgbepdgjkeaa", sum := "5c1483411aa7fd9cc5daaeac12654090dfb6d868e9f9d729b4343f5f8359b4a1", func := "polyphony/polyphonylaw19.MatrixOrder", spec := "matrixOrder", apart := false, narrowed := true }
def MatrixOrderUptoSaid : Prop := matrixOrderUptoRow.holds Try.pinned (OpenSpec.upto matrixOrderSpec)

/-- 'polyphonylaw19.MatrixNil', WHERE WHAT IT READS IS OF BULK AT MOST 1048576: true; the input reads as it did. -/
def matrixNilUptoRow : OpenClaim := { program := "ytcndgbepdgjkeaa", sum := "5c1483411aa7fd9cc5daaeac12654090dfb6d868e9f9d729b4343f5f8359b4a1", func := "polyphony/polyphonylaw19.MatrixNil", spec := "matrixNil", apart := false, narrowed := true }
def MatrixNilUptoSaid : Prop := matrixNilUptoRow.holds Try.pinned (OpenSpec.upto matrixNilSpec)

/-- 'polyphonylaw19.MatrixBelow', WHERE WHAT IT READS IS OF BULK AT MOST 1048576: true; the input reads as it did. -/
def matrixBelowUptoRow : OpenClaim := { program := "ytcndgbepdgjkeaa", sum := "5c1483411aa7fd9cc5daaeac12654090dfb6d868e9f9d729b4343f5f8359b4a1", func := "polyphony/polyphonylaw19.MatrixBelow", spec := "matrixBelow", apart := false, narrowed := true }
def MatrixBelowUptoSaid : Prop := matrixBelowUptoRow.holds Try.pinned (OpenSpec.upto matrixBelowSpec)

end Rows
end Go.Proofs.Ytcndgbepdgjkeaa
