/-
  No cell of these rows narrows 'for every input' (looked for: loops, veiled, ifaces, maps, wideKeys, modest, calm, conditions, laid).
  DERIVED. THE GIVEN ROWS OF THIS SEAT. 6 by the template 'for every input the law returns true; each argument reads behind the call as it read before'; 0 by the template 'total and deterministic' (their statements: YteihijejohgfpaaTotals.lean).
  GIVEN WITH THE SEED: the statements are not yours to turn. If you find one false, say at which input.
  Laid BY PROGRAM, IN A SANDBOX (cutbox-rows.mjs): the forced cells as the released guide's own fill.sh prints them over the translation 15a57351d9cfcaf6… (all of the seat's roots in one cut). By AI agents, Wed Nov 11 2026. No macro, syntax, notation, axiom, sorry.
-/
import Derived.Test.YteihijejohgfpaaChecked
import GoSem.Claim
import GoSem.ClaimJoined
import GoSem.ClaimMapViews
import Derived.JoinedTies
import Derived.KernelRfl
namespace Go.Proofs.Yteihijejohgfpaa
/- THE CELL 'sum', in the pinned program and in every row, IS THE sha256 OF THE DUMP (.gsa) THAT YteihijejohgfpaaProg.lean LOADS. Nothing in Lean hashes anything: it is a label: what it is worth is what the hold of that sum in a sandbox is worth. -/
noncomputable def Try.pinned : Pinned := { name := "yteihijejohgfpaa", sum := "15a57351d9cfcaf6f06bedf9def0401ab1e5c1822d0ec4516dc75db5c7688a46", checked := Try.checked }
namespace Rows
def none {H : Type} : Left H := { results := [], args := [] }

/-- 'polyphonylaw09.BagPlays': WHATEVER THE INPUT: true; the input reads as it did. -/
def bagPlaysSpec : ChangeSpec := { name := "bagPlays", fn := fun _ => fun
  | [d1, d2] => { results := [.lit (.bool true)], args := [d1, d2] }
  | _ => none }
def bagPlaysRow : OpenClaim := { program := "yteihijejohgfpaa", sum := "15a57351d9cfcaf6f06bedf9def0401ab1e5c1822d0ec4516dc75db5c7688a46", func := "polyphony/polyphonylaw09.BagPlays", spec := "bagPlays", unfollowed := true, recurses := true, plainKeys := false, apart := false }
def BagPlaysSaid : Prop := bagPlaysRow.holds Try.pinned (OpenSpec.ofChange bagPlaysSpec)

/-- ITS FALSE NEIGHBOUR: 'it returns false'. Refute it at one input. -/
def bagPlaysWrong : ChangeSpec := { name := "bagPlays", fn := fun _ => fun
  | [d1, d2] => { results := [.lit (.bool false)], args := [d1, d2] }
  | _ => none }
def BagPlaysWrongFalsely : Prop := bagPlaysRow.holds Try.pinned (OpenSpec.ofChange bagPlaysWrong)

/-- 'polyphonylaw09.BagAny': WHATEVER THE INPUT: true; the input reads as it did. -/
def bagAnySpec : ChangeSpec := { name := "bagAny", fn := fun _ => fun
  | [d] => { results := [.lit (.bool true)], args := [d] }
  | _ => none }
def bagAnyRow : OpenClaim := { program := "yteihijejohgfpaa", sum := "15a57351d9cfcaf6f06bedf9def0401ab1e5c1822d0ec4516dc75db5c7688a46", func := "polyphony/polyphonylaw09.BagAny", spec := "bagAny", unfollowed := true, recurses := true, plainKeys := false, apart := false }
def BagAnySaid : Prop := bagAnyRow.holds Try.pinned (OpenSpec.ofChange bagAnySpec)

/-- ITS FALSE NEIGHBOUR: 'it returns false'. Refute it at one input. -/
def bagAnyWrong : ChangeSpec := { name := "bagAny", fn := fun _ => fun
  | [d] => { results := [.lit (.bool false)], args := [d] }
  | _ => none }
def BagAnyWrongFalsely : Prop := bagAnyRow.holds Try.pinned (OpenSpec.ofChange bagAnyWrong)

/-- 'polyphonylaw09.BagOrder': WHATEVER THE INPUT: true; the input reads as it did. -/
def bagOrderSpec : ChangeSpec := { name := "bagOrder", fn := fun _ => fun
  | [d] => { results := [.lit (.bool true)], args := [d] }
  | _ => none }
def bagOrderRow : OpenClaim := { program := "yteihijejohgfpaa", sum := "15a57351d9cfcaf6f06bedf9def0401ab1e5c1822d0ec4516dc75db5c7688a46", func := "polyphony/polyphonylaw09.BagOrder", spec := "bagOrder", unfollowed := true, recurses := true, plainKeys := false, apart := false }
def BagOrderSaid : Prop := bagOrderRow.holds Try.pinned (OpenSpec.ofChange bagOrderSpec)

/-- ITS FALSE NEIGHBOUR: 'it returns false'. Refute it at one input. -/
def bagOrderWrong : ChangeSpec := { name := "bagOrder", fn := fun _ => fun
  | [d] => { results := [.lit (.bool false)], args := [d] }
  | _ => none }
def BagOrderWrongFalsely : Prop := bagOrderRow.holds Try.pinned (OpenSpec.ofChange bagOrderWrong)

/-- 'polyphonylaw09.BagDrops': WHATEVER THE INPUT: true; the input reads as it did. -/
def bagDropsSpec : ChangeSpec := { name := "bagDrops", fn := fun _ => fun
  | [d1, d2, d3] => { results := [.lit (.bool true)], args := [d1, d2, d3] }
  | _ => none }
def bagDropsRow : OpenClaim := { program := "yteihijejohgfpaa", sum := "15a57351d9cfcaf6f06bedf9def0401ab1e5c1822d0ec4516dc75db5c7688a46", func := "polyphony/polyphonylaw09.BagDrops", spec := "bagDrops", unfollowed := true, recurses := true, plainKeys := false, apart := false }
def BagDropsSaid : Prop := bagDropsRow.holds Try.pinned (OpenSpec.ofChange bagDropsSpec)

/-- ITS FALSE NEIGHBOUR: 'it returns false'. Refute it at one input. -/
def bagDropsWrong : ChangeSpec := { name := "bagDrops", fn := fun _ => fun
  | [d1, d2, d3] => { results := [.lit (.bool false)], args := [d1, d2, d3] }
  | _ => none }
def BagDropsWrongFalsely : Prop := bagDropsRow.holds Try.pinned (OpenSpec.ofChange bagDropsWrong)

/-- 'polyphonylaw09.BagNil': WHATEVER THE INPUT: true; the input reads as it did. -/
def bagNilSpec : ChangeSpec := { name := "bagNil", fn := fun _ => fun
  | [d1, d2] => { results := [.lit (.bool true)], args := [d1, d2] }
  | _ => none }
def bagNilRow : OpenClaim := { program := "yteihijejohgfpaa", sum := "15a57351d9cfcaf6f06bedf9def0401ab1e5c1822d0ec4516dc75db5c7688a46", func := "polyphony/polyphonylaw09.BagNil", spec := "bagNil", unfollowed := true, recurses := true, plainKeys := false, apart := false }
def BagNilSaid : Prop := bagNilRow.holds Try.pinned (OpenSpec.ofChange bagNilSpec)

/-- ITS FALSE NEIGHBOUR: 'it returns false'. Refute it at one input. -/
def bagNilWrong : ChangeSpec := { name := "bagNil", fn := fun _ => fun
  | [d1, d2] => { results := [.lit (.bool false)], args := [d1, d2] }
  | _ => none }
def BagNilWrongFalsely : Prop := bagNilRow.holds Try.pinned (OpenSpec.ofChange bagNilWrong)

/-- 'polyphonylaw09.BagGets': WHATEVER THE INPUT: true; the input reads as it did. -/
def bagGetsSpec : ChangeSpec := { name := "bagGets", fn := fun _ => fun
  | [d1, d2, d3, d4] => { results := [.lit (.bool true)], args := [d1, d2, d3, d4] }
  | _ => none }
def bagGetsRow : OpenClaim := { program := "yteihijejohgfpaa", sum := "15a57351d9cfcaf6f06bedf9def0401ab1e5c1822d0ec4516dc75db5c7688a46", func := "polyphony/polyphonylaw09.BagGets", spec := "bagGets", plainKeys := false, apart := false }
def BagGetsSaid : Prop := bagGetsRow.holds Try.pinned (OpenSpec.ofChange bagGetsSpec)

/-- ITS FALSE NEIGHBOUR: 'it returns false'. Refute it at one input. -/
def bagGetsWrong : ChangeSpec := { name := "bagGets", fn := fun _ => fun
  | [d1, d2, d3, d4] => { results := [.lit (.bool false)], args := [d1, d2, d3, d4] }
  | _ => none }
def BagGetsWrongFalsely : Prop := bagGetsRow.holds Try.pinned (OpenSpec.ofChange bagGetsWrong)

/- THE SECOND FORM. 'bulk': how many values and letters a reading holds, each counted each time it is reached (what is shared counts as often as it is met; a slice's spare places count too). A statement '..UptoSaid' is the law's where the arguments, and the package variables that the reading takes, are together of bulk at most 1048576: NARROWER than '..Said'. Prove '..Said' where nothing that the law and all that it calls make is longer than what came in: it says more and counts as full. Else prove '..UptoSaid'. A law counts once. -/
mutual
def uptoBulk {H : Type} : DataW H → Nat
  | .lit (.string bytes) => bytes.length + 1
  | .lit _ => 1
  | .nil => 1
  | .ptr d => uptoBulk d + 1
  | .slice elems spare => uptoBulkAll elems + uptoBulkAll spare + 1
  | .agg parts => uptoBulkAll parts + 1
  | .iface _ d => uptoBulk d + 1
  | .map entries => uptoBulkEntries entries + 1
  | .held _ => 1
def uptoBulkAll {H : Type} : List (DataW H) → Nat
  | [] => 0
  | d :: r => uptoBulk d + uptoBulkAll r
def uptoBulkEntries {H : Type} : List (Lit × DataW H) → Nat
  | [] => 0
  | x :: r => uptoBulkEntry x + uptoBulkEntries r
def uptoBulkEntry {H : Type} : Lit × DataW H → Nat
  | (.string bytes, d) => bytes.length + uptoBulk d + 1
  | (_, d) => uptoBulk d + 1
 end
def uptoSmall : (H : Type) → List (DataW H) → Bool := fun _ ds => decide (uptoBulkAll ds ≤ 1048576)
def OpenSpec.upto (s : _root_.Go.ChangeSpec) : _root_.Go.OpenSpec := { _root_.Go.OpenSpec.ofChange s with cond := some uptoSmall }

/-- 'polyphonylaw09.BagPlays', WHERE WHAT IT READS IS OF BULK AT MOST 1048576: true; the input reads as it did. -/
def bagPlaysUptoRow : OpenClaim := { program := "yteihijejohgfpaa", sum := "15a57351d9cfcaf6f06bedf9def0401ab1e5c1822d0ec4516dc75db5c7688a46", func := "polyphony/polyphonylaw09.BagPlays", spec := "bagPlays", unfollowed := true, recurses := true, plainKeys := false, apart := false, narrowed := true }
def BagPlaysUptoSaid : Prop := bagPlaysUptoRow.holds Try.pinned (OpenSpec.upto bagPlaysSpec)

/-- 'polyphonylaw09.BagAny', WHERE WHAT IT READS IS OF BULK AT MOST 1048576: true; the input reads as it did. -/
def bagAnyUptoRow : OpenClaim := { program := "yteihijejohgfpaa", sum := "15a57351d9cfcaf6f06bedf9def0401ab1e5c1822d0ec4516dc75db5c7688a46", func := "polyphony/polyphonylaw09.BagAny", spec := "bagAny", unfollowed := true, recurses := true, plainKeys := false, apart := false, narrowed := true }
def BagAnyUptoSaid : Prop := bagAnyUptoRow.holds Try.pinned (OpenSpec.upto bagAnySpec)

/-- 'polyphonylaw09.BagOrder', WHERE WHAT IT READS IS OF BULK AT MOST 1048576: true; the input reads as it did. -/
def bagOrderUptoRow : OpenClaim := { program := "yteihijejohgfpaa", sum := "15a57351d9cfcaf6f06bedf9def0401ab1e5c1822d0ec4516dc75db5c7688a46", func := "polyphony/polyphonylaw09.BagOrder", spec := "bagOrder", unfollowed := true, recurses := true, plainKeys := false, apart := false, narrowed := true }
def BagOrderUptoSaid : Prop := bagOrderUptoRow.holds Try.pinned (OpenSpec.upto bagOrderSpec)

/-- 'polyphonylaw09.BagDrops', WHERE WHAT IT READS IS OF BULK AT MOST 1048576: true; the input reads as it did. -/
def bagDropsUptoRow : OpenClaim := { program := "yteihijejohgfpaa", sum := "15a57351d9cfcaf6f06bedf9def0401ab1e5c1822d0ec4516dc75db5c7688a46", func := "polyphony/polyphonylaw09.BagDrops", spec := "bagDrops", unfollowed := true, recurses := true, plainKeys := false, apart := false, narrowed := true }
def BagDropsUptoSaid : Prop := bagDropsUptoRow.holds Try.pinned (OpenSpec.upto bagDropsSpec)

/-- 'polyphonylaw09.BagNil', WHERE WHAT IT READS IS OF BULK AT MOST 1048576: true; the input reads as it did. -/
def bagNilUptoRow : OpenClaim := { program := "yteihijejohgfpaa", sum := "15a57351d9cfcaf6f06bedf9def0401ab1e5c1822d0ec4516dc75db5c7688a46", func := "polyphony/polyphonylaw09.BagNil", spec := "bagNil", unfollowed := true, recurses := true, plainKeys := false, apart := false, narrowed := true }
def BagNilUptoSaid : Prop := bagNilUptoRow.holds Try.pinned (OpenSpec.upto bagNilSpec)

/-- 'polyphonylaw09.BagGets', WHERE WHAT IT READS IS OF BULK AT MOST 1048576: true; the input reads as it did. -/
def bagGetsUptoRow : OpenClaim := { program := "yteihijejohgfpaa", sum := "15a57351d9cfcaf6f06bedf9def0401ab1e5c1822d0ec4516dc75db5c7688a46", func := "polyphony/polyphonylaw09.BagGets", spec := "bagGets", plainKeys := false, apart := false, narrowed := true }
def BagGetsUptoSaid : Prop := bagGetsUptoRow.holds Try.pinned (OpenSpec.upto bagGetsSpec)

end Rows
end Go.Proofs.Yteihijejohgfpaa
