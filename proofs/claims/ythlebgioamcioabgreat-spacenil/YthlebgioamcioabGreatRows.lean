/-
  No cell of these rows narrows 'for every input' (looked for: loops, veiled, ifaces, maps, wideKeys, modest, calm, conditions, laid).
  DERIVED. THE GIVEN ROWS OF THIS SEAT. 5 by the template 'for every input the law returns true; each argument reads behind the call as it read before'; 0 by the template 'total and deterministic' (their statements: YthlebgioamcioabGreatTotals.lean).
  GIVEN WITH THE SEED: the statements are not yours to turn. If you find one false, say at which input.
  Laid BY PROGRAM, IN A SANDBOX (cutbox-rows.mjs): the forced cells as the released guide's own fill.sh prints them over the translation e5cd86c9116f95c3… (all of the seat's roots in one cut). By AI agents, Wed Nov 11 2026. No macro, syntax, notation, axiom, sorry.
-/
import Derived.Test.YthlebgioamcioabGreatChecked
import GoSem.Claim
import GoSem.ClaimJoined
import GoSem.ClaimMapViews
import Derived.JoinedTies
import Derived.KernelRfl
namespace Go.Proofs.YthlebgioamcioabGreat
/- THE CELL 'sum', in the pinned program and in every row, IS THE sha256 OF THE DUMP (.gsa) THAT YthlebgioamcioabGreatProg.lean LOADS. Nothing in Lean hashes anything: it is a label: what it is worth is what the hold of that sum in a sandbox is worth. -/
noncomputable def Tryz.pinned : Pinned := { name := "ythlebgioamcioabgreat", sum := "e5cd86c9116f95c30d16051ed070828bd371e0dd2a182f0833c351ba550c71d8", checked := Tryz.checked }
namespace Rows
def none {H : Type} : Left H := { results := [], args := [] }

/-- 'polyphonylaw17.SpaceNil': WHATEVER THE INPUT: true; the input reads as it did. -/
def spaceNilSpec : ChangeSpec := { name := "spaceNil", fn := fun _ => fun
  | [d1, d2] => { results := [.lit (.bool true)], args := [d1, d2] }
  | _ => none }
def spaceNilRow : OpenClaim := { program := "ythlebgioamcioabgreat", sum := "e5cd86c9116f95c30d16051ed070828bd371e0dd2a182f0833c351ba550c71d8", func := "polyphony/polyphonylaw17.SpaceNil", spec := "spaceNil", unfollowed := true, recurses := true, plainKeys := false, apart := false }
def SpaceNilSaid : Prop := spaceNilRow.holds Tryz.pinned (OpenSpec.ofChange spaceNilSpec)

/-- ITS FALSE NEIGHBOUR: 'it returns false'. Refute it at one input. -/
def spaceNilWrong : ChangeSpec := { name := "spaceNil", fn := fun _ => fun
  | [d1, d2] => { results := [.lit (.bool false)], args := [d1, d2] }
  | _ => none }
def SpaceNilWrongFalsely : Prop := spaceNilRow.holds Tryz.pinned (OpenSpec.ofChange spaceNilWrong)

/-- 'polyphonylaw17.SpaceReady': WHATEVER THE INPUT: true; the input reads as it did. -/
def spaceReadySpec : ChangeSpec := { name := "spaceReady", fn := fun _ => fun
  | [d] => { results := [.lit (.bool true)], args := [d] }
  | _ => none }
def spaceReadyRow : OpenClaim := { program := "ythlebgioamcioabgreat", sum := "e5cd86c9116f95c30d16051ed070828bd371e0dd2a182f0833c351ba550c71d8", func := "polyphony/polyphonylaw17.SpaceReady", spec := "spaceReady", unfollowed := true, recurses := true, plainKeys := false, apart := false }
def SpaceReadySaid : Prop := spaceReadyRow.holds Tryz.pinned (OpenSpec.ofChange spaceReadySpec)

/-- ITS FALSE NEIGHBOUR: 'it returns false'. Refute it at one input. -/
def spaceReadyWrong : ChangeSpec := { name := "spaceReady", fn := fun _ => fun
  | [d] => { results := [.lit (.bool false)], args := [d] }
  | _ => none }
def SpaceReadyWrongFalsely : Prop := spaceReadyRow.holds Tryz.pinned (OpenSpec.ofChange spaceReadyWrong)

/-- 'polyphonylaw17.SpaceTwice': WHATEVER THE INPUT: true; the input reads as it did. -/
def spaceTwiceSpec : ChangeSpec := { name := "spaceTwice", fn := fun _ => fun
  | [d1, d2] => { results := [.lit (.bool true)], args := [d1, d2] }
  | _ => none }
def spaceTwiceRow : OpenClaim := { program := "ythlebgioamcioabgreat", sum := "e5cd86c9116f95c30d16051ed070828bd371e0dd2a182f0833c351ba550c71d8", func := "polyphony/polyphonylaw17.SpaceTwice", spec := "spaceTwice", unfollowed := true, recurses := true, plainKeys := false, apart := false }
def SpaceTwiceSaid : Prop := spaceTwiceRow.holds Tryz.pinned (OpenSpec.ofChange spaceTwiceSpec)

/-- ITS FALSE NEIGHBOUR: 'it returns false'. Refute it at one input. -/
def spaceTwiceWrong : ChangeSpec := { name := "spaceTwice", fn := fun _ => fun
  | [d1, d2] => { results := [.lit (.bool false)], args := [d1, d2] }
  | _ => none }
def SpaceTwiceWrongFalsely : Prop := spaceTwiceRow.holds Tryz.pinned (OpenSpec.ofChange spaceTwiceWrong)

/-- 'polyphonylaw17.SpaceKeeps': WHATEVER THE INPUT: true; the input reads as it did. -/
def spaceKeepsSpec : ChangeSpec := { name := "spaceKeeps", fn := fun _ => fun
  | [d1, d2] => { results := [.lit (.bool true)], args := [d1, d2] }
  | _ => none }
def spaceKeepsRow : OpenClaim := { program := "ythlebgioamcioabgreat", sum := "e5cd86c9116f95c30d16051ed070828bd371e0dd2a182f0833c351ba550c71d8", func := "polyphony/polyphonylaw17.SpaceKeeps", spec := "spaceKeeps", unfollowed := true, recurses := true, plainKeys := false, apart := false }
def SpaceKeepsSaid : Prop := spaceKeepsRow.holds Tryz.pinned (OpenSpec.ofChange spaceKeepsSpec)

/-- ITS FALSE NEIGHBOUR: 'it returns false'. Refute it at one input. -/
def spaceKeepsWrong : ChangeSpec := { name := "spaceKeeps", fn := fun _ => fun
  | [d1, d2] => { results := [.lit (.bool false)], args := [d1, d2] }
  | _ => none }
def SpaceKeepsWrongFalsely : Prop := spaceKeepsRow.holds Tryz.pinned (OpenSpec.ofChange spaceKeepsWrong)

/-- 'polyphonytop.TopLogs': WHATEVER THE INPUT: true; the input reads as it did. -/
def topLogsSpec : ChangeSpec := { name := "topLogs", fn := fun _ => fun
  | [d1, d2, d3, d4, d5] => { results := [.lit (.bool true)], args := [d1, d2, d3, d4, d5] }
  | _ => none }
def topLogsRow : OpenClaim := { program := "ythlebgioamcioabgreat", sum := "e5cd86c9116f95c30d16051ed070828bd371e0dd2a182f0833c351ba550c71d8", func := "polyphony/polyphonytop.TopLogs", spec := "topLogs", unfollowed := true, recurses := true, plainKeys := false, apart := false }
def TopLogsSaid : Prop := topLogsRow.holds Tryz.pinned (OpenSpec.ofChange topLogsSpec)

/-- ITS FALSE NEIGHBOUR: 'it returns false'. Refute it at one input. -/
def topLogsWrong : ChangeSpec := { name := "topLogs", fn := fun _ => fun
  | [d1, d2, d3, d4, d5] => { results := [.lit (.bool false)], args := [d1, d2, d3, d4, d5] }
  | _ => none }
def TopLogsWrongFalsely : Prop := topLogsRow.holds Tryz.pinned (OpenSpec.ofChange topLogsWrong)

/- THE SECOND FORM. 'bulk': how many values and letters a reading holds, each counted each time it is reached (what is shared counts as often as it is met; a slice's spare places count too). A statement '..UptoSaid' is the law's where the arguments, and the package variables that the reading takes, are together of bulk at most 1048576: NARROWER than '..Said'. Prove '..Said' where nothing that the law and all that it calls make is longer than what came in: it says more and counts as full. Else prove '..UptoSaid'. A law counts once. -/
mutual
def uptoBulk {H : Type} : DataW H → Nat
  | .lit (.string bytes) => bytes.length + 1
  | .lit _ => 1
  | .nil => 1
  | .ptr d => uptoBulk d + 1
  | .slice elems spare => uptoBulkAll elems + uptoBulkAll spare + 1
  | .agg parts => uptoBulkAll parts + 1
  | .iface _ d => uptoBulk d + 1
  | .map entries => uptoBulkEntries entries + 1
  | .held _ => 1
def uptoBulkAll {H : Type} : List (DataW H) → Nat
  | [] => 0
  | d :: r => uptoBulk d + uptoBulkAll r
def uptoBulkEntries {H : Type} : List (Lit × DataW H) → Nat
  | [] => 0
  | x :: r => uptoBulkEntry x + uptoBulkEntries r
def uptoBulkEntry {H : Type} : Lit × DataW H → Nat
  | (.string bytes, d) => bytes.length + uptoBulk d + 1
  | (_, d) => uptoBulk d + 1
 end
def uptoSmall : (H : Type) → List (DataW H) → Bool := fun _ ds => decide (uptoBulkAll ds ≤ 1048576)
def OpenSpec.upto (s : _root_.Go.ChangeSpec) : _root_.Go.OpenSpec := { _root_.Go.OpenSpec.ofChange s with cond := some uptoSmall }

/-- 'polyphonylaw17.SpaceNil', WHERE WHAT IT READS IS OF BULK AT MOST 1048576: true; the input reads as it did. -/
def spaceNilUptoRow : OpenClaim := { program := "ythlebgioamcioabgreat", sum := "e5cd86c9116f95c30d16051ed070828bd371e0dd2a182f0833c351ba550c71d8", func := "polyphony/polyphonylaw17.SpaceNil", spec := "spaceNil", unfollowed := true, recurses := true, plainKeys := false, apart := false, narrowed := true }
def SpaceNilUptoSaid : Prop := spaceNilUptoRow.holds Tryz.pinned (OpenSpec.upto spaceNilSpec)

/-- 'polyphonylaw17.SpaceReady', WHERE WHAT IT READS IS OF BULK AT MOST 1048576: true; the input reads as it did. -/
def spaceReadyUptoRow : OpenClaim := { program := "ythlebgioamcioabgreat", sum := "e5cd86c9116f95c30d16051ed070828bd371e0dd2a182f0833c351ba550c71d8", func := "polyphony/polyphonylaw17.SpaceReady", spec := "spaceReady", unfollowed := true, recurses := true, plainKeys := false, apart := false, narrowed := true }
def SpaceReadyUptoSaid : Prop := spaceReadyUptoRow.holds Tryz.pinned (OpenSpec.upto spaceReadySpec)

/-- 'polyphonylaw17.SpaceTwice', WHERE WHAT IT READS IS OF BULK AT MOST 1048576: true; the input reads as it did. -/
def spaceTwiceUptoRow : OpenClaim := { program := "ythlebgioamcioabgreat", sum := "e5cd86c9116f95c30d16051ed070828bd371e0dd2a182f0833c351ba550c71d8", func := "polyphony/polyphonylaw17.SpaceTwice", spec := "spaceTwice", unfollowed := true, recurses := true, plainKeys := false, apart := false, narrowed := true }
def SpaceTwiceUptoSaid : Prop := spaceTwiceUptoRow.holds Tryz.pinned (OpenSpec.upto spaceTwiceSpec)

/-- 'polyphonylaw17.SpaceKeeps', WHERE WHAT IT READS IS OF BULK AT MOST 1048576: true; the input reads as it did. -/
def spaceKeepsUptoRow : OpenClaim := { program := "ythlebgioamcioabgreat", sum := "e5cd86c9116f95c30d16051ed070828bd371e0dd2a182f0833c351ba550c71d8", func := "polyphony/polyphonylaw17.SpaceKeeps", spec := "spaceKeeps", unfollowed := true, recurses := true, plainKeys := false, apart := false, narrowed := true }
def SpaceKeepsUptoSaid : Prop := spaceKeepsUptoRow.holds Tryz.pinned (OpenSpec.upto spaceKeepsSpec)

/-- 'polyphonytop.TopLogs', WHERE WHAT IT READS IS OF BULK AT MOST 1048576: true; the input reads as it did. -/
def topLogsUptoRow : OpenClaim := { program := "ythlebgioamcioabgreat", sum := "e5cd86c9116f95c30d16051ed070828bd371e0dd2a182f0833c351ba550c71d8", func := "polyphony/polyphonytop.TopLogs", spec := "topLogs", unfollowed := true, recurses := true, plainKeys := false, apart := false, narrowed := true }
def TopLogsUptoSaid : Prop := topLogsUptoRow.holds Tryz.pinned (OpenSpec.upto topLogsSpec)

end Rows
end Go.Proofs.YthlebgioamcioabGreat
