/-
  No cell of these rows narrows 'for every input' (looked for: loops, veiled, ifaces, maps, wideKeys, modest, calm, conditions, laid).
  DERIVED. THE GIVEN ROWS OF THIS SEAT. 5 by the template 'for every input the law returns true; each argument reads behind the call as it read before'; 0 by the template 'total and deterministic' (their statements: YthpkpmcccpfabaaTotals.lean).
  GIVEN WITH THE SEED: the statements are not yours to turn. If you find one false, say at which input.
  Laid BY PROGRAM, IN A SANDBOX (cutbox-rows.mjs): the forced cells as the released guide's own fill.sh prints them over the translation f4d6f7a582f7c081… (all of the seat's roots in one cut). By AI agents, Wed Nov 11 2026. No macro, syntax, notation, axiom, sorry.
-/
import Derived.Test.YthpkpmcccpfabaaChecked
import GoSem.Claim
import GoSem.ClaimJoined
import GoSem.ClaimMapViews
import Derived.JoinedTies
import Derived.KernelRfl
namespace Go.Proofs.Ythpkpmcccpfabaa
/- THE CELL 'sum', in the pinned program and in every row, IS THE sha256 OF THE DUMP (.gsa) THAT YthpkpmcccpfabaaProg.lean LOADS. Nothing in Lean hashes anything: it is a label: what it is worth is what the hold of that sum in a sandbox is worth. -/
noncomputable def Try.pinned : Pinned := { name := "ythpkpmcccpfabaa", sum := "f4d6f7a582f7c081d8fceebdb193bc2f0d71b003f5ce03773d7dd95977aafe8c", checked := Try.checked }
namespace Rows
def none {H : Type} : Left H := { results := [], args := [] }

/-- 'polyphonylaw18.CausalPlays': WHATEVER THE INPUT: true; the input reads as it did. -/
def causalPlaysSpec : ChangeSpec := { name := "causalPlays", fn := fun _ => fun
  | [d1, d2] => { results := [.lit (.bool true)], args := [d1, d2] }
  | _ => none }
def causalPlaysRow : OpenClaim := { program := "ythpkpmcccpfabaa", sum := "f4d6f7a582f7c081d8fceebdb193bc2f0d71b003f5ce03773d7dd95977aafe8c", func := "polyphony/polyphonylaw18.CausalPlays", spec := "causalPlays", unfollowed := true, recurses := true, plainKeys := false, apart := false }
def CausalPlaysSaid : Prop := causalPlaysRow.holds Try.pinned (OpenSpec.ofChange causalPlaysSpec)

/-- ITS FALSE NEIGHBOUR: 'it returns false'. Refute it at one input. -/
def causalPlaysWrong : ChangeSpec := { name := "causalPlays", fn := fun _ => fun
  | [d1, d2] => { results := [.lit (.bool false)], args := [d1, d2] }
  | _ => none }
def CausalPlaysWrongFalsely : Prop := causalPlaysRow.holds Try.pinned (OpenSpec.ofChange causalPlaysWrong)

/-- 'polyphonylaw18.CausalOnce': WHATEVER THE INPUT: true; the input reads as it did. -/
def causalOnceSpec : ChangeSpec := { name := "causalOnce", fn := fun _ => fun
  | [d] => { results := [.lit (.bool true)], args := [d] }
  | _ => none }
def causalOnceRow : OpenClaim := { program := "ythpkpmcccpfabaa", sum := "f4d6f7a582f7c081d8fceebdb193bc2f0d71b003f5ce03773d7dd95977aafe8c", func := "polyphony/polyphonylaw18.CausalOnce", spec := "causalOnce", unfollowed := true, recurses := true, plainKeys := false, apart := false }
def CausalOnceSaid : Prop := causalOnceRow.holds Try.pinned (OpenSpec.ofChange causalOnceSpec)

/-- ITS FALSE NEIGHBOUR: 'it returns false'. Refute it at one input. -/
def causalOnceWrong : ChangeSpec := { name := "causalOnce", fn := fun _ => fun
  | [d] => { results := [.lit (.bool false)], args := [d] }
  | _ => none }
def CausalOnceWrongFalsely : Prop := causalOnceRow.holds Try.pinned (OpenSpec.ofChange causalOnceWrong)

/-- 'polyphonylaw18.CausalAll': WHATEVER THE INPUT: true; the input reads as it did. -/
def causalAllSpec : ChangeSpec := { name := "causalAll", fn := fun _ => fun
  | [d1, d2] => { results := [.lit (.bool true)], args := [d1, d2] }
  | _ => none }
def causalAllRow : OpenClaim := { program := "ythpkpmcccpfabaa", sum := "f4d6f7a582f7c081d8fceebdb193bc2f0d71b003f5ce03773d7dd95977aafe8c", func := "polyphony/polyphonylaw18.CausalAll", spec := "causalAll", unfollowed := true, recurses := true, plainKeys := false, apart := false }
def CausalAllSaid : Prop := causalAllRow.holds Try.pinned (OpenSpec.ofChange causalAllSpec)

/-- ITS FALSE NEIGHBOUR: 'it returns false'. Refute it at one input. -/
def causalAllWrong : ChangeSpec := { name := "causalAll", fn := fun _ => fun
  | [d1, d2] => { results := [.lit (.bool false)], args := [d1, d2] }
  | _ => none }
def CausalAllWrongFalsely : Prop := causalAllRow.holds Try.pinned (OpenSpec.ofChange causalAllWrong)

/-- 'polyphonylaw18.CausalNil': WHATEVER THE INPUT: true; the input reads as it did. -/
def causalNilSpec : ChangeSpec := { name := "causalNil", fn := fun _ => fun
  | [d1, d2] => { results := [.lit (.bool true)], args := [d1, d2] }
  | _ => none }
def causalNilRow : OpenClaim := { program := "ythpkpmcccpfabaa", sum := "f4d6f7a582f7c081d8fceebdb193bc2f0d71b003f5ce03773d7dd95977aafe8c", func := "polyphony/polyphonylaw18.CausalNil", spec := "causalNil", unfollowed := true, recurses := true, plainKeys := false, apart := false }
def CausalNilSaid : Prop := causalNilRow.holds Try.pinned (OpenSpec.ofChange causalNilSpec)

/-- ITS FALSE NEIGHBOUR: 'it returns false'. Refute it at one input. -/
def causalNilWrong : ChangeSpec := { name := "causalNil", fn := fun _ => fun
  | [d1, d2] => { results := [.lit (.bool false)], args := [d1, d2] }
  | _ => none }
def CausalNilWrongFalsely : Prop := causalNilRow.holds Try.pinned (OpenSpec.ofChange causalNilWrong)

/-- 'polyphonylaw18.CausalAgain': WHATEVER THE INPUT: true; the input reads as it did. -/
def causalAgainSpec : ChangeSpec := { name := "causalAgain", fn := fun _ => fun
  | [d1, d2] => { results := [.lit (.bool true)], args := [d1, d2] }
  | _ => none }
def causalAgainRow : OpenClaim := { program := "ythpkpmcccpfabaa", sum := "f4d6f7a582f7c081d8fceebdb193bc2f0d71b003f5ce03773d7dd95977aafe8c", func := "polyphony/polyphonylaw18.CausalAgain", spec := "causalAgain", unfollowed := true, recurses := true, plainKeys := false, apart := false }
def CausalAgainSaid : Prop := causalAgainRow.holds Try.pinned (OpenSpec.ofChange causalAgainSpec)

/-- ITS FALSE NEIGHBOUR: 'it returns false'. Refute it at one input. -/
def causalAgainWrong : ChangeSpec := { name := "causalAgain", fn := fun _ => fun
  | [d1, d2] => { results := [.lit (.bool false)], args := [d1, d2] }
  | _ => none }
def CausalAgainWrongFalsely : Prop := causalAgainRow.holds Try.pinned (OpenSpec.ofChange causalAgainWrong)

/- THE SECOND FORM. 'bulk': how many values and letters a reading holds, each counted each time it is reached (what is shared counts as often as it is met; a slice's spare places count too). A statement '..UptoSaid' is the law's where the arguments, and the package variables that the reading takes, are together of bulk at most 1048576: NARROWER than '..Said'. Prove '..Said' where nothing that the law and all that it calls make is longer than what came in: it says more and counts as full. Else prove '..UptoSaid'. A law counts once. -/
mutual
def uptoBulk {H : Type} : DataW H → Nat
  | .lit (.string bytes) => bytes.length + 1
  | .lit _ => 1
  | .nil => 1
  | .ptr d => uptoBulk d + 1
  | .slice elems spare => uptoBulkAll elems + uptoBulkAll spare + 1
  | .agg parts => uptoBulkAll parts + 1
  | .iface _ d => uptoBulk d + 1
  | .map entries => uptoBulkEntries entries + 1
  | .held _ => 1
def uptoBulkAll {H : Type} : List (DataW H) → Nat
  | [] => 0
  | d :: r => uptoBulk d + uptoBulkAll r
def uptoBulkEntries {H : Type} : List (Lit × DataW H) → Nat
  | [] => 0
  | x :: r => uptoBulkEntry x + uptoBulkEntries r
def uptoBulkEntry {H : Type} : Lit × DataW H → Nat
  | (.string bytes, d) => bytes.length + uptoBulk d + 1
  | (_, d) => uptoBulk d + 1
 end
def uptoSmall : (H : Type) → List (DataW H) → Bool := fun _ ds => decide (uptoBulkAll ds ≤ 1048576)
def OpenSpec.upto (s : _root_.Go.ChangeSpec) : _root_.Go.OpenSpec := { _root_.Go.OpenSpec.ofChange s with cond := some uptoSmall }

/-- 'polyphonylaw18.CausalPlays', WHERE WHAT IT READS IS OF BULK AT MOST 1048576: true; the input reads as it did. -/
def causalPlaysUptoRow : OpenClaim := { program := "ythpkpmcccpfabaa", sum := "f4d6f7a582f7c081d8fceebdb193bc2f0d71b003f5ce03773d7dd95977aafe8c", func := "polyphony/polyphonylaw18.CausalPlays", spec := "causalPlays", unfollowed := true, recurses := true, plainKeys := false, apart := false, narrowed := true }
def CausalPlaysUptoSaid : Prop := causalPlaysUptoRow.holds Try.pinned (OpenSpec.upto causalPlaysSpec)

/-- 'polyphonylaw18.CausalOnce', WHERE WHAT IT READS IS OF BULK AT MOST 1048576: true; the input reads as it did. -/
def causalOnceUptoRow : OpenClaim := { program := "ythpkpmcccpfabaa", sum := "f4d6f7a582f7c081d8fceebdb193bc2f0d71b003f5ce03773d7dd95977aafe8c", func := "polyphony/polyphonylaw18.CausalOnce", spec := "causalOnce", unfollowed := true, recurses := true, plainKeys := false, apart := false, narrowed := true }
def CausalOnceUptoSaid : Prop := causalOnceUptoRow.holds Try.pinned (OpenSpec.upto causalOnceSpec)

/-- 'polyphonylaw18.CausalAll', WHERE WHAT IT READS IS OF BULK AT MOST 1048576: true; the input reads as it did. -/
def causalAllUptoRow : OpenClaim := { program := "ythpkpmcccpfabaa", sum := "f4d6f7a582f7c081d8fceebdb193bc2f0d71b003f5ce03773d7dd95977aafe8c", func := "polyphony/polyphonylaw18.CausalAll", spec := "causalAll", unfollowed := true, recurses := true, plainKeys := false, apart := false, narrowed := true }
def CausalAllUptoSaid : Prop := causalAllUptoRow.holds Try.pinned (OpenSpec.upto causalAllSpec)

/-- 'polyphonylaw18.CausalNil', WHERE WHAT IT READS IS OF BULK AT MOST 1048576: true; the input reads as it did. -/
def causalNilUptoRow : OpenClaim := { program := "ythpkpmcccpfabaa", sum := "f4d6f7a582f7c081d8fceebdb193bc2f0d71b003f5ce03773d7dd95977aafe8c", func := "polyphony/polyphonylaw18.CausalNil", spec := "causalNil", unfollowed := true, recurses := true, plainKeys := false, apart := false, narrowed := true }
def CausalNilUptoSaid : Prop := causalNilUptoRow.holds Try.pinned (OpenSpec.upto causalNilSpec)

/-- 'polyphonylaw18.CausalAgain', WHERE WHAT IT READS IS OF BULK AT MOST 1048576: true; the input reads as it did. -/
def causalAgainUptoRow : OpenClaim := { program := "ythpkpmcccpfabaa", sum := "f4d6f7a582f7c081d8fceebdb193bc2f0d71b003f5ce03773d7dd95977aafe8c", func := "polyphony/polyphonylaw18.CausalAgain", spec := "causalAgain", unfollowed := true, recurses := true, plainKeys := false, apart := false, narrowed := true }
def CausalAgainUptoSaid : Prop := causalAgainUptoRow.holds Try.pinned (OpenSpec.upto causalAgainSpec)

end Rows
end Go.Proofs.Ythpkpmcccpfabaa
