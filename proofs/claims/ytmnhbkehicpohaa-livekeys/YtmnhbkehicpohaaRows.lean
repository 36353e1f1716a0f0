/-
  No cell of these rows narrows 'for every input' (looked for: loops, veiled, ifaces, maps, wideKeys, modest, calm, conditions, laid).
  DERIVED. THE GIVEN ROWS OF THIS SEAT. 6 by the template 'for every input the law returns true; each argument reads behind the call as it read before'; 0 by the template 'total and deterministic' (their statements: YtmnhbkehicpohaaTotals.lean).
  GIVEN WITH THE SEED: the statements are not yours to turn. If you find one false, say at which input.
  Laid BY PROGRAM, IN A SANDBOX (cutbox-rows.mjs): the forced cells as the released guide's own fill.sh prints them over the translation 47a1667f2651f4e6… (all of the seat's roots in one cut). By AI agents, Wed Nov 11 2026. No macro, syntax, notation, axiom, sorry.
-/
import Derived.Test.YtmnhbkehicpohaaChecked
import GoSem.Claim
import GoSem.ClaimJoined
import GoSem.ClaimMapViews
import Derived.JoinedTies
import Derived.KernelRfl
namespace Go.Proofs.Ytmnhbkehicpohaa
/- THE CELL 'sum', in the pinned program and in every row, IS THE sha256 OF THE DUMP (.gsa) THAT YtmnhbkehicpohaaProg.lean LOADS. Nothing in Lean hashes anything: it is a label: what it is worth is what the hold of that sum in a sandbox is worth. -/
noncomputable def Try.pinned : Pinned := { name := "ytmnhbkehicpohaa", sum := "47a1667f2651f4e67d1ad1604e2c13f0f79b001790974baee84479603bbab3c8", checked := Try.checked }
namespace Rows
def none {H : Type} : Left H := { results := [], args := [] }

/-- 'polyphonylaw10.LiveAll': WHATEVER THE INPUT: true; the input reads as it did. -/
def liveAllSpec : ChangeSpec := { name := "liveAll", fn := fun _ => fun
  | [d1, d2, d3] => { results := [.lit (.bool true)], args := [d1, d2, d3] }
  | _ => none }
def liveAllRow : OpenClaim := { program := "ytmnhbkehicpohaa", sum := "47a1667f2651f4e67d1ad1604e2c13f0f79b001790974baee84479603bbab3c8", func := "polyphony/polyphonylaw10.LiveAll", spec := "liveAll", unfollowed := true, recurses := true, plainKeys := false, apart := false }
def LiveAllSaid : Prop := liveAllRow.holds Try.pinned (OpenSpec.ofChange liveAllSpec)

/-- ITS FALSE NEIGHBOUR: 'it returns false'. Refute it at one input. -/
def liveAllWrong : ChangeSpec := { name := "liveAll", fn := fun _ => fun
  | [d1, d2, d3] => { results := [.lit (.bool false)], args := [d1, d2, d3] }
  | _ => none }
def LiveAllWrongFalsely : Prop := liveAllRow.holds Try.pinned (OpenSpec.ofChange liveAllWrong)

/-- 'polyphonylaw10.LiveKeys': WHATEVER THE INPUT: true; the input reads as it did. -/
def liveKeysSpec : ChangeSpec := { name := "liveKeys", fn := fun _ => fun
  | [d1, d2] => { results := [.lit (.bool true)], args := [d1, d2] }
  | _ => none }
def liveKeysRow : OpenClaim := { program := "ytmnhbkehicpohaa", sum := "47a1667f2651f4e67d1ad1604e2c13f0f79b001790974baee84479603bbab3c8", func := "polyphony/polyphonylaw10.LiveKeys", spec := "liveKeys", unfollowed := true, recurses := true, plainKeys := false, apart := false }
def LiveKeysSaid : Prop := liveKeysRow.holds Try.pinned (OpenSpec.ofChange liveKeysSpec)

/-- ITS FALSE NEIGHBOUR: 'it returns false'. Refute it at one input. -/
def liveKeysWrong : ChangeSpec := { name := "liveKeys", fn := fun _ => fun
  | [d1, d2] => { results := [.lit (.bool false)], args := [d1, d2] }
  | _ => none }
def LiveKeysWrongFalsely : Prop := liveKeysRow.holds Try.pinned (OpenSpec.ofChange liveKeysWrong)

/-- 'polyphonylaw10.LiveOrder': WHATEVER THE INPUT: true; the input reads as it did. -/
def liveOrderSpec : ChangeSpec := { name := "liveOrder", fn := fun _ => fun
  | [d1, d2, d3] => { results := [.lit (.bool true)], args := [d1, d2, d3] }
  | _ => none }
def liveOrderRow : OpenClaim := { program := "ytmnhbkehicpohaa", sum := "47a1667f2651f4e67d1ad1604e2c13f0f79b001790974baee84479603bbab3c8", func := "polyphony/polyphonylaw10.LiveOrder", spec := "liveOrder", unfollowed := true, recurses := true, plainKeys := false, apart := false }
def LiveOrderSaid : Prop := liveOrderRow.holds Try.pinned (OpenSpec.ofChange liveOrderSpec)

/-- ITS FALSE NEIGHBOUR: 'it returns false'. Refute it at one input. -/
def liveOrderWrong : ChangeSpec := { name := "liveOrder", fn := fun _ => fun
  | [d1, d2, d3] => { results := [.lit (.bool false)], args := [d1, d2, d3] }
  | _ => none }
def LiveOrderWrongFalsely : Prop := liveOrderRow.holds Try.pinned (OpenSpec.ofChange liveOrderWrong)

/-- 'polyphonylaw10.LiveApart': WHATEVER THE INPUT: true; the input reads as it did. -/
def liveApartSpec : ChangeSpec := { name := "liveApart", fn := fun _ => fun
  | [d1, d2] => { results := [.lit (.bool true)], args := [d1, d2] }
  | _ => none }
def liveApartRow : OpenClaim := { program := "ytmnhbkehicpohaa", sum := "47a1667f2651f4e67d1ad1604e2c13f0f79b001790974baee84479603bbab3c8", func := "polyphony/polyphonylaw10.LiveApart", spec := "liveApart", unfollowed := true, recurses := true, plainKeys := false, apart := false }
def LiveApartSaid : Prop := liveApartRow.holds Try.pinned (OpenSpec.ofChange liveApartSpec)

/-- ITS FALSE NEIGHBOUR: 'it returns false'. Refute it at one input. -/
def liveApartWrong : ChangeSpec := { name := "liveApart", fn := fun _ => fun
  | [d1, d2] => { results := [.lit (.bool false)], args := [d1, d2] }
  | _ => none }
def LiveApartWrongFalsely : Prop := liveApartRow.holds Try.pinned (OpenSpec.ofChange liveApartWrong)

/-- 'polyphonylaw10.LiveStays': WHATEVER THE INPUT: true; the input reads as it did. -/
def liveStaysSpec : ChangeSpec := { name := "liveStays", fn := fun _ => fun
  | [d1, d2] => { results := [.lit (.bool true)], args := [d1, d2] }
  | _ => none }
def liveStaysRow : OpenClaim := { program := "ytmnhbkehicpohaa", sum := "47a1667f2651f4e67d1ad1604e2c13f0f79b001790974baee84479603bbab3c8", func := "polyphony/polyphonylaw10.LiveStays", spec := "liveStays", unfollowed := true, recurses := true, plainKeys := false, apart := false }
def LiveStaysSaid : Prop := liveStaysRow.holds Try.pinned (OpenSpec.ofChange liveStaysSpec)

/-- ITS FALSE NEIGHBOUR: 'it returns false'. Refute it at one input. -/
def liveStaysWrong : ChangeSpec := { name := "liveStays", fn := fun _ => fun
  | [d1, d2] => { results := [.lit (.bool false)], args := [d1, d2] }
  | _ => none }
def LiveStaysWrongFalsely : Prop := liveStaysRow.holds Try.pinned (OpenSpec.ofChange liveStaysWrong)

/-- 'polyphonylaw10.LivePrunes': WHATEVER THE INPUT: true; the input reads as it did. -/
def livePrunesSpec : ChangeSpec := { name := "livePrunes", fn := fun _ => fun
  | [d1, d2] => { results := [.lit (.bool true)], args := [d1, d2] }
  | _ => none }
def livePrunesRow : OpenClaim := { program := "ytmnhbkehicpohaa", sum := "47a1667f2651f4e67d1ad1604e2c13f0f79b001790974baee84479603bbab3c8", func := "polyphony/polyphonylaw10.LivePrunes", spec := "livePrunes", unfollowed := true, recurses := true, plainKeys := false, apart := false }
def LivePrunesSaid : Prop := livePrunesRow.holds Try.pinned (OpenSpec.ofChange livePrunesSpec)

/-- ITS FALSE NEIGHBOUR: 'it returns false'. Refute it at one input. -/
def livePrunesWrong : ChangeSpec := { name := "livePrunes", fn := fun _ => fun
  | [d1, d2] => { results := [.lit (.bool false)], args := [d1, d2] }
  | _ => none }
def LivePrunesWrongFalsely : Prop := livePrunesRow.holds Try.pinned (OpenSpec.ofChange livePrunesWrong)

/- THE SECOND FORM. 'bulk': how many values and letters a reading holds, each counted each time it is reached (what is shared counts as often as it is met; a slice's spare places count too). A statement '..UptoSaid' is the law's where the arguments, and the package variables that the reading takes, are together of bulk at most 1048576: NARROWER than '..Said'. Prove '..Said' where nothing that the law and all that it calls make is longer than what came in: it says more and counts as full. Else prove '..UptoSaid'. A law counts once. -/
mutual
def uptoBulk {H : Type} : DataW H → Nat
  | .lit (.string bytes) => bytes.length + 1
  | .lit _ => 1
  | .nil => 1
  | .ptr d => uptoBulk d + 1
  | .slice elems spare => uptoBulkAll elems + uptoBulkAll spare + 1
  | .agg parts => uptoBulkAll parts + 1
  | .iface _ d => uptoBulk d + 1
  | .map entries => uptoBulkEntries entries + 1
  | .held _ => 1
def uptoBulkAll {H : Type} : List (DataW H) → Nat
  | [] => 0
  | d :: r => uptoBulk d + uptoBulkAll r
def uptoBulkEntries {H : Type} : List (Lit × DataW H) → Nat
  | [] => 0
  | x :: r => uptoBulkEntry x + uptoBulkEntries r
def uptoBulkEntry {H : Type} : Lit × DataW H → Nat
  | (.string bytes, d) => bytes.length + uptoBulk d + 1
  | (_, d) => uptoBulk d + 1
 end
def uptoSmall : (H : Type) → List (DataW H) → Bool := fun _ ds => decide (uptoBulkAll ds ≤ 1048576)
def OpenSpec.upto (s : _root_.Go.ChangeSpec) : _root_.Go.OpenSpec := { _root_.Go.OpenSpec.ofChange s with cond := some uptoSmall }

/-- 'polyphonylaw10.LiveAll', WHERE WHAT IT READS IS OF BULK AT MOST 1048576: true; the input reads as it did. -/
def liveAllUptoRow : OpenClaim := { program := "ytmnhbkehicpohaa", sum := "47a1667f2651f4e67d1ad1604e2c13f0f79b001790974baee84479603bbab3c8", func := "polyphony/polyphonylaw10.LiveAll", spec := "liveAll", unfollowed := true, recurses := true, plainKeys := false, apart := false, narrowed := true }
def LiveAllUptoSaid : Prop := liveAllUptoRow.holds Try.pinned (OpenSpec.upto liveAllSpec)

/-- 'polyphonylaw10.LiveKeys', WHERE WHAT IT READS IS OF BULK AT MOST 1048576: true; the input reads as it did. -/
def liveKeysUptoRow : OpenClaim := { program := "ytmnhbkehicpohaa", sum := "47a1667f2651f4e67d1ad1604e2c13f0f79b001790974baee84479603bbab3c8", func := "polyphony/polyphonylaw10.LiveKeys", spec := "liveKeys", unfollowed := true, recurses := true, plainKeys := false, apart := false, narrowed := true }
def LiveKeysUptoSaid : Prop := liveKeysUptoRow.holds Try.pinned (OpenSpec.upto liveKeysSpec)

/-- 'polyphonylaw10.LiveOrder', WHERE WHAT IT READS IS OF BULK AT MOST 1048576: true; the input reads as it did. -/
def liveOrderUptoRow : OpenClaim := { program := "ytmnhbkehicpohaa", sum := "47a1667f2651f4e67d1ad1604e2c13f0f79b001790974baee84479603bbab3c8", func := "polyphony/polyphonylaw10.LiveOrder", spec := "liveOrder", unfollowed := true, recurses := true, plainKeys := false, apart := false, narrowed := true }
def LiveOrderUptoSaid : Prop := liveOrderUptoRow.holds Try.pinned (OpenSpec.upto liveOrderSpec)

/-- 'polyphonylaw10.LiveApart', WHERE WHAT IT READS IS OF BULK AT MOST 1048576: true; the input reads as it did. -/
def liveApartUptoRow : OpenClaim := { program := "ytmnhbkehicpohaa", sum := "47a1667f2651f4e67d1ad1604e2c13f0f79b001790974baee84479603bbab3c8", func := "polyphony/polyphonylaw10.LiveApart", spec := "liveApart", unfollowed := true, recurses := true, plainKeys := false, apart := false, narrowed := true }
def LiveApartUptoSaid : Prop := liveApartUptoRow.holds Try.pinned (OpenSpec.upto liveApartSpec)

/-- 'polyphonylaw10.LiveStays', WHERE WHAT IT READS IS OF BULK AT MOST 1048576: true; the input reads as it did. -/
def liveStaysUptoRow : OpenClaim := { program := "ytmnhbkehicpohaa", sum := "47a1667f2651f4e67d1ad1604e2c13f0f79b001790974baee84479603bbab3c8", func := "polyphony/polyphonylaw10.LiveStays", spec := "liveStays", unfollowed := true, recurses := true, plainKeys := false, apart := false, narrowed := true }
def LiveStaysUptoSaid : Prop := liveStaysUptoRow.holds Try.pinned (OpenSpec.upto liveStaysSpec)

/-- 'polyphonylaw10.LivePrunes', WHERE WHAT IT READS IS OF BULK AT MOST 1048576: true; the input reads as it did. -/
def livePrunesUptoRow : OpenClaim := { program := "ytmnhbkehicpohaa", sum := "47a1667f2651f4e67d1ad1604e2c13f0f79b001790974baee84479603bbab3c8", func := "polyphony/polyphonylaw10.LivePrunes", spec := "livePrunes", unfollowed := true, recurses := true, plainKeys := false, apart := false, narrowed := true }
def LivePrunesUptoSaid : Prop := livePrunesUptoRow.holds Try.pinned (OpenSpec.upto livePrunesSpec)

end Rows
end Go.Proofs.Ytmnhbkehicpohaa
