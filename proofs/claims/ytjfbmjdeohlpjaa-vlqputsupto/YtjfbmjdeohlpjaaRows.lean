/-
  No cell of these rows narrows 'for every input' (looked for: loops, veiled, ifaces, maps, wideKeys, modest, calm, conditions, laid).
  DERIVED. THE GIVEN ROWS OF THIS SEAT. 6 by the template 'for every input the law returns true; each argument reads behind the call as it read before'; 0 by the template 'total and deterministic' (their statements: YtjfbmjdeohlpjaaTotals.lean).
  GIVEN WITH THE SEED: the statements are not yours to turn. If you find one false, say at which input.
  Laid BY PROGRAM, IN A SANDBOX (cutbox-rows.mjs): the forced cells as the released guide's own fill.sh prints them over the translation 2c513ec92e626b0f… (all of the seat's roots in one cut). By AI agents, Wed Nov 11 2026. No macro, syntax, notation, axiom, sorry.
-/
import Derived.Test.YtjfbmjdeohlpjaaChecked
import GoSem.Claim
import GoSem.ClaimJoined
import GoSem.ClaimMapViews
import Derived.JoinedTies
import Derived.KernelRfl
namespace Go.Proofs.Ytjfbmjdeohlpjaa
/- THE CELL 'sum', in the pinned program and in every row, IS THE sha256 OF THE DUMP (.gsa) THAT YtjfbmjdeohlpjaaProg.lean LOADS. Nothing in Lean hashes anything: it is a label: what it is worth is what the hold of that sum in a sandbox is worth. -/
noncomputable def Try.pinned : Pinned := { name := "ytjfbmjdeohlpjaa", sum := "2c513ec92e626b0f298a5924a8cde42fab8bb4e306d0bdb149a8026b855d1f4a", checked := Try.checked }
namespace Rows
def none {H : Type} : Left H := { results := [], args := [] }

/-- 'polyphonylaw01.VlqPuts': WHATEVER THE INPUT: true; the input reads as it did. -/
def vlqPutsSpec : ChangeSpec := { name := "vlqPuts", fn := fun _ => fun
  | [d1, d2, d3, d4] => { results := [.lit (.bool true)], args := [d1, d2, d3, d4] }
  | _ => none }
def vlqPutsRow : OpenClaim := { program := "ytjfbmjdeohlpjaa", sum := "2c513ec92e626b0f298a5924a8cde42fab8bb4e306d0bdb149a8026b855d1f4a", func := "polyphony/polyphonylaw01.VlqPuts", spec := "vlqPuts", apart := false }
def VlqPutsSaid : Prop := vlqPutsRow.holds Try.pinned (OpenSpec.ofChange vlqPutsSpec)

/-- ITS FALSE NEIGHBOUR: 'it returns false'. Refute it at one input. -/
def vlqPutsWrong : ChangeSpec := { name := "vlqPuts", fn := fun _ => fun
  | [d1, d2, d3, d4] => { results := [.lit (.bool false)], args := [d1, d2, d3, d4] }
  | _ => none }
def VlqPutsWrongFalsely : Prop := vlqPutsRow.holds Try.pinned (OpenSpec.ofChange vlqPutsWrong)

/-- 'polyphonylaw01.VlqTakes': WHATEVER THE INPUT: true; the input reads as it did. -/
def vlqTakesSpec : ChangeSpec := { name := "vlqTakes", fn := fun _ => fun
  | [d1, d2] => { results := [.lit (.bool true)], args := [d1, d2] }
  | _ => none }
def vlqTakesRow : OpenClaim := { program := "ytjfbmjdeohlpjaa", sum := "2c513ec92e626b0f298a5924a8cde42fab8bb4e306d0bdb149a8026b855d1f4a", func := "polyphony/polyphonylaw01.VlqTakes", spec := "vlqTakes", apart := false }
def VlqTakesSaid : Prop := vlqTakesRow.holds Try.pinned (OpenSpec.ofChange vlqTakesSpec)

/-- ITS FALSE NEIGHBOUR: 'it returns false'. Refute it at one input. -/
def vlqTakesWrong : ChangeSpec := { name := "vlqTakes", fn := fun _ => fun
  | [d1, d2] => { results := [.lit (.bool false)], args := [d1, d2] }
  | _ => none }
def VlqTakesWrongFalsely : Prop := vlqTakesRow.holds Try.pinned (OpenSpec.ofChange vlqTakesWrong)

/-- 'polyphonylaw01.VlqTexts': WHATEVER THE INPUT: true; the input reads as it did. -/
def vlqTextsSpec : ChangeSpec := { name := "vlqTexts", fn := fun _ => fun
  | [d1, d2, d3] => { results := [.lit (.bool true)], args := [d1, d2, d3] }
  | _ => none }
def vlqTextsRow : OpenClaim := { program := "ytjfbmjdeohlpjaa", sum := "2c513ec92e626b0f298a5924a8cde42fab8bb4e306d0bdb149a8026b855d1f4a", func := "polyphony/polyphonylaw01.VlqTexts", spec := "vlqTexts", apart := false }
def VlqTextsSaid : Prop := vlqTextsRow.holds Try.pinned (OpenSpec.ofChange vlqTextsSpec)

/-- ITS FALSE NEIGHBOUR: 'it returns false'. Refute it at one input. -/
def vlqTextsWrong : ChangeSpec := { name := "vlqTexts", fn := fun _ => fun
  | [d1, d2, d3] => { results := [.lit (.bool false)], args := [d1, d2, d3] }
  | _ => none }
def VlqTextsWrongFalsely : Prop := vlqTextsRow.holds Try.pinned (OpenSpec.ofChange vlqTextsWrong)

/-- 'polyphonylaw01.VlqBack': WHATEVER THE INPUT: true; the input reads as it did. -/
def vlqBackSpec : ChangeSpec := { name := "vlqBack", fn := fun _ => fun
  | [d1, d2, d3, d4, d5] => { results := [.lit (.bool true)], args := [d1, d2, d3, d4, d5] }
  | _ => none }
def vlqBackRow : OpenClaim := { program := "ytjfbmjdeohlpjaa", sum := "2c513ec92e626b0f298a5924a8cde42fab8bb4e306d0bdb149a8026b855d1f4a", func := "polyphony/polyphonylaw01.VlqBack", spec := "vlqBack", apart := false }
def VlqBackSaid : Prop := vlqBackRow.holds Try.pinned (OpenSpec.ofChange vlqBackSpec)

/-- ITS FALSE NEIGHBOUR: 'it returns false'. Refute it at one input. -/
def vlqBackWrong : ChangeSpec := { name := "vlqBack", fn := fun _ => fun
  | [d1, d2, d3, d4, d5] => { results := [.lit (.bool false)], args := [d1, d2, d3, d4, d5] }
  | _ => none }
def VlqBackWrongFalsely : Prop := vlqBackRow.holds Try.pinned (OpenSpec.ofChange vlqBackWrong)

/-- 'polyphonylaw01.VlqOne': WHATEVER THE INPUT: true; the input reads as it did. -/
def vlqOneSpec : ChangeSpec := { name := "vlqOne", fn := fun _ => fun
  | [d1, d2] => { results := [.lit (.bool true)], args := [d1, d2] }
  | _ => none }
def vlqOneRow : OpenClaim := { program := "ytjfbmjdeohlpjaa", sum := "2c513ec92e626b0f298a5924a8cde42fab8bb4e306d0bdb149a8026b855d1f4a", func := "polyphony/polyphonylaw01.VlqOne", spec := "vlqOne", apart := false }
def VlqOneSaid : Prop := vlqOneRow.holds Try.pinned (OpenSpec.ofChange vlqOneSpec)

/-- ITS FALSE NEIGHBOUR: 'it returns false'. Refute it at one input. -/
def vlqOneWrong : ChangeSpec := { name := "vlqOne", fn := fun _ => fun
  | [d1, d2] => { results := [.lit (.bool false)], args := [d1, d2] }
  | _ => none }
def VlqOneWrongFalsely : Prop := vlqOneRow.holds Try.pinned (OpenSpec.ofChange vlqOneWrong)

/-- 'polyphonylaw01.VlqOrders': WHATEVER THE INPUT: true; the input reads as it did. -/
def vlqOrdersSpec : ChangeSpec := { name := "vlqOrders", fn := fun _ => fun
  | [d1, d2] => { results := [.lit (.bool true)], args := [d1, d2] }
  | _ => none }
def vlqOrdersRow : OpenClaim := { program := "ytjfbmjdeohlpjaa", sum := "2c513ec92e626b0f298a5924a8cde42fab8bb4e306d0bdb149a8026b855d1f4a", func := "polyphony/polyphonylaw01.VlqOrders", spec := "vlqOrders", apart := false }
def VlqOrdersSaid : Prop := vlqOrdersRow.holds Try.pinned (OpenSpec.ofChange vlqOrdersSpec)

/-- ITS FALSE NEIGHBOUR: 'it returns false'. Refute it at one input. -/
def vlqOrdersWrong : ChangeSpec := { name := "vlqOrders", fn := fun _ => fun
  | [d1, d2] => { results := [.lit (.bool false)], args := [d1, d2] }
  | _ => none }
def VlqOrdersWrongFalsely : Prop := vlqOrdersRow.holds Try.pinned (OpenSpec.ofChange vlqOrdersWrong)

/- THE SECOND FORM. 'bulk': how many values and letters a reading holds, each counted each time it is reached (what is shared counts as often as it is met; a slice's spare places count too). A statement '..UptoSaid' is the law's where the arguments, and the package variables that the reading takes, are together of bulk at most 1048576: NARROWER than '..Said'. Prove '..Said' where nothing that the law and all that it calls make is longer than what came in: it says more and counts as full. Else prove '..UptoSaid'. A law counts once. -/
mutual
def uptoBulk {H : Type} : DataW H → Nat
  | .lit (.string bytes) => bytes.length + 1
  | .lit _ => 1
  | .nil => 1
  | .ptr d => uptoBulk d + 1
  | .slice elems spare => uptoBulkAll elems + uptoBulkAll spare + 1
  | .agg parts => uptoBulkAll parts + 1
  | .iface _ d => uptoBulk d + 1
  | .map entries => uptoBulkEntries entries + 1
  | .held _ => 1
def uptoBulkAll {H : Type} : List (DataW H) → Nat
  | [] => 0
  | d :: r => uptoBulk d + uptoBulkAll r
def uptoBulkEntries {H : Type} : List (Lit × DataW H) → Nat
  | [] => 0
  | x :: r => uptoBulkEntry x + uptoBulkEntries r
def uptoBulkEntry {H : Type} : Lit × DataW H → Nat
  | (.string bytes, d) => bytes.length + uptoBulk d + 1
  | (_, d) => uptoBulk d + 1
 end
def uptoSmall : (H : Type) → List (DataW H) → Bool := fun _ ds => decide (uptoBulkAll ds ≤ 1048576)
def OpenSpec.upto (s : _root_.Go.ChangeSpec) : _root_.Go.OpenSpec := { _root_.Go.OpenSpec.ofChange s with cond := some uptoSmall }

/-- 'polyphonylaw01.VlqPuts', WHERE WHAT IT READS IS OF BULK AT MOST 1048576: true; the input reads as it did. -/
def vlqPutsUptoRow : OpenClaim := { program := "ytjfbmjdeohlpjaa", sum := "2c513ec92e626b0f298a5924a8cde42fab8bb4e306d0bdb149a8026b855d1f4a", func := "polyphony/polyphonylaw01.VlqPuts", spec := "vlqPuts", apart := false, narrowed := true }
def VlqPutsUptoSaid : Prop := vlqPutsUptoRow.holds Try.pinned (OpenSpec.upto vlqPutsSpec)

/-- 'polyphonylaw01.VlqTakes', WHERE WHAT IT READS IS OF BULK AT MOST 1048576: true; the input reads as it did. -/
def vlqTakesUptoRow : OpenClaim := { program := "ytjfbmjdeohlpjaa", sum := "2c513ec92e626b0f298a5924a8cde42fab8bb4e306d0bdb149a8026b855d1f4a", func := "polyphony/polyphonylaw01.VlqTakes", spec := "vlqTakes", apart := false, narrowed := true }
def VlqTakesUptoSaid : Prop := vlqTakesUptoRow.holds Try.pinned (OpenSpec.upto vlqTakesSpec)

/-- 'polyphonylaw01.VlqTexts', WHERE WHAT IT READS IS OF BULK AT MOST 1048576: true; the input reads as it did. -/
def vlqTextsUptoRow : OpenClaim := { program := "ytjfbmjdeohlpjaa", sum := "2c513ec92e626b0f298a5924a8cde42fab8bb4e306d0bdb149a8026b855d1f4a", func := "polyphony/polyphonylaw01.VlqTexts", spec := "vlqTexts", apart := false, narrowed := true }
def VlqTextsUptoSaid : Prop := vlqTextsUptoRow.holds Try.pinned (OpenSpec.upto vlqTextsSpec)

/-- 'polyphonylaw01.VlqBack', WHERE WHAT IT READS IS OF BULK AT MOST 1048576: true; the input reads as it did. -/
def vlqBackUptoRow : OpenClaim := { program := "ytjfbmjdeohlpjaa", sum := "2c513ec92e626b0f298a5924a8cde42fab8bb4e306d0bdb149a8026b855d1f4a", func := "polyphony/polyphonylaw01.VlqBack", spec := "vlqBack", apart := false, narrowed := true }
def VlqBackUptoSaid : Prop := vlqBackUptoRow.holds Try.pinned (OpenSpec.upto vlqBackSpec)

/-- 'polyphonylaw01.VlqOne', WHERE WHAT IT READS IS OF BULK AT MOST 1048576: true; the input reads as it did. -/
def vlqOneUptoRow : OpenClaim := { program := "ytjfbmjdeohlpjaa", sum := "2c513ec92e626b0f298a5924a8cde42fab8bb4e306d0bdb149a8026b855d1f4a", func := "polyphony/polyphonylaw01.VlqOne", spec := "vlqOne", apart := false, narrowed := true }
def VlqOneUptoSaid : Prop := vlqOneUptoRow.holds Try.pinned (OpenSpec.upto vlqOneSpec)

/-- 'polyphonylaw01.VlqOrders', WHERE WHAT IT READS IS OF BULK AT MOST 1048576: true; the input reads as it did. -/
def vlqOrdersUptoRow : OpenClaim := { program := "ytjfbmjdeohlpjaa", sum := "2c513ec92e626b0f298a5924a8cde42fab8bb4e306d0bdb149a8026b855d1f4a", func := "polyphony/polyphonylaw01.VlqOrders", spec := "vlqOrders", apart := false, narrowed := true }
def VlqOrdersUptoSaid : Prop := vlqOrdersUptoRow.holds Try.pinned (OpenSpec.upto vlqOrdersSpec)

end Rows
end Go.Proofs.Ytjfbmjdeohlpjaa
