/-
  NARROWER THAN 'FOR EVERY INPUT', by the rows' own cells (each row's printed sentence says how): RespReplies: laid · RespParses: laid · RespPieces: laid · RespBack: laid · RespLines: laid · RespNil: laid.
  DERIVED. THE GIVEN ROWS OF THIS SEAT. 6 by the template 'for every input the law returns true; each argument reads behind the call as it read before'; 0 by the template 'total and deterministic' (their statements: YtkhfplpplmnjiaaDoorTotals.lean).
  GIVEN WITH THE SEED: the statements are not yours to turn. If you find one false, say at which input.
  Laid BY PROGRAM, IN A SANDBOX (cutbox-rows.mjs): the forced cells as the released guide's own fill.sh prints them over the translation 7bacf4540d6db535… (all of the seat's roots in one cut). By AI agents, Wed Nov 11 2026. No macro, syntax, notation, axiom, sorry.
-/
import Derived.Test.YtkhfplpplmnjiaaDoorChecked
import GoSem.Claim
import GoSem.ClaimJoined
import GoSem.ClaimMapViews
import Derived.JoinedTies
import Derived.KernelRfl
namespace Go.Proofs.YtkhfplpplmnjiaaDoor
/- THE CELL 'sum', in the pinned program and in every row, IS THE sha256 OF THE DUMP (.gsa) THAT YtkhfplpplmnjiaaDoorProg.lean LOADS. Nothing in Lean hashes anything: it is a label: what it is worth is what the hold of that sum in a sandbox is worth. -/
noncomputable def Tryd.pinned : Pinned := { name := "ytkhfplpplmnjiaadoor", sum := "7bacf4540d6db535c2f4d9e3eef526815c922f89629bc3ebfea6516b98707d01", checked := Tryd.checked }
namespace Rows
def none {H : Type} : Left H := { results := [], args := [] }

/- WHAT THE LISTED PACKAGE-LEVEL VARIABLES READ AS WHEN THE CALL BEGINS. Each datum BY PROGRAM (the guide's laid-datum.mjs) off the statement by which the dump's own 'gosem.cut.vars' lays the variable. In a bare row this is a premise. The card (YtkhfplpplmnjiaaDoorCards.lean) ties it to the program's text. -/
def laid_math_bits_deBruijn32tab {H : Type} : DataW H := .agg [.lit (.int .u8 0), .lit (.int .u8 1), .lit (.int .u8 28), .lit (.int .u8 2), .lit (.int .u8 29), .lit (.int .u8 14), .lit (.int .u8 24), .lit (.int .u8 3), .lit (.int .u8 30), .lit (.int .u8 22), .lit (.int .u8 20), .lit (.int .u8 15), .lit (.int .u8 25), .lit (.int .u8 17), .lit (.int .u8 4), .lit (.int .u8 8), .lit (.int .u8 31), .lit (.int .u8 27), .lit (.int .u8 13), .lit (.int .u8 23), .lit (.int .u8 21), .lit (.int .u8 19), .lit (.int .u8 16), .lit (.int .u8 7), .lit (.int .u8 26), .lit (.int .u8 12), .lit (.int .u8 18), .lit (.int .u8 6), .lit (.int .u8 11), .lit (.int .u8 5), .lit (.int .u8 10), .lit (.int .u8 9)]
def laid_math_bits_deBruijn64tab {H : Type} : DataW H := .agg [.lit (.int .u8 0), .lit (.int .u8 1), .lit (.int .u8 56), .lit (.int .u8 2), .lit (.int .u8 57), .lit (.int .u8 49), .lit (.int .u8 28), .lit (.int .u8 3), .lit (.int .u8 61), .lit (.int .u8 58), .lit (.int .u8 42), .lit (.int .u8 50), .lit (.int .u8 38), .lit (.int .u8 29), .lit (.int .u8 17), .lit (.int .u8 4), .lit (.int .u8 62), .lit (.int .u8 47), .lit (.int .u8 59), .lit (.int .u8 36), .lit (.int .u8 45), .lit (.int .u8 43), .lit (.int .u8 51), .lit (.int .u8 22), .lit (.int .u8 53), .lit (.int .u8 39), .lit (.int .u8 33), .lit (.int .u8 30), .lit (.int .u8 24), .lit (.int .u8 18), .lit (.int .u8 12), .lit (.int .u8 5), .lit (.int .u8 63), .lit (.int .u8 55), .lit (.int .u8 48), .lit (.int .u8 27), .lit (.int .u8 60), .lit (.int .u8 41), .lit (.int .u8 37), .lit (.int .u8 16), .lit (.int .u8 46), .lit (.int .u8 35), .lit (.int .u8 44), .lit (.int .u8 21), .lit (.int .u8 52), .lit (.int .u8 32), .lit (.int .u8 23), .lit (.int .u8 11), .lit (.int .u8 54), .lit (.int .u8 26), .lit (.int .u8 40), .lit (.int .u8 15), .lit (.int .u8 34), .lit (.int .u8 20), .lit (.int .u8 31), .lit (.int .u8 10), .lit (.int .u8 25), .lit (.int .u8 14), .lit (.int .u8 19), .lit (.int .u8 9), .lit (.int .u8 13), .lit (.int .u8 8), .lit (.int .u8 7), .lit (.int .u8 6)]
def laid_internal_strconv_uint64pow10 {H : Type} : DataW H := .agg [.lit (.int .u64 1), .lit (.int .u64 10), .lit (.int .u64 100), .lit (.int .u64 1000), .lit (.int .u64 10000), .lit (.int .u64 100000), .lit (.int .u64 1000000), .lit (.int .u64 10000000), .lit (.int .u64 100000000), .lit (.int .u64 1000000000), .lit (.int .u64 10000000000), .lit (.int .u64 100000000000), .lit (.int .u64 1000000000000), .lit (.int .u64 10000000000000), .lit (.int .u64 100000000000000), .lit (.int .u64 1000000000000000), .lit (.int .u64 10000000000000000), .lit (.int .u64 100000000000000000), .lit (.int .u64 1000000000000000000), .lit (.int .u64 10000000000000000000)]

/-- 'polyphonylaw21.RespReplies': WHATEVER THE INPUT: true; the input reads as it did. -/
def respRepliesSpec : ChangeSpec := { name := "respReplies", fn := fun _ => fun
  | [d] => { results := [.lit (.bool true)], args := [d] }
  | _ => none }
def respRepliesRow : OpenClaim := { program := "ytkhfplpplmnjiaadoor", sum := "7bacf4540d6db535c2f4d9e3eef526815c922f89629bc3ebfea6516b98707d01", func := "polyphony/polyphonylaw21.RespReplies", spec := "respReplies", recurses := true, named := ["internal/strconv.uint64pow10", "math/bits.deBruijn32tab", "math/bits.deBruijn64tab"], apart := false, laid := [("math/bits.deBruijn32tab", laid_math_bits_deBruijn32tab), ("math/bits.deBruijn64tab", laid_math_bits_deBruijn64tab), ("internal/strconv.uint64pow10", laid_internal_strconv_uint64pow10)] }
def RespRepliesSaid : Prop := respRepliesRow.holds Tryd.pinned (OpenSpec.ofChange respRepliesSpec)

/-- ITS FALSE NEIGHBOUR: 'it returns false'. Refute it at one input. -/
def respRepliesWrong : ChangeSpec := { name := "respReplies", fn := fun _ => fun
  | [d] => { results := [.lit (.bool false)], args := [d] }
  | _ => none }
def RespRepliesWrongFalsely : Prop := respRepliesRow.holds Tryd.pinned (OpenSpec.ofChange respRepliesWrong)

/-- 'polyphonylaw21.RespParses': WHATEVER THE INPUT: true; the input reads as it did. -/
def respParsesSpec : ChangeSpec := { name := "respParses", fn := fun _ => fun
  | [d1, d2] => { results := [.lit (.bool true)], args := [d1, d2] }
  | _ => none }
def respParsesRow : OpenClaim := { program := "ytkhfplpplmnjiaadoor", sum := "7bacf4540d6db535c2f4d9e3eef526815c922f89629bc3ebfea6516b98707d01", func := "polyphony/polyphonylaw21.RespParses", spec := "respParses", named := ["internal/strconv.uint64pow10", "math/bits.deBruijn32tab", "math/bits.deBruijn64tab"], apart := false, laid := [("math/bits.deBruijn32tab", laid_math_bits_deBruijn32tab), ("math/bits.deBruijn64tab", laid_math_bits_deBruijn64tab), ("internal/strconv.uint64pow10", laid_internal_strconv_uint64pow10)] }
def RespParsesSaid : Prop := respParsesRow.holds Tryd.pinned (OpenSpec.ofChange respParsesSpec)

/-- ITS FALSE NEIGHBOUR: 'it returns false'. Refute it at one input. -/
def respParsesWrong : ChangeSpec := { name := "respParses", fn := fun _ => fun
  | [d1, d2] => { results := [.lit (.bool false)], args := [d1, d2] }
  | _ => none }
def RespParsesWrongFalsely : Prop := respParsesRow.holds Tryd.pinned (OpenSpec.ofChange respParsesWrong)

/-- 'polyphonylaw21.RespPieces': WHATEVER THE INPUT: true; the input reads as it did. -/
def respPiecesSpec : ChangeSpec := { name := "respPieces", fn := fun _ => fun
  | [d1, d2, d3] => { results := [.lit (.bool true)], args := [d1, d2, d3] }
  | _ => none }
def respPiecesRow : OpenClaim := { program := "ytkhfplpplmnjiaadoor", sum := "7bacf4540d6db535c2f4d9e3eef526815c922f89629bc3ebfea6516b98707d01", func := "polyphony/polyphonylaw21.RespPieces", spec := "respPieces", named := ["internal/strconv.uint64pow10", "math/bits.deBruijn32tab", "math/bits.deBruijn64tab"], apart := false, laid := [("math/bits.deBruijn32tab", laid_math_bits_deBruijn32tab), ("math/bits.deBruijn64tab", laid_math_bits_deBruijn64tab), ("internal/strconv.uint64pow10", laid_internal_strconv_uint64pow10)] }
def RespPiecesSaid : Prop := respPiecesRow.holds Tryd.pinned (OpenSpec.ofChange respPiecesSpec)

/-- ITS FALSE NEIGHBOUR: 'it returns false'. Refute it at one input. -/
def respPiecesWrong : ChangeSpec := { name := "respPieces", fn := fun _ => fun
  | [d1, d2, d3] => { results := [.lit (.bool false)], args := [d1, d2, d3] }
  | _ => none }
def RespPiecesWrongFalsely : Prop := respPiecesRow.holds Tryd.pinned (OpenSpec.ofChange respPiecesWrong)

/-- 'polyphonylaw21.RespBack': WHATEVER THE INPUT: true; the input reads as it did. -/
def respBackSpec : ChangeSpec := { name := "respBack", fn := fun _ => fun
  | [d] => { results := [.lit (.bool true)], args := [d] }
  | _ => none }
def respBackRow : OpenClaim := { program := "ytkhfplpplmnjiaadoor", sum := "7bacf4540d6db535c2f4d9e3eef526815c922f89629bc3ebfea6516b98707d01", func := "polyphony/polyphonylaw21.RespBack", spec := "respBack", named := ["internal/strconv.uint64pow10", "math/bits.deBruijn32tab", "math/bits.deBruijn64tab"], apart := false, laid := [("math/bits.deBruijn32tab", laid_math_bits_deBruijn32tab), ("math/bits.deBruijn64tab", laid_math_bits_deBruijn64tab), ("internal/strconv.uint64pow10", laid_internal_strconv_uint64pow10)] }
def RespBackSaid : Prop := respBackRow.holds Tryd.pinned (OpenSpec.ofChange respBackSpec)

/-- ITS FALSE NEIGHBOUR: 'it returns false'. Refute it at one input. -/
def respBackWrong : ChangeSpec := { name := "respBack", fn := fun _ => fun
  | [d] => { results := [.lit (.bool false)], args := [d] }
  | _ => none }
def RespBackWrongFalsely : Prop := respBackRow.holds Tryd.pinned (OpenSpec.ofChange respBackWrong)

/-- 'polyphonylaw21.RespLines': WHATEVER THE INPUT: true; the input reads as it did. -/
def respLinesSpec : ChangeSpec := { name := "respLines", fn := fun _ => fun
  | [d] => { results := [.lit (.bool true)], args := [d] }
  | _ => none }
def respLinesRow : OpenClaim := { program := "ytkhfplpplmnjiaadoor", sum := "7bacf4540d6db535c2f4d9e3eef526815c922f89629bc3ebfea6516b98707d01", func := "polyphony/polyphonylaw21.RespLines", spec := "respLines", named := ["internal/strconv.uint64pow10", "math/bits.deBruijn32tab", "math/bits.deBruijn64tab"], apart := false, laid := [("math/bits.deBruijn32tab", laid_math_bits_deBruijn32tab), ("math/bits.deBruijn64tab", laid_math_bits_deBruijn64tab), ("internal/strconv.uint64pow10", laid_internal_strconv_uint64pow10)] }
def RespLinesSaid : Prop := respLinesRow.holds Tryd.pinned (OpenSpec.ofChange respLinesSpec)

/-- ITS FALSE NEIGHBOUR: 'it returns false'. Refute it at one input. -/
def respLinesWrong : ChangeSpec := { name := "respLines", fn := fun _ => fun
  | [d] => { results := [.lit (.bool false)], args := [d] }
  | _ => none }
def RespLinesWrongFalsely : Prop := respLinesRow.holds Tryd.pinned (OpenSpec.ofChange respLinesWrong)

/-- 'polyphonylaw21.RespNil': WHATEVER THE INPUT: true; the input reads as it did. -/
def respNilSpec : ChangeSpec := { name := "respNil", fn := fun _ => fun
  | [d] => { results := [.lit (.bool true)], args := [d] }
  | _ => none }
def respNilRow : OpenClaim := { program := "ytkhfplpplmnjiaadoor", sum := "7bacf4540d6db535c2f4d9e3eef526815c922f89629bc3ebfea6516b98707d01", func := "polyphony/polyphonylaw21.RespNil", spec := "respNil", named := ["internal/strconv.uint64pow10", "math/bits.deBruijn32tab", "math/bits.deBruijn64tab"], apart := false, laid := [("math/bits.deBruijn32tab", laid_math_bits_deBruijn32tab), ("math/bits.deBruijn64tab", laid_math_bits_deBruijn64tab), ("internal/strconv.uint64pow10", laid_internal_strconv_uint64pow10)] }
def RespNilSaid : Prop := respNilRow.holds Tryd.pinned (OpenSpec.ofChange respNilSpec)

/-- ITS FALSE NEIGHBOUR: 'it returns false'. Refute it at one input. -/
def respNilWrong : ChangeSpec := { name := "respNil", fn := fun _ => fun
  | [d] => { results := [.lit (.bool false)], args := [d] }
  | _ => none }
def RespNilWrongFalsely : Prop := respNilRow.holds Tryd.pinned (OpenSpec.ofChange respNilWrong)

/- THE SECOND FORM. 'bulk': how many values and letters a reading holds, each counted each time it is reached (what is shared counts as often as it is met; a slice's spare places count too). A statement '..UptoSaid' is the law's where the arguments, and the package variables that the reading takes, are together of bulk at most 1048576: NARROWER than '..Said'. Prove '..Said' where nothing that the law and all that it calls make is longer than what came in: it says more and counts as full. Else prove '..UptoSaid'. A law counts once. -/
mutual
def uptoBulk {H : Type} : DataW H → Nat
  | .lit (.string bytes) => bytes.length + 1
  | .lit _ => 1
  | .nil => 1
  | .ptr d => uptoBulk d + 1
  | .slice elems spare => uptoBulkAll elems + uptoBulkAll spare + 1
  | .agg parts => uptoBulkAll parts + 1
  | .iface _ d => uptoBulk d + 1
  | .map entries => uptoBulkEntries entries + 1
  | .held _ => 1
def uptoBulkAll {H : Type} : List (DataW H) → Nat
  | [] => 0
  | d :: r => uptoBulk d + uptoBulkAll r
def uptoBulkEntries {H : Type} : List (Lit × DataW H) → Nat
  | [] => 0
  | x :: r => uptoBulkEntry x + uptoBulkEntries r
def uptoBulkEntry {H : Type} : Lit × DataW H → Nat
  | (.string bytes, d) => bytes.length + uptoBulk d + 1
  | (_, d) => uptoBulk d + 1
 end
def uptoSmall : (H : Type) → List (DataW H) → Bool := fun _ ds => decide (uptoBulkAll ds ≤ 1048576)
def OpenSpec.upto (s : _root_.Go.ChangeSpec) : _root_.Go.OpenSpec := { _root_.Go.OpenSpec.ofChange s with cond := some uptoSmall }

/-- 'polyphonylaw21.RespReplies', WHERE WHAT IT READS IS OF BULK AT MOST 1048576: true; the input reads as it did. -/
def respRepliesUptoRow : OpenClaim := { program := "ytkhfplpplmnjiaadoor", sum := "7bacf4540d6db535c2f4d9e3eef526815c922f89629bc3ebfea6516b98707d01", func := "polyphony/polyphonylaw21.RespReplies", spec := "respReplies", recurses := true, named := ["internal/strconv.uint64pow10", "math/bits.deBruijn32tab", "math/bits.deBruijn64tab"], apart := false, laid := [("math/bits.deBruijn32tab", laid_math_bits_deBruijn32tab), ("math/bits.deBruijn64tab", laid_math_bits_deBruijn64tab), ("internal/strconv.uint64pow10", laid_internal_strconv_uint64pow10)], narrowed := true }
def RespRepliesUptoSaid : Prop := respRepliesUptoRow.holds Tryd.pinned (OpenSpec.upto respRepliesSpec)

/-- 'polyphonylaw21.RespParses', WHERE WHAT IT READS IS OF BULK AT MOST 1048576: true; the input reads as it did. -/
def respParsesUptoRow : OpenClaim := { program := "ytkhfplpplmnjiaadoor", sum := "7bacf4540d6db535c2f4d9e3eef526815c922f89629bc3ebfea6516b98707d01", func := "polyphony/polyphonylaw21.RespParses", spec := "respParses", named := ["internal/strconv.uint64pow10", "math/bits.deBruijn32tab", "math/bits.deBruijn64tab"], apart := false, laid := [("math/bits.deBruijn32tab", laid_math_bits_deBruijn32tab), ("math/bits.deBruijn64tab", laid_math_bits_deBruijn64tab), ("internal/strconv.uint64pow10", laid_internal_strconv_uint64pow10)], narrowed := true }
def RespParsesUptoSaid : Prop := respParsesUptoRow.holds Tryd.pinned (OpenSpec.upto respParsesSpec)

/-- 'polyphonylaw21.RespPieces', WHERE WHAT IT READS IS OF BULK AT MOST 1048576: true; the input reads as it did. -/
def respPiecesUptoRow : OpenClaim := { program := "ytkhfplpplmnjiaadoor", sum := "7bacf4540d6db535c2f4d9e3eef526815c922f89629bc3ebfea6516b98707d01", func := "polyphony/polyphonylaw21.RespPieces", spec := "respPieces", named := ["internal/strconv.uint64pow10", "math/bits.deBruijn32tab", "math/bits.deBruijn64tab"], apart := false, laid := [("math/bits.deBruijn32tab", laid_math_bits_deBruijn32tab), ("math/bits.deBruijn64tab", laid_math_bits_deBruijn64tab), ("internal/strconv.uint64pow10", laid_internal_strconv_uint64pow10)], narrowed := true }
def RespPiecesUptoSaid : Prop := respPiecesUptoRow.holds Tryd.pinned (OpenSpec.upto respPiecesSpec)

/-- 'polyphonylaw21.RespBack', WHERE WHAT IT READS IS OF BULK AT MOST 1048576: true; the input reads as it did. -/
def respBackUptoRow : OpenClaim := { program := "ytkhfplpplmnjiaadoor", sum := "7bacf4540d6db535c2f4d9e3eef526815c922f89629bc3ebfea6516b98707d01", func := "polyphony/polyphonylaw21.RespBack", spec := "respBack", named := ["internal/strconv.uint64pow10", "math/bits.deBruijn32tab", "math/bits.deBruijn64tab"], apart := false, laid := [("math/bits.deBruijn32tab", laid_math_bits_deBruijn32tab), ("math/bits.deBruijn64tab", laid_math_bits_deBruijn64tab), ("internal/strconv.uint64pow10", laid_internal_strconv_uint64pow10)], narrowed := true }
def RespBackUptoSaid : Prop := respBackUptoRow.holds Tryd.pinned (OpenSpec.upto respBackSpec)

/-- 'polyphonylaw21.RespLines', WHERE WHAT IT READS IS OF BULK AT MOST 1048576: true; the input reads as it did. -/
def respLinesUptoRow : OpenClaim := { program := "ytkhfplpplmnjiaadoor", sum := "7bacf4540d6db535c2f4d9e3eef526815c922f89629bc3ebfea6516b98707d01", func := "polyphony/polyphonylaw21.RespLines", spec := "respLines", named := ["internal/strconv.uint64pow10", "math/bits.deBruijn32tab", "math/bits.deBruijn64tab"], apart := false, laid := [("math/bits.deBruijn32tab", laid_math_bits_deBruijn32tab), ("math/bits.deBruijn64tab", laid_math_bits_deBruijn64tab), ("internal/strconv.uint64pow10", laid_internal_strconv_uint64pow10)], narrowed := true }
def RespLinesUptoSaid : Prop := respLinesUptoRow.holds Tryd.pinned (OpenSpec.upto respLinesSpec)

/-- 'polyphonylaw21.RespNil', WHERE WHAT IT READS IS OF BULK AT MOST 1048576: true; the input reads as it did. -/
def respNilUptoRow : OpenClaim := { program := "ytkhfplpplmnjiaadoor", sum := "7bacf4540d6db535c2f4d9e3eef526815c922f89629bc3ebfea6516b98707d01", func := "polyphony/polyphonylaw21.RespNil", spec := "respNil", named := ["internal/strconv.uint64pow10", "math/bits.deBruijn32tab", "math/bits.deBruijn64tab"], apart := false, laid := [("math/bits.deBruijn32tab", laid_math_bits_deBruijn32tab), ("math/bits.deBruijn64tab", laid_math_bits_deBruijn64tab), ("internal/strconv.uint64pow10", laid_internal_strconv_uint64pow10)], narrowed := true }
def RespNilUptoSaid : Prop := respNilUptoRow.holds Tryd.pinned (OpenSpec.upto respNilSpec)

end Rows
end Go.Proofs.YtkhfplpplmnjiaaDoor
