/-
  The zero thing, 28 cells an item.
-/
import Derived.Test.YthpkpmcccpfabaaYit
import Derived.Test.YthpkpmcccpfabaaOpe
namespace Go.Proofs.Ythpkpmcccpfabaa.E
set_option maxRecDepth 100000
open Go.RowKit

def zx : Cx 26 := ⟨evl zv, by simp [evl, opl, zv, zeros], by
  intro u hu
  simp [evl, opl, zv, zeros] at hu
  rcases hu with rfl | rfl | rfl | rfl <;> rfl⟩
theorem zx_cells : xc (⟨0, 0, zx⟩ : It (Cx 26)) = #[Value.int IntKind.i64 0, Value.int IntKind.i64 0, Value.int IntKind.i64 0, Value.int IntKind.i64 0, Value.int IntKind.i64 0, Value.int IntKind.i64 0, Value.int IntKind.i64 0, Value.int IntKind.i64 0, Value.int IntKind.i64 0, Value.int IntKind.i64 0, Value.int IntKind.i64 0, Value.int IntKind.i64 0, Value.int IntKind.i64 0, Value.int IntKind.i64 0, Value.int IntKind.i64 0, Value.int IntKind.i64 0, Value.int IntKind.i64 0, Value.int IntKind.i64 0, Value.int IntKind.i64 0, Value.int IntKind.i64 0, Value.int IntKind.i64 0, Value.int IntKind.i64 0, Value.string { data := #[] }, Value.string { data := #[] }, Value.string { data := #[] }, Value.int IntKind.i64 0, Value.int IntKind.i64 0, Value.int IntKind.i64 0] := rfl
end Go.Proofs.Ythpkpmcccpfabaa.E
