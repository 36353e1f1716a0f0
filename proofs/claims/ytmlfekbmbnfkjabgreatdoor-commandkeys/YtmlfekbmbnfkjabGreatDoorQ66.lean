/-
  The rows' condition on the library's variables gives what the walks read of them.
-/
import Derived.Test.YtmlfekbmbnfkjabGreatDoorQ33
import Derived.Test.YtmlfekbmbnfkjabGreatDoorRows
import Derived.Lib.LaidTab
import Derived.LaidMore
import Derived.Stop.LaidErr
namespace Go.Proofs.YtmlfekbmbnfkjabGreatDoor
set_option maxRecDepth 100000
open Go.RowKit

theorem err_star : "*" ++ "errors.errorString" = "*errors.errorString" := by decide
theorem err_row (u : TypeId) (h : Tryz.prog.typeName? 3 u = some "*errors.errorString") : u = 265 :=
  typeName_ptr_named (nm := "errors.errorString") (by rw [err_star]; kernel_rfl) (by kernel_rfl) (by decide) u (by rw [err_star]; exact h)
theorem tb_of_laid {W : World} (h : laidMetH Tryz.prog [("math/bits.deBruijn32tab", Rows.laid_math_bits_deBruijn32tab), ("math/bits.deBruijn64tab", Rows.laid_math_bits_deBruijn64tab), ("internal/strconv.uint64pow10", Rows.laid_internal_strconv_uint64pow10), ("strconv.ErrRange", Rows.laid_strconv_ErrRange), ("strconv.ErrSyntax", Rows.laid_strconv_ErrSyntax)] W) : Tb W := by
  rw [MakeChecks.laidMetH_plain _ _ _ (by kernel_rfl)] at h
  have h3 := h.tail.tail
  refine ⟨?_, ?_, ?_⟩
  · obtain ⟨ps, ⟨g2, t2, cs2, f2, p2, q2, hg2, ht2, hv2, hd2, _, _⟩, _, _⟩ := h3
    have hg : Tryz.prog.globalNamed "internal/strconv.uint64pow10" = some 2 := by kernel_rfl
    have hty : (Tryz.prog.globals[2]?).map (·.type) = some 269 := by kernel_rfl
    obtain rfl := Option.some.inj (hg.symm.trans hg2)
    obtain rfl := Option.some.inj (hty.symm.trans ht2)
    unfold Tab Lib.TabIs
    rw [hv2, ← Lib.cells_of_tab (n := 20) (e := 236) (k := .u64) (zs := Lib.pow10Tab) Tryz.underlying269 Tryz.underlying236 (by kernel_rfl) (by kernel_rfl) hd2]
  · obtain ⟨a, s, h1, -⟩ := laid_sentinel (te := 267) (ts := 9) h3.tail.tail (show Tryz.prog.globalNamed "strconv.ErrSyntax" = some 0 by kernel_rfl) (by kernel_rfl) Tryz.underlying114 err_row Tryz.underlying265 Tryz.underlying267 rfl rfl Tryz.underlying9 (by kernel_rfl) (by kernel_rfl)
    exact ⟨_, _, h1⟩
  · obtain ⟨a, s, h1, -⟩ := laid_sentinel (te := 267) (ts := 9) h3.tail (show Tryz.prog.globalNamed "strconv.ErrRange" = some 1 by kernel_rfl) (by kernel_rfl) Tryz.underlying114 err_row Tryz.underlying265 Tryz.underlying267 rfl rfl Tryz.underlying9 (by kernel_rfl) (by kernel_rfl)
    exact ⟨_, _, h1⟩
end Go.Proofs.YtmlfekbmbnfkjabGreatDoor

