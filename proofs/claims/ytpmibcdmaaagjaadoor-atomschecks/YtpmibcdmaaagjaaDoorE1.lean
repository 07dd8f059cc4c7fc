/-
  What the condition on the listed variable gives the walks: frac.ofTen holds 2 and 5.
-/
import Derived.Test.YtpmibcdmaaagjaaDoorRows
import Derived.Test.YtpmibcdmaaagjaaDoorFA
import Derived.Lib.LaidTab
import Derived.MakeChecks
namespace Go.Proofs.YtpmibcdmaaagjaaDoor.Frac
open Go.RowKit
set_option linter.unusedVariables false
set_option linter.unusedSimpArgs false

theorem ten_global : Tryd.prog.globalNamed "drachm/frac.ofTen" = some 0 := by kernel_rfl
theorem ten_type : (Tryd.prog.globals[0]?).map (·.type) = some 108 := by kernel_rfl
theorem ten_cells : Tryd.prog.cellsOf 108 = 2 := by kernel_rfl
theorem int64_cells : Tryd.prog.cellsOf 2 = 1 := by kernel_rfl

theorem of_tab {W : World} (h : Lib.TabIs Tryd.prog W "drachm/frac.ofTen" .i64 [2, 5]) : OfTen W := by
  have c0 := h.cell ten_global 0 (by decide)
  have c1 := h.cell ten_global 1 (by decide)
  exact ⟨c0, c1, World.block_lt_of_cell? _ _ c0⟩

theorem ten_of_laid {W : World} (h : laidMetH Tryd.prog [("drachm/frac.ofTen", Rows.laid_drachm_frac_ofTen)] W) : OfTen W := by
  rw [MakeChecks.laidMetH_plain _ _ _ (by kernel_rfl)] at h
  exact of_tab (Lib.tabIs_of_head (k := .i64) (zs := [2, 5]) ten_global ten_type Tryd.underlying108 Tryd.underlying2 int64_cells ten_cells h)

end Go.Proofs.YtpmibcdmaaagjaaDoor.Frac
