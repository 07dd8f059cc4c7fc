/-
  What the condition on the listed variables gives the walks of worth: frac.ofTen, the powers of ten, the letters.
-/
import Derived.Test.YtndinbefljajcaaGreatDoorRows
import Derived.Test.YtndinbefljajcaaGreatDoorV7
import Derived.Test.YtndinbefljajcaaGreatDoorE1
import Derived.Test.YtndinbefljajcaaGreatDoorE2
import Derived.Lib.LaidTab
import Derived.MakeChecks
namespace Go.Proofs.YtndinbefljajcaaGreatDoor.Worth
open Go.RowKit
set_option linter.unusedVariables false
set_option linter.unusedSimpArgs false

theorem env_of_laid {W : World} (h : laidMetH Tryz.prog [("math/bits.deBruijn32tab", Rows.laid_math_bits_deBruijn32tab), ("math/bits.deBruijn64tab", Rows.laid_math_bits_deBruijn64tab), ("internal/strconv.uint64pow10", Rows.laid_internal_strconv_uint64pow10), ("drachm/dims.letters", Rows.laid_drachm_dims_letters), ("drachm/frac.ofTen", Rows.laid_drachm_frac_ofTen)] W) : EnvW W := by
  rw [MakeChecks.laidMetH_plain _ _ _ (by kernel_rfl)] at h
  have h3 := h.tail.tail
  have h4 := h3.tail
  have h5 := h4.tail
  refine ⟨?_, ?_, Dims.letters_of_head h4⟩
  · exact Frac.of_tab (Lib.tabIs_of_head (k := .i64) (zs := [2, 5]) Frac.ten_global Frac.ten_type Tryz.underlying32 Tryz.underlying2 Frac.int64_cells Frac.ten_cells h5)
  · exact Lib.tabIs_of_head (k := .u64) (zs := Lib.pow10Tab) Dims.pow_global' Dims.pow_type Tryz.underlying137 Tryz.underlying124 (by kernel_rfl) (by kernel_rfl) h3

end Go.Proofs.YtndinbefljajcaaGreatDoor.Worth
