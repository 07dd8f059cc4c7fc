/-
  What the condition on the listed variables gives the walks of frac's texts: frac.ofTen, the powers of ten, the two errors.
-/
import Derived.Test.YtjklbnakgkffnaaDoorRows
import Derived.Test.YtjklbnakgkffnaaDoorT3
import Derived.Test.YtjklbnakgkffnaaDoorE1
import Derived.Lib.LaidTab
import Derived.MakeChecks
import Derived.Stop.LaidErr
namespace Go.Proofs.YtjklbnakgkffnaaDoor.Texts
open Go.RowKit
open Go.Proofs.YtjklbnakgkffnaaDoor.Frac
set_option linter.unusedVariables false
set_option linter.unusedSimpArgs false

theorem syntax_global : Tryd.prog.globalNamed "strconv.ErrSyntax" = some 3 := by kernel_rfl
theorem range_global : Tryd.prog.globalNamed "strconv.ErrRange" = some 4 := by kernel_rfl
theorem pow_global : Tryd.prog.globalNamed "internal/strconv.uint64pow10" = some 5 := by kernel_rfl
theorem syntax_type : (Tryd.prog.globals[3]?).map (·.type) = some 66 := by kernel_rfl
theorem range_type : (Tryd.prog.globals[4]?).map (·.type) = some 66 := by kernel_rfl
theorem pow_type : (Tryd.prog.globals[5]?).map (·.type) = some 162 := by kernel_rfl
theorem star_error : "*" ++ "errors.errorString" = "*errors.errorString" := by decide

theorem err_of {W : World} {n : String} {g : Nat} {v : Value} (hg : Tryd.prog.globalNamed n = some g) (hv : W.var? Tryd.prog n = some #[v]) (h : v = .nilIface ∨ ∃ te pe, v = .iface te pe) : ErrAt W g := by
  have hc : W.cell? ⟨g, 0, none⟩ = some v := World.var?_cell hg hv 0
  exact ⟨World.block_lt_of_cell? _ _ hc, v, hc, h⟩

theorem env_of_laid {W : World} (h : laidMetH Tryd.prog [("math/bits.deBruijn32tab", Rows.laid_math_bits_deBruijn32tab), ("math/bits.deBruijn64tab", Rows.laid_math_bits_deBruijn64tab), ("internal/strconv.uint64pow10", Rows.laid_internal_strconv_uint64pow10), ("strconv.ErrRange", Rows.laid_strconv_ErrRange), ("strconv.ErrSyntax", Rows.laid_strconv_ErrSyntax), ("drachm/frac.ofTen", Rows.laid_drachm_frac_ofTen)] W) : Env W := by
  rw [MakeChecks.laidMetH_plain _ _ _ (by kernel_rfl)] at h
  have h3 := h.tail.tail
  have h5 := h3.tail
  have h6 := h5.tail
  have h7 := h6.tail
  have hrow : ∀ u, Tryd.prog.typeName? 3 u = some "*errors.errorString" → u = 170 := fun u h =>
    typeName_ptr_named (nm := "errors.errorString") (by rw [star_error]; kernel_rfl) (by kernel_rfl) (by decide) u (by rw [star_error]; exact h)
  obtain ⟨a1, s1, hv1, _⟩ := laid_sentinel h5 range_global range_type Tryd.underlying66 hrow Tryd.underlying170 Tryd.underlying172 rfl rfl Tryd.underlying9 (by kernel_rfl) (by kernel_rfl)
  obtain ⟨a2, s2, hv2, _⟩ := laid_sentinel h6 syntax_global syntax_type Tryd.underlying66 hrow Tryd.underlying170 Tryd.underlying172 rfl rfl Tryd.underlying9 (by kernel_rfl) (by kernel_rfl)
  refine ⟨?_, ?_, err_of syntax_global hv2 (.inr ⟨_, _, rfl⟩), err_of range_global hv1 (.inr ⟨_, _, rfl⟩)⟩
  · exact of_tab (Lib.tabIs_of_head (k := .i64) (zs := [2, 5]) ten_global ten_type Tryd.underlying118 Tryd.underlying2 int64_cells ten_cells h7)
  · exact Lib.tabIs_of_head (k := .u64) (zs := Lib.pow10Tab) pow_global pow_type Tryd.underlying162 Tryd.underlying125 (by kernel_rfl) (by kernel_rfl) h3

end Go.Proofs.YtjklbnakgkffnaaDoor.Texts
