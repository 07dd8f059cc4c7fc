/-
  What the condition on the listed variables gives the walks of tokens: the styles, the error of numbers that are too great.
-/
import Derived.Test.YthofogokpolhdaaGreatDoorYE
import Derived.Test.YthofogokpolhdaaGreatDoorX1X
import Derived.MakeChecks
import Derived.Stop.LaidErr
namespace Go.Proofs.YthofogokpolhdaaGreatDoor.Toks
open Go.RowKit
open Go.Proofs.YthofogokpolhdaaGreatDoor.Style
set_option linter.unusedVariables false
set_option linter.unusedSimpArgs false

theorem styles_head {W : World} (h : laidMetH Tryz.prog [("drachm/style.styles", Rows.laid_drachm_style_styles), ("math/bits.deBruijn32tab", Rows.laid_math_bits_deBruijn32tab), ("math/bits.deBruijn64tab", Rows.laid_math_bits_deBruijn64tab), ("internal/strconv.uint64pow10", Rows.laid_internal_strconv_uint64pow10), ("strconv.ErrRange", Rows.laid_strconv_ErrRange), ("strconv.ErrSyntax", Rows.laid_strconv_ErrSyntax)] W) : Styles W := by
  rw [MakeChecks.laidMetH_plain _ _ _ (by kernel_rfl)] at h
  obtain ⟨ps, ⟨g', t', cs, fuel, p, q, hg', ht', hvar, hd, _, _⟩, _⟩ := h
  obtain rfl := Option.some.inj (styles_global.symm.trans hg')
  obtain rfl := Option.some.inj (styles_type.symm.trans ht')
  obtain ⟨xs, m, rfl, hx, hl, hsz, hall⟩ := DataW.trod_array Tryz.underlying140 hd
  have hxs := (congrArg Prod.fst hx).symm
  simp only [Rows.laid_drachm_style_styles, DataW.agg.injEq] at hxs
  have hat : ∀ (i : Nat) d, (xs.map (·.1))[i]? = some d → ∃ q, xs[i]? = some (d, q) := by
    intro i d hd
    rw [List.getElem?_map, Option.map_eq_some_iff] at hd
    obtain ⟨⟨d', q⟩, e1, e2⟩ := hd
    exact ⟨q, by rw [e1]; simp only at e2; rw [e2]⟩
  rw [hxs] at hat
  have hcell : ∀ (i : Nat) v, cs.toList[i]? = some v → W.cell? ⟨0, i, none⟩ = some v := by
    intro i v hv
    have := World.var?_cell styles_global hvar i
    rw [this, ← Array.getElem?_toList]
    exact hv
  have row : ∀ (i : Nat) (s : St), i < 5 → [stZ 1, stZ 2, stZ 3, stZ 4, stZ 5][i]? = some s → Lies W 0 (i * 6) s := by
    intro i s hi hs
    have f := hall i hi
    rw [style_cells] at f
    have : ∃ q, xs[i]? = some (.agg [.lit (.bool s.fold), .lit (.int .u8 s.mul), .lit (.int .u8 s.div), .lit (.int .u8 s.pow), .lit (.int .u8 s.op), .lit (.int .u8 s.cl)], q) := by
      match i, hi with
      | 0, _ => obtain rfl : stZ 1 = s := Option.some.inj hs; exact hat 0 _ rfl
      | 1, _ => obtain rfl : stZ 2 = s := Option.some.inj hs; exact hat 1 _ rfl
      | 2, _ => obtain rfl : stZ 3 = s := Option.some.inj hs; exact hat 2 _ rfl
      | 3, _ => obtain rfl : stZ 4 = s := Option.some.inj hs; exact hat 3 _ rfl
      | 4, _ => obtain rfl : stZ 5 = s := Option.some.inj hs; exact hat 4 _ rfl
    obtain ⟨q', hq⟩ := this
    rw [hq] at f
    obtain ⟨k0, k1, k2, k3, k4, k5⟩ := style_of s f
    refine ⟨?_, ?_, ?_, ?_, ?_, ?_⟩
    · exact hcell _ _ (row_at (j := 0) (by omega) k0)
    · exact hcell _ _ (row_at (j := 1) (by omega) k1)
    · exact hcell _ _ (row_at (j := 2) (by omega) k2)
    · exact hcell _ _ (row_at (j := 3) (by omega) k3)
    · exact hcell _ _ (row_at (j := 4) (by omega) k4)
    · exact hcell _ _ (row_at (j := 5) (by omega) k5)
  have r0 := row 0 _ (by omega) rfl
  have r1 := row 1 _ (by omega) rfl
  have r2 := row 2 _ (by omega) rfl
  have r3 := row 3 _ (by omega) rfl
  have r4 := row 4 _ (by omega) rfl
  exact ⟨⟨r0, r1, r2, r3, r4⟩, World.block_lt_of_cell? _ _ r0.1⟩

theorem range_global : Tryz.prog.globalNamed "strconv.ErrRange" = some 2 := by kernel_rfl
theorem range_type : (Tryz.prog.globals[2]?).map (·.type) = some 176 := by kernel_rfl
theorem star_error : "*" ++ "errors.errorString" = "*errors.errorString" := by decide
theorem err_of {W : World} {n : String} {g : Nat} {v : Value} (hg : Tryz.prog.globalNamed n = some g) (hv : W.var? Tryz.prog n = some #[v]) (h : v = .nilIface ∨ ∃ te pe, v = .iface te pe) : ErrAt W g := by
  have hc : W.cell? ⟨g, 0, none⟩ = some v := World.var?_cell hg hv 0
  exact ⟨World.block_lt_of_cell? _ _ hc, v, hc, h⟩
theorem env_of_laid {W : World} (h : laidMetH Tryz.prog [("drachm/style.styles", Rows.laid_drachm_style_styles), ("math/bits.deBruijn32tab", Rows.laid_math_bits_deBruijn32tab), ("math/bits.deBruijn64tab", Rows.laid_math_bits_deBruijn64tab), ("internal/strconv.uint64pow10", Rows.laid_internal_strconv_uint64pow10), ("strconv.ErrRange", Rows.laid_strconv_ErrRange), ("strconv.ErrSyntax", Rows.laid_strconv_ErrSyntax)] W) : Env W := by
  have hS := styles_head h
  rw [MakeChecks.laidMetH_plain _ _ _ (by kernel_rfl)] at h
  have h5 := h.tail.tail.tail.tail
  have hrow : ∀ u, Tryz.prog.typeName? 3 u = some "*errors.errorString" → u = 209 := fun u h =>
    typeName_ptr_named (nm := "errors.errorString") (by rw [star_error]; kernel_rfl) (by kernel_rfl) (by decide) u (by rw [star_error]; exact h)
  obtain ⟨a1, s1, hv1, _⟩ := laid_sentinel h5 range_global range_type Tryz.underlying176 hrow Tryz.underlying209 Tryz.underlying211 rfl rfl Tryz.underlying9 (by kernel_rfl) (by kernel_rfl)
  exact ⟨hS, err_of range_global hv1 (.inr ⟨_, _, rfl⟩)⟩

end Go.Proofs.YthofogokpolhdaaGreatDoor.Toks
