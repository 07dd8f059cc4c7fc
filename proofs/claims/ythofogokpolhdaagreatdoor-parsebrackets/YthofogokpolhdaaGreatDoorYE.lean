/-
  What the condition on the listed variable gives the walks: style.styles holds the styles.
-/
import Derived.Test.YthofogokpolhdaaGreatDoorRows
import Derived.Test.YthofogokpolhdaaGreatDoorYA
import Derived.Lib.LaidTab
import Derived.OpenShut
import Derived.MakeChecks
namespace Go.Proofs.YthofogokpolhdaaGreatDoor.Style
open Go.RowKit
set_option linter.unusedVariables false
set_option linter.unusedSimpArgs false

theorem styles_global : Tryz.prog.globalNamed "drachm/style.styles" = some 0 := by kernel_rfl
theorem styles_type : (Tryz.prog.globals[0]?).map (·.type) = some 140 := by kernel_rfl
theorem style_cells : Tryz.prog.cellsOf 43 = 6 := by kernel_rfl
theorem bool_cells : Tryz.prog.cellsOf 4 = 1 := by kernel_rfl
theorem u8_cells : Tryz.prog.cellsOf 5 = 1 := by kernel_rfl

theorem one_cell {ds : List Value} {i : Nat} {v : Value} (h : (ds.drop i).take 1 = [v]) : ds[i]? = some v := by
  have := congrArg (·[0]?) h
  simpa [List.getElem?_take, List.getElem?_drop] using this

/-- A style that reads so. -/
theorem style_of {W : World} {base : Nat} {sp : Nat → Bool} {held : Bool} {H : Type} {enc : TypeId × Value → H} {fuel : Nat} {ds : List Value} {p : List MemPlace} (s : St)
    (h : DataW.trod enc Tryz.prog W base sp held fuel 43 ds = some (.agg [.lit (.bool s.fold), .lit (.int .u8 s.mul), .lit (.int .u8 s.div), .lit (.int .u8 s.pow), .lit (.int .u8 s.op), .lit (.int .u8 s.cl)], p)) :
    ds[0]? = some (.bool s.fold) ∧ ds[1]? = some (.int .u8 s.mul) ∧ ds[2]? = some (.int .u8 s.div) ∧ ds[3]? = some (.int .u8 s.pow) ∧ ds[4]? = some (.int .u8 s.op) ∧ ds[5]? = some (.int .u8 s.cl) := by
  obtain ⟨xs, n, rfl, hx, hl, hsz, hall⟩ := DataW.trod_struct Tryz.underlying43 h
  have hxs := (congrArg Prod.fst hx).symm
  simp only [DataW.agg.injEq] at hxs
  have hat : ∀ (i : Nat) d, (xs.map (·.1))[i]? = some d → ∃ q, xs[i]? = some (d, q) := by
    intro i d hd
    rw [List.getElem?_map, Option.map_eq_some_iff] at hd
    obtain ⟨⟨d', q⟩, e1, e2⟩ := hd
    exact ⟨q, by rw [e1]; simp only at e2; rw [e2]⟩
  rw [hxs] at hat
  have f0 := hall 0 _ rfl
  have f1 := hall 1 _ rfl
  have f2 := hall 2 _ rfl
  have f3 := hall 3 _ rfl
  have f4 := hall 4 _ rfl
  have f5 := hall 5 _ rfl
  obtain ⟨q0, g0⟩ := hat 0 _ rfl
  obtain ⟨q1, g1⟩ := hat 1 _ rfl
  obtain ⟨q2, g2⟩ := hat 2 _ rfl
  obtain ⟨q3, g3⟩ := hat 3 _ rfl
  obtain ⟨q4, g4⟩ := hat 4 _ rfl
  obtain ⟨q5, g5⟩ := hat 5 _ rfl
  rw [g0] at f0
  rw [g1] at f1
  rw [g2] at f2
  rw [g3] at f3
  rw [g4] at f4
  rw [g5] at f5
  obtain ⟨b0, k0, e0⟩ := DataW.trod_bool Tryz.underlying4 f0
  obtain ⟨b1, k1, e1, _⟩ := DataW.trod_int Tryz.underlying5 f1
  obtain ⟨b2, k2, e2, _⟩ := DataW.trod_int Tryz.underlying5 f2
  obtain ⟨b3, k3, e3, _⟩ := DataW.trod_int Tryz.underlying5 f3
  obtain ⟨b4, k4, e4, _⟩ := DataW.trod_int Tryz.underlying5 f4
  obtain ⟨b5, k5, e5, _⟩ := DataW.trod_int Tryz.underlying5 f5
  simp only [Prod.mk.injEq, DataW.lit.injEq, Lit.bool.injEq, Lit.int.injEq, true_and] at e0 e1 e2 e3 e4 e5
  replace k0 : (ds.drop 0).take (Tryz.prog.cellsOf 4) = [.bool b0] := k0
  rw [← e0.1, bool_cells] at k0
  replace k1 : (ds.drop 1).take (Tryz.prog.cellsOf 5) = [.int .u8 b1] := k1
  rw [← e1.1, u8_cells] at k1
  replace k2 : (ds.drop 2).take (Tryz.prog.cellsOf 5) = [.int .u8 b2] := k2
  rw [← e2.1, u8_cells] at k2
  replace k3 : (ds.drop 3).take (Tryz.prog.cellsOf 5) = [.int .u8 b3] := k3
  rw [← e3.1, u8_cells] at k3
  replace k4 : (ds.drop 4).take (Tryz.prog.cellsOf 5) = [.int .u8 b4] := k4
  rw [← e4.1, u8_cells] at k4
  replace k5 : (ds.drop 5).take (Tryz.prog.cellsOf 5) = [.int .u8 b5] := k5
  rw [← e5.1, u8_cells] at k5
  exact ⟨one_cell k0, one_cell k1, one_cell k2, one_cell k3, one_cell k4, one_cell k5⟩

theorem row_at {cs : List Value} {o j : Nat} {v : Value} (hj : j < 6) (h : ((cs.drop o).take 6)[j]? = some v) : cs[o + j]? = some v := by
  rw [List.getElem?_take, if_pos hj, List.getElem?_drop] at h
  exact h

theorem styles_of_laid {W : World} (h : laidMetH Tryz.prog [("drachm/style.styles", Rows.laid_drachm_style_styles)] W) : Styles W := by
  rw [MakeChecks.laidMetH_plain _ _ _ (by kernel_rfl)] at h
  obtain ⟨ps, ⟨g', t', cs, fuel, p, q, hg', ht', hvar, hd, _, _⟩, _⟩ := h
  obtain rfl := Option.some.inj (styles_global.symm.trans hg')
  obtain rfl := Option.some.inj (styles_type.symm.trans ht')
  obtain ⟨xs, m, rfl, hx, hl, hsz, hall⟩ := DataW.trod_array Tryz.underlying140 hd
  have hxs := (congrArg Prod.fst hx).symm
  simp only [Rows.laid_drachm_style_styles, DataW.agg.injEq] at hxs
  have hat : ∀ (i : Nat) d, (xs.map (·.1))[i]? = some d → ∃ q, xs[i]? = some (d, q) := by
    intro i d hd
    rw [List.getElem?_map, Option.map_eq_some_iff] at hd
    obtain ⟨⟨d', q⟩, e1, e2⟩ := hd
    exact ⟨q, by rw [e1]; simp only at e2; rw [e2]⟩
  rw [hxs] at hat
  have hcell : ∀ (i : Nat) v, cs.toList[i]? = some v → W.cell? ⟨0, i, none⟩ = some v := by
    intro i v hv
    have := World.var?_cell styles_global hvar i
    rw [this, ← Array.getElem?_toList]
    exact hv
  have row : ∀ (i : Nat) (s : St), i < 5 → [stZ 1, stZ 2, stZ 3, stZ 4, stZ 5][i]? = some s → Lies W 0 (i * 6) s := by
    intro i s hi hs
    have f := hall i hi
    rw [style_cells] at f
    have : ∃ q, xs[i]? = some (.agg [.lit (.bool s.fold), .lit (.int .u8 s.mul), .lit (.int .u8 s.div), .lit (.int .u8 s.pow), .lit (.int .u8 s.op), .lit (.int .u8 s.cl)], q) := by
      match i, hi with
      | 0, _ => obtain rfl : stZ 1 = s := Option.some.inj hs; exact hat 0 _ rfl
      | 1, _ => obtain rfl : stZ 2 = s := Option.some.inj hs; exact hat 1 _ rfl
      | 2, _ => obtain rfl : stZ 3 = s := Option.some.inj hs; exact hat 2 _ rfl
      | 3, _ => obtain rfl : stZ 4 = s := Option.some.inj hs; exact hat 3 _ rfl
      | 4, _ => obtain rfl : stZ 5 = s := Option.some.inj hs; exact hat 4 _ rfl
    obtain ⟨q', hq⟩ := this
    rw [hq] at f
    obtain ⟨k0, k1, k2, k3, k4, k5⟩ := style_of s f
    refine ⟨?_, ?_, ?_, ?_, ?_, ?_⟩
    · exact hcell _ _ (row_at (j := 0) (by omega) k0)
    · exact hcell _ _ (row_at (j := 1) (by omega) k1)
    · exact hcell _ _ (row_at (j := 2) (by omega) k2)
    · exact hcell _ _ (row_at (j := 3) (by omega) k3)
    · exact hcell _ _ (row_at (j := 4) (by omega) k4)
    · exact hcell _ _ (row_at (j := 5) (by omega) k5)
  have r0 := row 0 _ (by omega) rfl
  have r1 := row 1 _ (by omega) rfl
  have r2 := row 2 _ (by omega) rfl
  have r3 := row 3 _ (by omega) rfl
  have r4 := row 4 _ (by omega) rfl
  exact ⟨⟨r0, r1, r2, r3, r4⟩, World.block_lt_of_cell? _ _ r0.1⟩

end Go.Proofs.YthofogokpolhdaaGreatDoor.Style
