/-
  What the condition on the listed variables gives the walks of dims: the letters, the powers of ten, the two errors.
-/
import Derived.Test.YtndinbefljajcaaGreatDoorRows
import Derived.Test.YtndinbefljajcaaGreatDoorD5
import Derived.Lib.LaidTab
import Derived.MakeChecks
import Derived.Stop.LaidErr
namespace Go.Proofs.YtndinbefljajcaaGreatDoor.Dims
open Go.RowKit
set_option linter.unusedVariables false
set_option linter.unusedSimpArgs false

/-- An array of strings that reads as a row of texts holds them, cell for cell. -/
theorem cells_of_texts {H : Type} {enc : TypeId × Value → H} {P : Program} {w : World} {base : Nat} {sp : Nat → Bool} {held : Bool} {fuel : Nat} {t e : TypeId} {n : Nat} {cs : List Value} {zs : List (List UInt8)} {p : List MemPlace}
    (ht : P.underlying t = some (.array n e)) (he : P.underlying e = some .string) (hce : P.cellsOf e = 1) (hct : P.cellsOf t = n)
    (h : DataW.trod enc P w base sp held fuel t cs = some (.agg (zs.map fun z => .lit (.string z)), p)) : ∀ (i : Nat) (z : List UInt8), zs[i]? = some z → cs[i]? = some (Value.string ⟨z.toArray⟩) := by
  cases fuel with
  | zero => simp [DataW.trod] at h
  | succ fuel =>
    simp only [DataW.trod, ht, hce, hct, Nat.mul_one] at h
    split at h
    · rename_i hl
      obtain ⟨xs, hm, hx⟩ := Option.map_eq_some_iff.1 h
      have hxs : xs.map (·.1) = zs.map fun z => (DataW.lit (.string z) : DataW H) := by
        have := congrArg Prod.fst hx
        simpa using this
      have hxl : xs.length = n := by simpa using Lib.mapM_length hm
      have hzl : zs.length = n := by
        have := congrArg List.length hxs
        simp at this
        omega
      intro i z hz
      have hi : i < n := by have := (List.getElem?_eq_some_iff.1 hz).1; omega
      obtain ⟨b, hb, hf⟩ := Lib.mapM_at hm i i (by simp [hi])
      obtain ⟨s, hc, rfl, _⟩ := DataW.trod_string he hf
      have h1 : cs[i]? = some (.string s) := by
        have := congrArg (·[0]?) hc
        simpa [List.getElem?_take, List.getElem?_drop] using this
      have h2 : (xs.map (·.1))[i]? = some (DataW.lit (.string s.data.toList) : DataW H) := by simp [hb]
      rw [hxs] at h2
      simp only [List.getElem?_map, hz, Option.map_some, Option.some.injEq, DataW.lit.injEq, Lit.string.injEq] at h2
      rw [h1, h2]
    · cases h

theorem letters_global : Tryz.prog.globalNamed "drachm/dims.letters" = some 0 := by kernel_rfl
theorem letters_type : (Tryz.prog.globals[0]?).map (·.type) = some 103 := by kernel_rfl
theorem pow_global' : Tryz.prog.globalNamed "internal/strconv.uint64pow10" = some 2 := by kernel_rfl
theorem pow_type : (Tryz.prog.globals[2]?).map (·.type) = some 137 := by kernel_rfl

theorem letters_of_head {W : World} {r : List (String × DataW Unit)} (h : laidMet Tryz.prog (("drachm/dims.letters", Rows.laid_drachm_dims_letters) :: r) W) : Letters W := by
  obtain ⟨ps, ⟨g', t', cs, fuel, p, q, hg', ht', hvar, hd, _, _⟩, _⟩ := h
  obtain rfl := Option.some.inj (letters_global.symm.trans hg')
  obtain rfl := Option.some.inj (letters_type.symm.trans ht')
  have hc := cells_of_texts (zs := [[109], [115], [103], [114], [107], [99], [100]]) Tryz.underlying103 Tryz.underlying9 (by kernel_rfl) (by kernel_rfl) hd
  have hk : ∀ i, i < 7 → W.cell? ⟨0, i, none⟩ = some (.string (bs [letter i])) := by
    intro i hi
    have h1 := World.var?_cell letters_global hvar i
    rw [h1]
    have h2 := hc i [letter i] (seven (p := fun i => ([[109], [115], [103], [114], [107], [99], [100]] : List (List UInt8))[i]? = some [letter i]) rfl rfl rfl rfl rfl rfl rfl i hi)
    rw [Array.getElem?_toList] at h2
    exact h2
  exact ⟨hk, World.block_lt_of_cell? _ _ (hk 0 (by omega))⟩

theorem star_error : "*" ++ "errors.errorString" = "*errors.errorString" := by decide

theorem err_of {W : World} {n : String} {g : Nat} {v : Value} (hg : Tryz.prog.globalNamed n = some g) (hv : W.var? Tryz.prog n = some #[v]) (h : v = .nilIface ∨ ∃ te pe, v = .iface te pe) : ErrAt W g := by
  have hc : W.cell? ⟨g, 0, none⟩ = some v := World.var?_cell hg hv 0
  exact ⟨World.block_lt_of_cell? _ _ hc, v, hc, h⟩

end Go.Proofs.YtndinbefljajcaaGreatDoor.Dims
