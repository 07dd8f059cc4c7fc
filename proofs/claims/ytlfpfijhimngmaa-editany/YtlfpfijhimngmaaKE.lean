/-
  A slice of integers that comes in: what it reads as.
-/
import Derived.Test.YtlfpfijhimngmaaEH
import Derived.Test.YtlfpfijhimngmaaK1
import Derived.ChangeSlices
import Derived.WalkKit
import Derived.ProofKit
import Derived.OpenShut
namespace Go.Proofs.Ytlfpfijhimngmaa.Frame
open Go.ChangeShapes Go.WideShapes Go.RowKit
set_option linter.unusedVariables false

theorem open_iv {H : Type} {enc : TypeId × Value → H} {w : World} {t e : TypeId} {v : Value} {d : DataW H} {ps : List MemPlace} (ht : Try.prog.underlying t = some (.slice e)) (he : Try.prog.underlying e = some (.int .i64)) (hc : Try.prog.cellsOf e = 1)
    (hv : ∃ a n c, v = .slice a n c) (h : DataW.Trod enc Try.prog w 0 (fun _ => true) true t v d ps) : ∃ l : List Int, Edits.IV w v l ∧ l.length ≤ 9223372036854775807 := by
  obtain ⟨a0, n0, c0, rfl⟩ := hv
  obtain ⟨fuel, hf⟩ := h
  rcases open_ints ht he hc hf with ⟨hcs, _⟩ | ⟨a, len, cap, zs, hcs, _, hl, hm, hz, _, hcell, hwz⟩
  · simp [Value.cells] at hcs
    obtain ⟨rfl, rfl, rfl⟩ := hcs
    exact ⟨[], ⟨_, _, rfl, Nat.le_refl _, fun i hi => absurd hi (by simp)⟩, by simp⟩
  · simp [Value.cells] at hcs
    obtain ⟨rfl, rfl, rfl⟩ := hcs
    simp only [if_true] at hz
    have hlen : (zs.take n0).length = n0 := by rw [List.length_take]; omega
    have hmax : maxLen = 9223372036854775807 := by decide
    refine ⟨zs.take n0, ⟨_, c0, by rw [hlen], by omega, fun i hi => ?_⟩, by omega⟩
    rw [hlen] at hi
    have hgd : (zs.take n0).getD i 0 = zs.getD i 0 := by rw [List.getD_eq_getElem?_getD, List.getD_eq_getElem?_getD, List.getElem?_take_of_lt hi]
    have h1 := hcell i (by omega)
    obtain ⟨b, off, spot⟩ := a
    have hs : spot = none := by
      simpa [Addr.add] using World.cell?_spot (hcell 0 (by omega))
    subst hs
    rw [Addr.add_mid] at h1
    rw [hgd]
    refine ⟨b, off, rfl, h1, ?_⟩
    have := range_i64 hwz i
    simpa [List.getD_eq_getElem?_getD] using this

end Go.Proofs.Ytlfpfijhimngmaa.Frame
