/-
  Contract of drachmlaw06.awake.
-/
import Derived.Test.YtpmibcdmaaagjaaH6
namespace Go.Proofs.Ytpmibcdmaaagjaa.Atoms
open Go.RowKit Go.Shelf Go.Proofs.Ytpmibcdmaaagjaa.Ranges
set_option linter.unusedVariables false
set_option linter.unusedSimpArgs false

theorem ex_A : placeI csA 2 [80, 65, 76] = 12 := by decide +kernel
theorem ex_P : placeI csP 4 [80, 69] = 3 := by decide +kernel
theorem ex_C : codeAtI csA 4 13 = [74] := by decide +kernel

attribute [local irreducible] tableRs tablePs csA csP placeI codeAtI

set_option maxRecDepth 100000 in
set_option maxHeartbeats 2000000 in
theorem awake6_yes (w : World) : Calls Try.prog 7 #[] w fun e w' => e = .returned (.bool true) ∧ Below w.heap.size w w' := by
  have hj : ((bs [74]).toList == [74]) = true := by rw [bs_toList]; rfl
  go_enter Try.func7, Try.ntmps7
  go_wp2_with fail
  refine (findA_any 2 [80, 65, 76] w (by omega)).mono ?_
  rintro e w1 ⟨rfl, hb1⟩
  rw [ex_A]
  go_wp2_with fail
  refine (findP_any 4 [80, 69] w1 (by omega)).mono ?_
  rintro e w2 ⟨rfl, hb2⟩
  rw [ex_P]
  go_wp2_with fail
  refine (code_any 4 13 w2 (by omega)).mono ?_
  rintro e w3 ⟨rfl, hb3⟩
  rw [ex_C]
  go_wp2
  go_ret
  exact ⟨rfl, (hb1.trans (hb2.mono hb1.size)).trans (hb3.mono (Nat.le_trans hb1.size hb2.size))⟩

end Go.Proofs.Ytpmibcdmaaagjaa.Atoms
