/-
  The parts of a tree are trees, and with its last step behind them they are it; nothing else has parts: for all numbers of a tree, as it is and spoilt in any way. No condition.
-/
import Derived.Test.YteakgagjacjhiaaRows
import Derived.Test.YteakgagjacjhiaaPW
import Derived.Test.YteakgagjacjhiaaK1
import Derived.WalkKit
import Derived.ProofKit
import Derived.OpenShut
import Derived.ShutString
import Derived.ChangeOld
import Derived.Below
import Derived.Test.YteakgagjacjhiaaKI
import Derived.Carry
namespace Go.Proofs.Yteakgagjacjhiaa.TreeParts
open Go.ChangeShapes Go.WideShapes Go.ChangeAt Go.RowKit
open Go.ChangeMaps (open_string shut_string)
set_option linter.unusedVariables false

theorem own : ownKnob Try.prog.godebug = none := by kernel_rfl
theorem laidOut : laidOutB Try.prog = true := by kernel_rfl

set_option maxRecDepth 100000 in
theorem lifted (os : Os) (started : os.Started) (H : Type) (enc : TypeId × Value → H) :
    ReturnsInHanded {} Try.checked os 4 .any (Rows.treePartsSpec.pre6 enc Try.prog Try.f4 Rows.treePartsRow.domain false) (Rows.treePartsSpec.post enc Try.prog Try.f4 false true false false) := by
  refine returnsInHanded_of_change (C := Try.checked) own started (by kernel_rfl) Try.func4
    (ChangeSpec.witness6 (enc := enc) (C := Try.checked) false ⟨#[], #[.slice none 0 0, .agg #[.int .i64 0, .int .i64 0, .int .i64 0, .string ByteArray.empty]], []⟩ 8 (by kernel_rfl) (by kernel_rfl) (by kernel_rfl) (by kernel_rfl)) ?_
  intro W base args ds gs before hval0 hW hcnd _
  have hval : ∀ (j : Nat) t v, Try.f4.params[j]? = some t → args[j]? = some v → Value.okWide Try.prog W .any base t v := hval0
  have hW' := hW
  obtain ⟨p, q, hA0, hV, rfl, hfz, hnd⟩ := hW
  have hA : DataW.TrodAll enc Try.prog W 0 (fun _ => true) true Try.f4.params.toList args.toList ds p := hA0
  rw [Try.params4] at hA hval
  obtain ⟨v0, vs0, d0, ds0, p0, q0, hargs, rfl, rfl, h0, r0⟩ := trodAll_cons hA
  obtain ⟨v1, vs1, d1, ds1, p1, q1, rfl, rfl, rfl, h1, r1⟩ := trodAll_cons r0
  obtain ⟨rfl, rfl, rfl⟩ := trodAll_nil r1
  obtain rfl : args = #[v0, v1] := by cases args; simp_all
  obtain ⟨rfl, rfl⟩ := trodVars_none hV
  obtain ⟨l0, iv0, lb0⟩ := Frame.open_iv Try.underlying22 Try.underlying3 (by kernel_rfl) (okWide_slice Try.underlying22 (hval 0 22 v0 rfl rfl)) h0
  obtain ⟨c1_0, rfl, al1_0, rfl⟩ := Frame.open_leaves (P := Try.prog) 8 (show Frame.leaves Try.prog 8 24 = some [.int .i64, .int .i64, .int .i64, .string] from by kernel_rfl) (Frame.agg_of_struct Try.underlying24 (hval 1 24 v1 rfl rfl)) h1
  obtain ⟨x1_0, c1_1, rfl, ⟨a1_0, rfl, w1_0⟩, al1_1⟩ := al1_0.cons
  obtain ⟨x1_1, c1_2, rfl, ⟨a1_1, rfl, w1_1⟩, al1_2⟩ := al1_1.cons
  obtain ⟨x1_2, c1_3, rfl, ⟨a1_2, rfl, w1_2⟩, al1_3⟩ := al1_2.cons
  obtain ⟨x1_3, c1_4, rfl, ⟨a1_3, rfl, w1_3⟩, al1_4⟩ := al1_3.cons
  obtain rfl := al1_4.nil
  clear hA0 hval0
  refine (Trees.parts_go v0 l0 a1_0 a1_1 a1_2 a1_3 W iv0 (bounds_i64 w1_0) (bounds_i64 w1_1) (bounds_i64 w1_2) w1_3 lb0).mono fun e W' ⟨he, bel⟩ => ?_
  subst he
  exact ⟨_, rfl, _, _, _, [], _, [], hW', trodAll_mk1 (shut_bool Try.underlying4 _), (trodAll_cons_mk (Below.trod laidOut (by kernel_rfl) (of_decide_eq_true (by kernel_rfl)) h0 bel (fun x hx => by simpa using hW'.lt x (by simp [hx]))) (trodAll_cons_mk (Below.trod laidOut (by kernel_rfl) (of_decide_eq_true (by kernel_rfl)) h1 bel (fun _ hx => by cases hx)) trodAll_mk0)), rfl, bel.frame _, fun h => by cases h⟩

theorem over : Rows.treePartsRow.holds Try.pinned (OpenSpec.ofChange Rows.treePartsSpec) :=
  OpenClaim.holds_of_wide 4 Try.f4 rfl rfl rfl rfl rfl rfl rfl ⟨rfl, rfl, rfl, rfl, rfl⟩ rfl rfl rfl rfl rfl (by kernel_rfl) Try.func4 (by kernel_rfl)
    (of_decide_eq_true (by kernel_rfl)) (by unfold Func.isWrapper; first | (rw [if_pos (by decide +kernel)]; kernel_rfl) | (rw [if_neg (by decide +kernel)]; exact ⟨rfl, rfl⟩))
    (fun os started H enc _ => lifted os started H enc)

end Go.Proofs.Yteakgagjacjhiaa.TreeParts
namespace Go.Proofs.Yteakgagjacjhiaa
theorem treeParts_holds : Rows.TreePartsSaid := TreeParts.over
end Go.Proofs.Yteakgagjacjhiaa
#print axioms Go.Proofs.Yteakgagjacjhiaa.treeParts_holds
