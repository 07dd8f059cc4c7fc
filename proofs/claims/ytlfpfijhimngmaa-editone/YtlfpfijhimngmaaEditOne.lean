/-
  Of any text, cut to 24 bytes: what is made of it by one step at any place (a byte goes, one comes, or one is another one) lies one step away, or none, if it is the same; with the same bytes ahead of both, and behind both, the distance is the same.
-/
import Derived.Test.YtlfpfijhimngmaaRows
import Derived.Test.YtlfpfijhimngmaaEF
import Derived.Test.YtlfpfijhimngmaaK1
import Derived.WalkKit
import Derived.ProofKit
import Derived.OpenShut
import Derived.ShutString
import Derived.ChangeOld
import Derived.Below
namespace Go.Proofs.Ytlfpfijhimngmaa.EditOne
open Go.ChangeShapes Go.WideShapes Go.ChangeAt Go.RowKit
open Go.ChangeMaps (open_string shut_string)
set_option linter.unusedVariables false

theorem own : ownKnob Try.prog.godebug = none := by kernel_rfl
theorem laidOut : laidOutB Try.prog = true := by kernel_rfl

set_option maxRecDepth 100000 in
theorem lifted (os : Os) (started : os.Started) (H : Type) (enc : TypeId × Value → H) :
    ReturnsInHanded {} Try.checked os 7 .any (Rows.editOneSpec.pre6 enc Try.prog Try.f7 Rows.editOneRow.domain false) (Rows.editOneSpec.post enc Try.prog Try.f7 false true false false) := by
  refine returnsInHanded_of_change (C := Try.checked) own started (by kernel_rfl) Try.func7
    (ChangeSpec.witness6 (enc := enc) (C := Try.checked) false ⟨#[], #[.agg #[.string ByteArray.empty, .string ByteArray.empty], .agg #[.int .i64 0, .int .i64 0], .int .u8 0], []⟩ 8 (by kernel_rfl) (by kernel_rfl) (by kernel_rfl) (by kernel_rfl)) ?_
  intro W base args ds gs before hval0 hW hcnd _
  have hval : ∀ (j : Nat) t v, Try.f7.params[j]? = some t → args[j]? = some v → Value.okWide Try.prog W .any base t v := hval0
  have hW' := hW
  obtain ⟨p, q, hA0, hV, rfl, hfz, hnd⟩ := hW
  have hA : DataW.TrodAll enc Try.prog W 0 (fun _ => true) true Try.f7.params.toList args.toList ds p := hA0
  rw [Try.params7] at hA hval
  obtain ⟨v0, vs0, d0, ds0, p0, q0, hargs, rfl, rfl, h0, r0⟩ := trodAll_cons hA
  obtain ⟨v1, vs1, d1, ds1, p1, q1, rfl, rfl, rfl, h1, r1⟩ := trodAll_cons r0
  obtain ⟨v2, vs2, d2, ds2, p2, q2, rfl, rfl, rfl, h2, r2⟩ := trodAll_cons r1
  obtain ⟨rfl, rfl, rfl⟩ := trodAll_nil r2
  obtain rfl : args = #[v0, v1, v2] := by cases args; simp_all
  obtain ⟨rfl, rfl⟩ := trodVars_none hV
  obtain ⟨c0_0, rfl, al0_0, rfl⟩ := Frame.open_leaves (P := Try.prog) 8 (show Frame.leaves Try.prog 8 37 = some [.string, .string] from by kernel_rfl) (Frame.agg_of_array Try.underlying37 (hval 0 37 v0 rfl rfl)) h0
  obtain ⟨x0_0, c0_1, rfl, ⟨a0_0, rfl, w0_0⟩, al0_1⟩ := al0_0.cons
  obtain ⟨x0_1, c0_2, rfl, ⟨a0_1, rfl, w0_1⟩, al0_2⟩ := al0_1.cons
  obtain rfl := al0_2.nil
  obtain ⟨c1_0, rfl, al1_0, rfl⟩ := Frame.open_leaves (P := Try.prog) 8 (show Frame.leaves Try.prog 8 38 = some [.int .i64, .int .i64] from by kernel_rfl) (Frame.agg_of_array Try.underlying38 (hval 1 38 v1 rfl rfl)) h1
  obtain ⟨x1_0, c1_1, rfl, ⟨a1_0, rfl, w1_0⟩, al1_1⟩ := al1_0.cons
  obtain ⟨x1_1, c1_2, rfl, ⟨a1_1, rfl, w1_1⟩, al1_2⟩ := al1_1.cons
  obtain rfl := al1_2.nil
  obtain ⟨a2, rfl, rfl, rfl, w2⟩ := open_int Try.underlying5 (hval 2 5 v2 rfl rfl) h2
  clear hA0 hval0
  refine (Edits.one_law a0_0 a0_1 a1_0 a1_1 a2 W w0_0 w0_1 (bounds_i64 w1_0) (bounds_i64 w1_1) (bounds_u8 w2)).mono fun e W' ⟨he, bel⟩ => ?_
  subst he
  exact ⟨_, rfl, _, _, _, [], _, [], hW', trodAll_mk1 (shut_bool Try.underlying4 _), (trodAll_cons_mk (Below.trod laidOut (by kernel_rfl) (of_decide_eq_true (by kernel_rfl)) h0 bel (fun _ hx => by cases hx)) (trodAll_cons_mk (Below.trod laidOut (by kernel_rfl) (of_decide_eq_true (by kernel_rfl)) h1 bel (fun _ hx => by cases hx)) (trodAll_cons_mk (shut_int Try.underlying5 w2) trodAll_mk0))), rfl, bel.frame _, fun h => by cases h⟩

theorem over : Rows.editOneRow.holds Try.pinned (OpenSpec.ofChange Rows.editOneSpec) :=
  OpenClaim.holds_of_wide 7 Try.f7 rfl rfl rfl rfl rfl rfl rfl ⟨rfl, rfl, rfl, rfl, rfl⟩ rfl rfl rfl rfl rfl (by kernel_rfl) Try.func7 (by kernel_rfl)
    (of_decide_eq_true (by kernel_rfl)) (by unfold Func.isWrapper; first | (rw [if_pos (by decide +kernel)]; kernel_rfl) | (rw [if_neg (by decide +kernel)]; exact ⟨rfl, rfl⟩))
    (fun os started H enc _ => lifted os started H enc)

end Go.Proofs.Ytlfpfijhimngmaa.EditOne
namespace Go.Proofs.Ytlfpfijhimngmaa
theorem editOne_holds : Rows.EditOneSaid := EditOne.over
end Go.Proofs.Ytlfpfijhimngmaa
#print axioms Go.Proofs.Ytlfpfijhimngmaa.editOne_holds
