/-
  Proved: the law FracMakes returns true for every argument and leaves memory below as it was. Conditions: the variable frac.ofTen holds what its initialiser lays (tied by the card).
-/
import Derived.Test.YtfpopppapjfelaaDoorRows
import Derived.Test.YtfpopppapjfelaaDoorS1
import Derived.Test.YtfpopppapjfelaaDoorK1
import Derived.WalkKit
import Derived.ProofKit
import Derived.OpenShut
import Derived.ShutString
import Derived.ChangeOld
import Derived.Below
import Derived.Test.YtfpopppapjfelaaDoorCards
import Derived.Test.YtfpopppapjfelaaDoorTie
import Derived.Lay
import Derived.SevenTiedAt
import Derived.Stop.Joined
import Derived.Test.YtfpopppapjfelaaDoorE1
namespace Go.Proofs.YtfpopppapjfelaaDoor.FracMakes
open Go.ChangeShapes Go.WideShapes Go.ChangeAt Go.RowKit
open Go.ChangeMaps (open_string shut_string)
set_option linter.unusedVariables false

theorem own : ownKnob Tryd.prog.godebug = none := by kernel_rfl
theorem laidOut : laidOutB Tryd.prog = true := by kernel_rfl

set_option maxRecDepth 100000 in
theorem lifted (os : Os) (started : os.Started) (H : Type) (enc : TypeId × Value → H) :
    ReturnsInHanded {} Tryd.checked os 3 .any (fun w args => (Rows.fracMakesSpec.pre enc Tryd.prog Tryd.f3 [] false w args ∧ laidMetH Tryd.prog Rows.fracMakesRow.laid w) ∧ sizedMet enc Tryd.prog Tryd.f3 (OpenSpec.ofChange Rows.fracMakesSpec) false w args) (Rows.fracMakesSpec.post enc Tryd.prog Tryd.f3 false true false false) := by
  refine returnsInHanded_of_change_and (C := Tryd.checked) (X := fun w _ => laidMetH Tryd.prog Rows.fracMakesRow.laid w) (fun _ _ _ hh h => h.of_heap hh) own started (by kernel_rfl) Tryd.func3
    (ChangeSpec.witness_shaped (enc := enc) (C := Tryd.checked) (os := os) (X := fun w _ => laidMetH Tryd.prog Rows.fracMakesRow.laid w) false (World.laidAll Tryd.prog os Rows.fracMakesRow.laid) #[.agg #[.int .i64 0, .int .i64 0, .int .i64 0], .agg #[.int .i64 0, .int .i64 0, .int .i64 0]] 8 (World.laidAll_os _ _ _)
      (World.shaped_of_ZipB (by kernel_rfl) (by kernel_rfl)) (by kernel_rfl) (by kernel_rfl) (by kernel_rfl)
      (by rw [MakeChecks.laidMetH_plain _ _ _ (by kernel_rfl)]; exact laidMet_laidAll _ (by kernel_rfl) (by kernel_rfl))) ?_
  intro W base args ds gs before hval0 hW _ _ hL _
  have hval : ∀ (j : Nat) t v, Tryd.f3.params[j]? = some t → args[j]? = some v → Value.okWide Tryd.prog W .any base t v := hval0
  have hW' := hW
  obtain ⟨p, q, hA0, hV, rfl, hfz, hnd⟩ := hW
  have hA : DataW.TrodAll enc Tryd.prog W 0 (fun _ => true) true Tryd.f3.params.toList args.toList ds p := hA0
  rw [Tryd.params3] at hA hval
  obtain ⟨v0, vs0, d0, ds0, p0, q0, hargs, rfl, rfl, h0, r0⟩ := trodAll_cons hA
  obtain ⟨v1, vs1, d1, ds1, p1, q1, rfl, rfl, rfl, h1, r1⟩ := trodAll_cons r0
  obtain ⟨rfl, rfl, rfl⟩ := trodAll_nil r1
  obtain rfl : args = #[v0, v1] := by cases args; simp_all
  obtain ⟨rfl, rfl⟩ := trodVars_none hV
  obtain ⟨c0_0, rfl, al0_0, rfl⟩ := Frame.open_leaves (P := Tryd.prog) 8 (show Frame.leaves Tryd.prog 8 23 = some [.int .i64, .int .i64, .int .i64] from by kernel_rfl) (Frame.agg_of_struct Tryd.underlying23 (hval 0 23 v0 rfl rfl)) h0
  obtain ⟨x0_0, c0_1, rfl, ⟨a0_0, rfl, w0_0⟩, al0_1⟩ := al0_0.cons
  obtain ⟨x0_1, c0_2, rfl, ⟨a0_1, rfl, w0_1⟩, al0_2⟩ := al0_1.cons
  obtain ⟨x0_2, c0_3, rfl, ⟨a0_2, rfl, w0_2⟩, al0_3⟩ := al0_2.cons
  obtain rfl := al0_3.nil
  obtain ⟨c1_0, rfl, al1_0, rfl⟩ := Frame.open_leaves (P := Tryd.prog) 8 (show Frame.leaves Tryd.prog 8 24 = some [.int .i64, .int .i64, .int .i64] from by kernel_rfl) (Frame.agg_of_struct Tryd.underlying24 (hval 1 24 v1 rfl rfl)) h1
  obtain ⟨x1_0, c1_1, rfl, ⟨a1_0, rfl, w1_0⟩, al1_1⟩ := al1_0.cons
  obtain ⟨x1_1, c1_2, rfl, ⟨a1_1, rfl, w1_1⟩, al1_2⟩ := al1_1.cons
  obtain ⟨x1_2, c1_3, rfl, ⟨a1_2, rfl, w1_2⟩, al1_3⟩ := al1_2.cons
  obtain rfl := al1_3.nil
  clear hA0 hval0
  refine (Frac.makes_walk a0_0 a0_1 a0_2 a1_0 a1_1 a1_2 W (Frac.ten_of_laid hL) (bounds_i64 w0_0) (bounds_i64 w0_1) (bounds_i64 w0_2) (bounds_i64 w1_0) (bounds_i64 w1_1) (bounds_i64 w1_2)).mono fun e W' ⟨he, bel⟩ => ?_
  subst he
  exact ⟨_, rfl, _, _, _, [], _, [], hW', trodAll_mk1 (shut_bool Tryd.underlying4 _), (trodAll_cons_mk (Below.trod laidOut (by kernel_rfl) (of_decide_eq_true (by kernel_rfl)) h0 bel (fun _ hx => by cases hx)) (trodAll_cons_mk (Below.trod laidOut (by kernel_rfl) (of_decide_eq_true (by kernel_rfl)) h1 bel (fun _ hx => by cases hx)) trodAll_mk0)), rfl, bel.frame _, fun h => by cases h⟩

theorem over : Rows.fracMakesRow.holds Tryd.pinned (OpenSpec.ofChange Rows.fracMakesSpec) :=
  OpenClaim.holds_of_wide 3 Tryd.f3 rfl rfl rfl rfl rfl rfl rfl ⟨rfl, rfl, rfl, rfl, rfl⟩ rfl rfl rfl rfl rfl (by kernel_rfl) Tryd.func3 (by kernel_rfl)
    (of_decide_eq_true (by kernel_rfl)) (by unfold Func.isWrapper; first | (rw [if_pos (by decide +kernel)]; kernel_rfl) | (rw [if_neg (by decide +kernel)]; exact ⟨rfl, rfl⟩))
    (fun os started H enc _ => lifted os started H enc)

end Go.Proofs.YtfpopppapjfelaaDoor.FracMakes
namespace Go.Proofs.YtfpopppapjfelaaDoor
theorem fracMakes_holds : Rows.FracMakesCardSaid :=
  Claim7.holds_tied_plain_at .later [] [.data] true (true, "07ae244dfb74037a9ee0b338c3d995a301391c41826b48ed4dcfe2da56408092") true FracMakes.over (fun _ h => by cases h) (by kernel_rfl) (fun _ h => by cases h) fracMakes_row_tie rfl ⟨rfl, rfl⟩ (by kernel_rfl) rfl
    (fun f fn hf hfn => by
      obtain rfl : f = 3 := Option.some.inj ((show Tryd.prog.funcNamed "drachm/drachmlaw02.FracMakes" = some 3 by kernel_rfl).symm.trans hf) |>.symm
      obtain rfl : fn = Tryd.f3 := (Option.some.inj (Tryd.func3.symm.trans hfn)).symm
      exact ⟨by kernel_rfl, fun j t ht => by
        rw [Tryd.params3] at ht
        have hm : t ∈ [23, 24] := by simpa using Array.mem_of_getElem? ht
        have hall : ([23, 24].all fun u => !Tryd.prog.wantsStandIn u) = true := by kernel_rfl
        exact (show Tryd.prog.wantsStandIn t = false by simpa using List.all_eq_true.1 hall t hm)⟩)
    (by kernel_rfl)
end Go.Proofs.YtfpopppapjfelaaDoor
#print axioms Go.Proofs.YtfpopppapjfelaaDoor.fracMakes_holds
