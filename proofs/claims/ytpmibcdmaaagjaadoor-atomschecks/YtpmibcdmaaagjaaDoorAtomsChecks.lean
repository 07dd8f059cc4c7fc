/-
  AtomsChecks: any table is checked as the document says (the table, spoilt thrice in any ways); the check of an empty table, too.
-/
import Derived.Test.YtpmibcdmaaagjaaDoorRows
import Derived.Test.YtpmibcdmaaagjaaDoorNC
import Derived.Test.YtpmibcdmaaagjaaDoorK1
import Derived.WalkKit
import Derived.ProofKit
import Derived.OpenShut
import Derived.ShutString
import Derived.ChangeOld
import Derived.Below
import Derived.Test.YtpmibcdmaaagjaaDoorCards
import Derived.Test.YtpmibcdmaaagjaaDoorTie
import Derived.Lay
import Derived.SevenTiedAt
import Derived.Stop.Joined
import Derived.Test.YtpmibcdmaaagjaaDoorE1
namespace Go.Proofs.YtpmibcdmaaagjaaDoor.AtomsChecks
open Go.ChangeShapes Go.WideShapes Go.ChangeAt Go.RowKit
open Go.ChangeMaps (open_string shut_string)
set_option linter.unusedVariables false

theorem own : ownKnob Tryd.prog.godebug = none := by kernel_rfl
theorem laidOut : laidOutB Tryd.prog = true := by kernel_rfl

set_option maxRecDepth 100000 in
theorem lifted (os : Os) (started : os.Started) (H : Type) (enc : TypeId × Value → H) :
    ReturnsInHanded {} Tryd.checked os 3 .any (fun w args => (Rows.atomsChecksSpec.pre enc Tryd.prog Tryd.f3 [] false w args ∧ laidMetH Tryd.prog Rows.atomsChecksRow.laid w) ∧ sizedMet enc Tryd.prog Tryd.f3 (OpenSpec.ofChange Rows.atomsChecksSpec) false w args) (Rows.atomsChecksSpec.post enc Tryd.prog Tryd.f3 false true false false) := by
  refine returnsInHanded_of_change_and (C := Tryd.checked) (X := fun w _ => laidMetH Tryd.prog Rows.atomsChecksRow.laid w) (fun _ _ _ hh h => h.of_heap hh) own started (by kernel_rfl) Tryd.func3
    (ChangeSpec.witness_shaped (enc := enc) (C := Tryd.checked) (os := os) (X := fun w _ => laidMetH Tryd.prog Rows.atomsChecksRow.laid w) false (World.laidAll Tryd.prog os Rows.atomsChecksRow.laid) #[.agg #[.int .i64 0, .int .i64 0, .int .i64 0, .string ByteArray.empty, .int .i64 0, .int .i64 0, .int .i64 0, .string ByteArray.empty, .int .i64 0, .int .i64 0, .int .i64 0, .string ByteArray.empty]] 8 (World.laidAll_os _ _ _)
      (World.shaped_of_ZipB (by kernel_rfl) (by kernel_rfl)) (by kernel_rfl) (by kernel_rfl) (by kernel_rfl)
      (by rw [MakeChecks.laidMetH_plain _ _ _ (by kernel_rfl)]; exact laidMet_laidAll _ (by kernel_rfl) (by kernel_rfl))) ?_
  intro W base args ds gs before hval0 hW _ _ hL _
  have hval : ∀ (j : Nat) t v, Tryd.f3.params[j]? = some t → args[j]? = some v → Value.okWide Tryd.prog W .any base t v := hval0
  have hW' := hW
  obtain ⟨p, q, hA0, hV, rfl, hfz, hnd⟩ := hW
  have hA : DataW.TrodAll enc Tryd.prog W 0 (fun _ => true) true Tryd.f3.params.toList args.toList ds p := hA0
  rw [Tryd.params3] at hA hval
  obtain ⟨v0, vs0, d0, ds0, p0, q0, hargs, rfl, rfl, h0, r0⟩ := trodAll_cons hA
  obtain ⟨rfl, rfl, rfl⟩ := trodAll_nil r0
  obtain rfl : args = #[v0] := by cases args; simp_all
  obtain ⟨rfl, rfl⟩ := trodVars_none hV
  obtain ⟨c0_0, rfl, al0_0, rfl⟩ := Frame.open_leaves (P := Tryd.prog) 8 (show Frame.leaves Tryd.prog 8 24 = some [.int .i64, .int .i64, .int .i64, .string, .int .i64, .int .i64, .int .i64, .string, .int .i64, .int .i64, .int .i64, .string] from by kernel_rfl) (Frame.agg_of_array Tryd.underlying24 (hval 0 24 v0 rfl rfl)) h0
  obtain ⟨x0_0, c0_1, rfl, ⟨a0_0, rfl, w0_0⟩, al0_1⟩ := al0_0.cons
  obtain ⟨x0_1, c0_2, rfl, ⟨a0_1, rfl, w0_1⟩, al0_2⟩ := al0_1.cons
  obtain ⟨x0_2, c0_3, rfl, ⟨a0_2, rfl, w0_2⟩, al0_3⟩ := al0_2.cons
  obtain ⟨x0_3, c0_4, rfl, ⟨a0_3, rfl, w0_3⟩, al0_4⟩ := al0_3.cons
  obtain ⟨x0_4, c0_5, rfl, ⟨a0_4, rfl, w0_4⟩, al0_5⟩ := al0_4.cons
  obtain ⟨x0_5, c0_6, rfl, ⟨a0_5, rfl, w0_5⟩, al0_6⟩ := al0_5.cons
  obtain ⟨x0_6, c0_7, rfl, ⟨a0_6, rfl, w0_6⟩, al0_7⟩ := al0_6.cons
  obtain ⟨x0_7, c0_8, rfl, ⟨a0_7, rfl, w0_7⟩, al0_8⟩ := al0_7.cons
  obtain ⟨x0_8, c0_9, rfl, ⟨a0_8, rfl, w0_8⟩, al0_9⟩ := al0_8.cons
  obtain ⟨x0_9, c0_10, rfl, ⟨a0_9, rfl, w0_9⟩, al0_10⟩ := al0_9.cons
  obtain ⟨x0_10, c0_11, rfl, ⟨a0_10, rfl, w0_10⟩, al0_11⟩ := al0_10.cons
  obtain ⟨x0_11, c0_12, rfl, ⟨a0_11, rfl, w0_11⟩, al0_12⟩ := al0_11.cons
  obtain rfl := al0_12.nil
  clear hA0 hval0
  refine (Atoms.checks_law a0_0 a0_1 a0_2 a0_3 a0_4 a0_5 a0_6 a0_7 a0_8 a0_9 a0_10 a0_11 W (Frac.ten_of_laid hL) (bounds_i64 w0_0) (bounds_i64 w0_1) (bounds_i64 w0_2) w0_3 (bounds_i64 w0_4) (bounds_i64 w0_5) (bounds_i64 w0_6) w0_7 (bounds_i64 w0_8) (bounds_i64 w0_9) (bounds_i64 w0_10) w0_11).mono fun e W' ⟨he, bel⟩ => ?_
  subst he
  exact ⟨_, rfl, _, _, _, [], _, [], hW', trodAll_mk1 (shut_bool Tryd.underlying4 _), (trodAll_cons_mk (Below.trod laidOut (by kernel_rfl) (of_decide_eq_true (by kernel_rfl)) h0 bel (fun _ hx => by cases hx)) trodAll_mk0), rfl, bel.frame _, fun h => by cases h⟩

theorem over : Rows.atomsChecksRow.holds Tryd.pinned (OpenSpec.ofChange Rows.atomsChecksSpec) :=
  OpenClaim.holds_of_wide 3 Tryd.f3 rfl rfl rfl rfl rfl rfl rfl ⟨rfl, rfl, rfl, rfl, rfl⟩ rfl rfl rfl rfl rfl (by kernel_rfl) Tryd.func3 (by kernel_rfl)
    (of_decide_eq_true (by kernel_rfl)) (by unfold Func.isWrapper; first | (rw [if_pos (by decide +kernel)]; kernel_rfl) | (rw [if_neg (by decide +kernel)]; exact ⟨rfl, rfl⟩))
    (fun os started H enc _ => lifted os started H enc)

end Go.Proofs.YtpmibcdmaaagjaaDoor.AtomsChecks
namespace Go.Proofs.YtpmibcdmaaagjaaDoor
theorem atomsChecks_holds : Rows.AtomsChecksCardSaid :=
  Claim7.holds_tied_plain_at .later [] [.data] true (true, "71a1812ab6e8fc99f759aaeeb928cd62d3a5fb9b270bb8de9592a793f91e64ea") false AtomsChecks.over (fun _ h => by cases h) (by kernel_rfl) (fun _ h => by cases h) atomsChecks_row_tie rfl ⟨rfl, rfl⟩ (by kernel_rfl) rfl
    (fun f fn hf hfn => by
      obtain rfl : f = 3 := Option.some.inj ((show Tryd.prog.funcNamed "drachm/drachmlaw05.AtomsChecks" = some 3 by kernel_rfl).symm.trans hf) |>.symm
      obtain rfl : fn = Tryd.f3 := (Option.some.inj (Tryd.func3.symm.trans hfn)).symm
      exact ⟨by kernel_rfl, fun j t ht => by
        rw [Tryd.params3] at ht
        have hm : t ∈ [24] := by simpa using Array.mem_of_getElem? ht
        have hall : ([24].all fun u => !Tryd.prog.wantsStandIn u) = true := by kernel_rfl
        exact (show Tryd.prog.wantsStandIn t = false by simpa using List.all_eq_true.1 hall t hm)⟩)
    (by kernel_rfl)
end Go.Proofs.YtpmibcdmaaagjaaDoor
#print axioms Go.Proofs.YtpmibcdmaaagjaaDoor.atomsChecks_holds
