/-
  Proved: the law WorthTells returns true for every argument and leaves memory below as it was. Conditions: the package variables that it reads hold what their initialisers lay (tied by the card).
-/
import Derived.Test.YtndinbefljajcaaGreatDoorRows
import Derived.Test.YtndinbefljajcaaGreatDoorVO
import Derived.Test.YtndinbefljajcaaGreatDoorK1
import Derived.WalkKit
import Derived.ProofKit
import Derived.OpenShut
import Derived.ShutString
import Derived.ChangeOld
import Derived.Below
import Derived.Test.YtndinbefljajcaaGreatDoorCards
import Derived.Test.YtndinbefljajcaaGreatDoorTie
import Derived.Lay
import Derived.SevenTiedAt
import Derived.Stop.Joined
import Derived.Test.YtndinbefljajcaaGreatDoorE4
namespace Go.Proofs.YtndinbefljajcaaGreatDoor.WorthTells
open Go.ChangeShapes Go.WideShapes Go.ChangeAt Go.RowKit
open Go.ChangeMaps (open_string shut_string)
set_option linter.unusedVariables false

theorem own : ownKnob Tryz.prog.godebug = none := by kernel_rfl
theorem laidOut : laidOutB Tryz.prog = true := by kernel_rfl

set_option maxRecDepth 100000 in
theorem lifted (os : Os) (started : os.Started) (H : Type) (enc : TypeId × Value → H) :
    ReturnsInHanded {} Tryz.checked os 3 .any (fun w args => (Rows.worthTellsSpec.pre enc Tryz.prog Tryz.f3 [] false w args ∧ laidMetH Tryz.prog Rows.worthTellsRow.laid w) ∧ sizedMet enc Tryz.prog Tryz.f3 (OpenSpec.ofChange Rows.worthTellsSpec) false w args) (Rows.worthTellsSpec.post enc Tryz.prog Tryz.f3 false true false false) := by
  refine returnsInHanded_of_change_and (C := Tryz.checked) (X := fun w _ => laidMetH Tryz.prog Rows.worthTellsRow.laid w) (fun _ _ _ hh h => h.of_heap hh) own started (by kernel_rfl) Tryz.func3
    (ChangeSpec.witness_shaped (enc := enc) (C := Tryz.checked) (os := os) (X := fun w _ => laidMetH Tryz.prog Rows.worthTellsRow.laid w) false (World.laidAll Tryz.prog os Rows.worthTellsRow.laid) #[.agg #[.int .i64 0, .int .i64 0, .int .i64 0, .int .i64 0, .int .i64 0, .int .i64 0, .int .i64 0, .int .i64 0, .int .i64 0, .int .i64 0, .int .i64 0, .int .i64 0, .int .i64 0, .int .i64 0, .int .i64 0, .int .i64 0, .int .i64 0, .int .i64 0, .int .i64 0, .int .i64 0, .int .i64 0, .int .i64 0], .agg #[.int .i64 0, .int .i64 0, .int .i64 0, .int .i64 0, .int .i64 0, .int .i64 0, .int .i64 0, .int .i64 0, .int .i64 0, .int .i64 0, .int .i64 0, .int .i64 0, .int .i64 0, .int .i64 0, .int .i64 0, .int .i64 0, .int .i64 0, .int .i64 0, .int .i64 0, .int .i64 0, .int .i64 0, .int .i64 0], .agg #[.int .i64 0, .int .i64 0]] 8 (World.laidAll_os _ _ _)
      (World.shaped_of_ZipB (by kernel_rfl) (by kernel_rfl)) (by kernel_rfl) (by kernel_rfl) (by kernel_rfl)
      (by rw [MakeChecks.laidMetH_plain _ _ _ (by kernel_rfl)]; exact laidMet_laidAll _ (by kernel_rfl) (by kernel_rfl))) ?_
  intro W base args ds gs before hval0 hW _ _ hL _
  have hval : ∀ (j : Nat) t v, Tryz.f3.params[j]? = some t → args[j]? = some v → Value.okWide Tryz.prog W .any base t v := hval0
  have hW' := hW
  obtain ⟨p, q, hA0, hV, rfl, hfz, hnd⟩ := hW
  have hA : DataW.TrodAll enc Tryz.prog W 0 (fun _ => true) true Tryz.f3.params.toList args.toList ds p := hA0
  rw [Tryz.params3] at hA hval
  obtain ⟨v0, vs0, d0, ds0, p0, q0, hargs, rfl, rfl, h0, r0⟩ := trodAll_cons hA
  obtain ⟨v1, vs1, d1, ds1, p1, q1, rfl, rfl, rfl, h1, r1⟩ := trodAll_cons r0
  obtain ⟨v2, vs2, d2, ds2, p2, q2, rfl, rfl, rfl, h2, r2⟩ := trodAll_cons r1
  obtain ⟨rfl, rfl, rfl⟩ := trodAll_nil r2
  obtain rfl : args = #[v0, v1, v2] := by cases args; simp_all
  obtain ⟨rfl, rfl⟩ := trodVars_none hV
  obtain ⟨c0_0, rfl, al0_0, rfl⟩ := Frame.open_leaves (P := Tryz.prog) 8 (show Frame.leaves Tryz.prog 8 26 = some [.int .i64, .int .i64, .int .i64, .int .i64, .int .i64, .int .i64, .int .i64, .int .i64, .int .i64, .int .i64, .int .i64, .int .i64, .int .i64, .int .i64, .int .i64, .int .i64, .int .i64, .int .i64, .int .i64, .int .i64, .int .i64, .int .i64] from by kernel_rfl) (Frame.agg_of_array Tryz.underlying26 (hval 0 26 v0 rfl rfl)) h0
  obtain ⟨x0_0, c0_1, rfl, ⟨a0_0, rfl, w0_0⟩, al0_1⟩ := al0_0.cons
  obtain ⟨x0_1, c0_2, rfl, ⟨a0_1, rfl, w0_1⟩, al0_2⟩ := al0_1.cons
  obtain ⟨x0_2, c0_3, rfl, ⟨a0_2, rfl, w0_2⟩, al0_3⟩ := al0_2.cons
  obtain ⟨x0_3, c0_4, rfl, ⟨a0_3, rfl, w0_3⟩, al0_4⟩ := al0_3.cons
  obtain ⟨x0_4, c0_5, rfl, ⟨a0_4, rfl, w0_4⟩, al0_5⟩ := al0_4.cons
  obtain ⟨x0_5, c0_6, rfl, ⟨a0_5, rfl, w0_5⟩, al0_6⟩ := al0_5.cons
  obtain ⟨x0_6, c0_7, rfl, ⟨a0_6, rfl, w0_6⟩, al0_7⟩ := al0_6.cons
  obtain ⟨x0_7, c0_8, rfl, ⟨a0_7, rfl, w0_7⟩, al0_8⟩ := al0_7.cons
  obtain ⟨x0_8, c0_9, rfl, ⟨a0_8, rfl, w0_8⟩, al0_9⟩ := al0_8.cons
  obtain ⟨x0_9, c0_10, rfl, ⟨a0_9, rfl, w0_9⟩, al0_10⟩ := al0_9.cons
  obtain ⟨x0_10, c0_11, rfl, ⟨a0_10, rfl, w0_10⟩, al0_11⟩ := al0_10.cons
  obtain ⟨x0_11, c0_12, rfl, ⟨a0_11, rfl, w0_11⟩, al0_12⟩ := al0_11.cons
  obtain ⟨x0_12, c0_13, rfl, ⟨a0_12, rfl, w0_12⟩, al0_13⟩ := al0_12.cons
  obtain ⟨x0_13, c0_14, rfl, ⟨a0_13, rfl, w0_13⟩, al0_14⟩ := al0_13.cons
  obtain ⟨x0_14, c0_15, rfl, ⟨a0_14, rfl, w0_14⟩, al0_15⟩ := al0_14.cons
  obtain ⟨x0_15, c0_16, rfl, ⟨a0_15, rfl, w0_15⟩, al0_16⟩ := al0_15.cons
  obtain ⟨x0_16, c0_17, rfl, ⟨a0_16, rfl, w0_16⟩, al0_17⟩ := al0_16.cons
  obtain ⟨x0_17, c0_18, rfl, ⟨a0_17, rfl, w0_17⟩, al0_18⟩ := al0_17.cons
  obtain ⟨x0_18, c0_19, rfl, ⟨a0_18, rfl, w0_18⟩, al0_19⟩ := al0_18.cons
  obtain ⟨x0_19, c0_20, rfl, ⟨a0_19, rfl, w0_19⟩, al0_20⟩ := al0_19.cons
  obtain ⟨x0_20, c0_21, rfl, ⟨a0_20, rfl, w0_20⟩, al0_21⟩ := al0_20.cons
  obtain ⟨x0_21, c0_22, rfl, ⟨a0_21, rfl, w0_21⟩, al0_22⟩ := al0_21.cons
  obtain rfl := al0_22.nil
  obtain ⟨c1_0, rfl, al1_0, rfl⟩ := Frame.open_leaves (P := Tryz.prog) 8 (show Frame.leaves Tryz.prog 8 31 = some [.int .i64, .int .i64, .int .i64, .int .i64, .int .i64, .int .i64, .int .i64, .int .i64, .int .i64, .int .i64, .int .i64, .int .i64, .int .i64, .int .i64, .int .i64, .int .i64, .int .i64, .int .i64, .int .i64, .int .i64, .int .i64, .int .i64] from by kernel_rfl) (Frame.agg_of_array Tryz.underlying31 (hval 1 31 v1 rfl rfl)) h1
  obtain ⟨x1_0, c1_1, rfl, ⟨a1_0, rfl, w1_0⟩, al1_1⟩ := al1_0.cons
  obtain ⟨x1_1, c1_2, rfl, ⟨a1_1, rfl, w1_1⟩, al1_2⟩ := al1_1.cons
  obtain ⟨x1_2, c1_3, rfl, ⟨a1_2, rfl, w1_2⟩, al1_3⟩ := al1_2.cons
  obtain ⟨x1_3, c1_4, rfl, ⟨a1_3, rfl, w1_3⟩, al1_4⟩ := al1_3.cons
  obtain ⟨x1_4, c1_5, rfl, ⟨a1_4, rfl, w1_4⟩, al1_5⟩ := al1_4.cons
  obtain ⟨x1_5, c1_6, rfl, ⟨a1_5, rfl, w1_5⟩, al1_6⟩ := al1_5.cons
  obtain ⟨x1_6, c1_7, rfl, ⟨a1_6, rfl, w1_6⟩, al1_7⟩ := al1_6.cons
  obtain ⟨x1_7, c1_8, rfl, ⟨a1_7, rfl, w1_7⟩, al1_8⟩ := al1_7.cons
  obtain ⟨x1_8, c1_9, rfl, ⟨a1_8, rfl, w1_8⟩, al1_9⟩ := al1_8.cons
  obtain ⟨x1_9, c1_10, rfl, ⟨a1_9, rfl, w1_9⟩, al1_10⟩ := al1_9.cons
  obtain ⟨x1_10, c1_11, rfl, ⟨a1_10, rfl, w1_10⟩, al1_11⟩ := al1_10.cons
  obtain ⟨x1_11, c1_12, rfl, ⟨a1_11, rfl, w1_11⟩, al1_12⟩ := al1_11.cons
  obtain ⟨x1_12, c1_13, rfl, ⟨a1_12, rfl, w1_12⟩, al1_13⟩ := al1_12.cons
  obtain ⟨x1_13, c1_14, rfl, ⟨a1_13, rfl, w1_13⟩, al1_14⟩ := al1_13.cons
  obtain ⟨x1_14, c1_15, rfl, ⟨a1_14, rfl, w1_14⟩, al1_15⟩ := al1_14.cons
  obtain ⟨x1_15, c1_16, rfl, ⟨a1_15, rfl, w1_15⟩, al1_16⟩ := al1_15.cons
  obtain ⟨x1_16, c1_17, rfl, ⟨a1_16, rfl, w1_16⟩, al1_17⟩ := al1_16.cons
  obtain ⟨x1_17, c1_18, rfl, ⟨a1_17, rfl, w1_17⟩, al1_18⟩ := al1_17.cons
  obtain ⟨x1_18, c1_19, rfl, ⟨a1_18, rfl, w1_18⟩, al1_19⟩ := al1_18.cons
  obtain ⟨x1_19, c1_20, rfl, ⟨a1_19, rfl, w1_19⟩, al1_20⟩ := al1_19.cons
  obtain ⟨x1_20, c1_21, rfl, ⟨a1_20, rfl, w1_20⟩, al1_21⟩ := al1_20.cons
  obtain ⟨x1_21, c1_22, rfl, ⟨a1_21, rfl, w1_21⟩, al1_22⟩ := al1_21.cons
  obtain rfl := al1_22.nil
  obtain ⟨c2_0, rfl, al2_0, rfl⟩ := Frame.open_leaves (P := Tryz.prog) 8 (show Frame.leaves Tryz.prog 8 32 = some [.int .i64, .int .i64] from by kernel_rfl) (Frame.agg_of_array Tryz.underlying32 (hval 2 32 v2 rfl rfl)) h2
  obtain ⟨x2_0, c2_1, rfl, ⟨a2_0, rfl, w2_0⟩, al2_1⟩ := al2_0.cons
  obtain ⟨x2_1, c2_2, rfl, ⟨a2_1, rfl, w2_1⟩, al2_2⟩ := al2_1.cons
  obtain rfl := al2_2.nil
  clear hA0 hval0
  refine (Worth.tells_law a0_0 a0_1 a0_2 a0_3 a0_4 a0_5 a0_6 a0_7 a0_8 a0_9 a0_10 a0_11 a0_12 a0_13 a0_14 a0_15 a0_16 a0_17 a0_18 a0_19 a0_20 a0_21 a1_0 a1_1 a1_2 a1_3 a1_4 a1_5 a1_6 a1_7 a1_8 a1_9 a1_10 a1_11 a1_12 a1_13 a1_14 a1_15 a1_16 a1_17 a1_18 a1_19 a1_20 a1_21 a2_0 a2_1 W (Worth.env_of_laid hL) (bounds_i64 w0_0) (bounds_i64 w0_1) (bounds_i64 w0_2) (bounds_i64 w0_3) (bounds_i64 w0_4) (bounds_i64 w0_5) (bounds_i64 w0_6) (bounds_i64 w0_7) (bounds_i64 w0_8) (bounds_i64 w0_9) (bounds_i64 w0_10) (bounds_i64 w0_11) (bounds_i64 w0_12) (bounds_i64 w0_13) (bounds_i64 w0_14) (bounds_i64 w0_15) (bounds_i64 w0_16) (bounds_i64 w0_17) (bounds_i64 w0_18) (bounds_i64 w0_19) (bounds_i64 w0_20) (bounds_i64 w0_21) (bounds_i64 w1_0) (bounds_i64 w1_1) (bounds_i64 w1_2) (bounds_i64 w1_3) (bounds_i64 w1_4) (bounds_i64 w1_5) (bounds_i64 w1_6) (bounds_i64 w1_7) (bounds_i64 w1_8) (bounds_i64 w1_9) (bounds_i64 w1_10) (bounds_i64 w1_11) (bounds_i64 w1_12) (bounds_i64 w1_13) (bounds_i64 w1_14) (bounds_i64 w1_15) (bounds_i64 w1_16) (bounds_i64 w1_17) (bounds_i64 w1_18) (bounds_i64 w1_19) (bounds_i64 w1_20) (bounds_i64 w1_21) (bounds_i64 w2_0) (bounds_i64 w2_1)).mono fun e W' ⟨he, bel⟩ => ?_
  subst he
  exact ⟨_, rfl, _, _, _, [], _, [], hW', trodAll_mk1 (shut_bool Tryz.underlying4 _), (trodAll_cons_mk (Below.trod laidOut (by kernel_rfl) (of_decide_eq_true (by kernel_rfl)) h0 bel (fun _ hx => by cases hx)) (trodAll_cons_mk (Below.trod laidOut (by kernel_rfl) (of_decide_eq_true (by kernel_rfl)) h1 bel (fun _ hx => by cases hx)) (trodAll_cons_mk (Below.trod laidOut (by kernel_rfl) (of_decide_eq_true (by kernel_rfl)) h2 bel (fun _ hx => by cases hx)) trodAll_mk0))), rfl, bel.frame _, fun h => by cases h⟩

theorem over : Rows.worthTellsRow.holds Tryz.pinned (OpenSpec.ofChange Rows.worthTellsSpec) :=
  OpenClaim.holds_of_wide 3 Tryz.f3 rfl rfl rfl rfl rfl rfl rfl ⟨rfl, rfl, rfl, rfl, rfl⟩ rfl rfl rfl rfl rfl (by kernel_rfl) Tryz.func3 (by kernel_rfl)
    (of_decide_eq_true (by kernel_rfl)) (by unfold Func.isWrapper; first | (rw [if_pos (by decide +kernel)]; kernel_rfl) | (rw [if_neg (by decide +kernel)]; exact ⟨rfl, rfl⟩))
    (fun os started H enc _ => lifted os started H enc)

end Go.Proofs.YtndinbefljajcaaGreatDoor.WorthTells
namespace Go.Proofs.YtndinbefljajcaaGreatDoor
theorem worthTells_holds : Rows.WorthTellsCardSaid :=
  Claim7.holds_tied_plain_at .later [] [.data, .data, .data, .data, .data] true (true, "e6f8beda42de8038fb9cd6b862c2bdb90555d7a72680f43947f6359f0b8d246b") false WorthTells.over (fun _ h => by cases h) (by kernel_rfl) (fun _ h => by cases h) worthTells_row_tie rfl ⟨rfl, rfl⟩ (by kernel_rfl) rfl
    (fun f fn hf hfn => by
      obtain rfl : f = 3 := Option.some.inj ((show Tryz.prog.funcNamed "drachm/drachmlaw04.WorthTells" = some 3 by kernel_rfl).symm.trans hf) |>.symm
      obtain rfl : fn = Tryz.f3 := (Option.some.inj (Tryz.func3.symm.trans hfn)).symm
      exact ⟨by kernel_rfl, fun j t ht => by
        rw [Tryz.params3] at ht
        have hm : t ∈ [26, 31, 32] := by simpa using Array.mem_of_getElem? ht
        have hall : ([26, 31, 32].all fun u => !Tryz.prog.wantsStandIn u) = true := by kernel_rfl
        exact (show Tryz.prog.wantsStandIn t = false by simpa using List.all_eq_true.1 hall t hm)⟩)
    (by kernel_rfl)
end Go.Proofs.YtndinbefljajcaaGreatDoor
#print axioms Go.Proofs.YtndinbefljajcaaGreatDoor.worthTells_holds
