/-
  The walks of the laws WholeSums, WholeProducts, WholeDivides, WholeSplits, WholeScales: each returns true, for every argument of its kind; old memory stays.
-/
import Derived.Test.YtlpkpmpkbinfoaaW4
import Derived.WalkSmall
namespace Go.Proofs.Ytlpkpmpkbinfoaa.Whole
open Go.RowKit
set_option linter.unusedVariables false

set_option maxHeartbeats 400000 in
theorem sums_walk (a b : Int) (w : World) (ba : -9223372036854775808 ≤ a ∧ a ≤ 9223372036854775807) (bb : -9223372036854775808 ≤ b ∧ b ≤ 9223372036854775807) :
    Calls Try.prog 4 #[.int .i64 a, .int .i64 b] w fun e w' => e = .returned (.bool true) ∧ Below w.heap.size w w' := by
  obtain ⟨a1, a2⟩ := ba
  obtain ⟨b1, b2⟩ := bb
  have hm : ∃ (p : Int) (o : Bool), (∀ w, Calls Try.prog 13 #[.int .i64 a, .int .i64 b] w fun e w' => e = .returned (.tuple #[.int .i64 p, .bool o]) ∧ w = w') ∧ (∀ w, Calls Try.prog 13 #[.int .i64 b, .int .i64 a] w fun e w' => e = .returned (.tuple #[.int .i64 p, .bool o]) ∧ w = w') := by
    by_cases h : -9223372036854775807 ≤ a ∧ -9223372036854775807 ≤ b ∧ -9223372036854775807 ≤ a * b ∧ a * b ≤ 9223372036854775807
    · obtain ⟨h1, h2, h3, h4⟩ := h
      exact ⟨a * b, true, fun w => mul_core a b (a * b) w h1 h2 a2 b2 (Lib.hid rfl) h3 h4, fun w => mul_core b a (a * b) w h2 h1 b2 a2 (Lib.hid (Int.mul_comm b a)) h3 h4⟩
    · have hc := Int.mul_comm b a
      refine ⟨0, false, fun w => mul_no a b w a2 b2 ?_, fun w => mul_no b a w b2 a2 ?_⟩
      · generalize a * b = p at *; omega
      · rw [hc]; generalize a * b = p at *; omega
  obtain ⟨p, o, m1, m2⟩ := hm
  have M1 := Lib.hid m1
  have M2 := Lib.hid m2
  clear m1 m2
  by_cases h : -9223372036854775807 ≤ a ∧ -9223372036854775807 ≤ b ∧ -9223372036854775807 ≤ a + b ∧ a + b ≤ 9223372036854775807
  · obtain ⟨h1, h2, h3, h4⟩ := h
    go_enter Try.func4, Try.ntmps4
    go_wp2_with fail
    refine (awake_yes _).mono ?_
    rintro e w' ⟨rfl, n0, rfl⟩
    go_wp2_with fail
    refine (add_yes a b _ h1 h2 a2 b2 h3 h4).mono ?_
    rintro e w' ⟨rfl, rfl⟩
    go_wp2_with fail
    refine (add_yes b a _ h2 h1 b2 a2 (by omega) (by omega)).mono ?_
    rintro e w' ⟨rfl, rfl⟩
    rw [Int.add_comm b a]
    go_wp2_with fail
    refine (M1.out _).mono ?_
    rintro e w' ⟨rfl, rfl⟩
    go_wp2_with fail
    refine (M2.out _).mono ?_
    rintro e w' ⟨rfl, rfl⟩
    go_wp2_with fail
    refine (add_no _ _ _ (by omega) (by omega) (by omega)).mono ?_
    rintro e w' ⟨rfl, rfl⟩
    go_wp2_with fail
    refine (add_no _ _ _ (by omega) (by omega) (by omega)).mono ?_
    rintro e w' ⟨rfl, rfl⟩
    go_wp2_with fail
    refine (add_yes (a + b) (-b) _ h3 (by omega) h4 (by omega) (by omega) (by omega)).mono ?_
    rintro e w' ⟨rfl, rfl⟩
    rw [show a + b + -b = a from by omega]
    go_wp2_with fail
    go_ret
    exact ⟨rfl, below_drewN (Below.refl _ _) _⟩
  · have h' : a < -9223372036854775807 ∨ b < -9223372036854775807 ∨ a + b < -9223372036854775807 ∨ 9223372036854775807 < a + b := by omega
    have h'' : b < -9223372036854775807 ∨ a < -9223372036854775807 ∨ b + a < -9223372036854775807 ∨ 9223372036854775807 < b + a := by omega
    clear h
    go_enter Try.func4, Try.ntmps4
    go_wp2_with fail
    refine (awake_yes _).mono ?_
    rintro e w' ⟨rfl, n0, rfl⟩
    go_wp2_with fail
    refine (add_no a b _ a2 b2 h').mono ?_
    rintro e w' ⟨rfl, rfl⟩
    go_wp2_with fail
    refine (add_no b a _ b2 a2 h'').mono ?_
    rintro e w' ⟨rfl, rfl⟩
    go_wp2_with fail
    refine (M1.out _).mono ?_
    rintro e w' ⟨rfl, rfl⟩
    go_wp2_with fail
    refine (M2.out _).mono ?_
    rintro e w' ⟨rfl, rfl⟩
    go_wp2_with fail
    refine (add_no _ _ _ (by omega) (by omega) (by omega)).mono ?_
    rintro e w' ⟨rfl, rfl⟩
    go_wp2_with fail
    refine (add_no _ _ _ (by omega) (by omega) (by omega)).mono ?_
    rintro e w' ⟨rfl, rfl⟩
    go_wp2_with fail
    go_ret
    exact ⟨rfl, below_drewN (Below.refl _ _) _⟩
end Go.Proofs.Ytlpkpmpkbinfoaa.Whole
