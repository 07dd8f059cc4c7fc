/-
  Contracts of whole.Mul: the product where it is a whole number, else 0 and false; the world stays as it was.
-/
import Derived.Test.YtjklbnakgkffnaaDoorW1
import Derived.Deep.RegionWith
namespace Go.Proofs.YtjklbnakgkffnaaDoor.Whole
open Go.RowKit
set_option linter.unusedVariables false
set_option linter.unusedSimpArgs false

/-- Mul64 where the product fits an int64. -/
theorem mul64_lo (x y p : Int) (w : World) (hx : 0 ≤ x) (hx' : x ≤ 9223372036854775807) (hy : 0 ≤ y) (hy' : y ≤ 9223372036854775807) (hp : Hid (x * y = p)) (hp' : p ≤ 9223372036854775807) :
    Calls Tryd.prog 108 #[.int .u64 x, .int .u64 y] w fun e w' => e = .returned (.tuple #[.int .u64 0, .int .u64 p]) ∧ w = w' := by
  obtain ⟨m, rfl⟩ := Int.eq_ofNat_of_zero_le hx
  obtain ⟨n, rfl⟩ := Int.eq_ofNat_of_zero_le hy
  have e : ((m * n : Nat) : Int) = p := by rw [Int.natCast_mul]; exact hp.out
  have h := mul64_nat m n (by omega) (by omega) w
  rw [show m * n / 18446744073709551616 = 0 from by omega, show m * n % 18446744073709551616 = m * n from by omega, e] at h
  exact h

/-- Mul64 where it does not: the upper half, or the lower one, says so. -/
theorem mul64_over (x y : Int) (w : World) (hx : 0 ≤ x) (hx' : x ≤ 9223372036854775807) (hy : 0 ≤ y) (hy' : y ≤ 9223372036854775807) (hp : Hid (9223372036854775807 < x * y)) :
    Calls Tryd.prog 108 #[.int .u64 x, .int .u64 y] w fun e w' => (∃ hi lo : Int, e = .returned (.tuple #[.int .u64 hi, .int .u64 lo]) ∧ (hi ≠ 0 ∨ hi = 0 ∧ 9223372036854775807 < lo)) ∧ w = w' := by
  obtain ⟨m, rfl⟩ := Int.eq_ofNat_of_zero_le hx
  obtain ⟨n, rfl⟩ := Int.eq_ofNat_of_zero_le hy
  have e : 9223372036854775807 < ((m * n : Nat) : Int) := by rw [Int.natCast_mul]; exact hp.out
  refine (mul64_nat m n (by omega) (by omega) w).mono ?_
  rintro e w' ⟨rfl, rfl⟩
  exact ⟨⟨_, _, rfl, by omega⟩, rfl⟩

set_option maxHeartbeats 400000 in
theorem mul_core (a b p : Int) (w : World) (ha : -9223372036854775807 ≤ a) (hb : -9223372036854775807 ≤ b) (ha' : a ≤ 9223372036854775807) (hb' : b ≤ 9223372036854775807) (hp : Hid (a * b = p)) (h1 : -9223372036854775807 ≤ p) (h2 : p ≤ 9223372036854775807) :
    Calls Tryd.prog 87 #[.int .i64 a, .int .i64 b] w fun e w' => e = .returned (.tuple #[.int .i64 p, .bool true]) ∧ w = w' := by
  by_cases hsa : a < 0
  · by_cases hsb : b < 0
    · have h0 : 0 ≤ p := by rw [← hp.out]; exact Int.mul_nonneg_of_nonpos_of_nonpos (by omega) (by omega)
      have q : Hid ((-a) * (-b) = p) := by show (-a) * (-b) = p; rw [Int.neg_mul_neg]; exact hp
      have da : decide (a < 0) = true := by simp; omega
      have db : decide (b < 0) = true := by simp; omega
      go_enter Tryd.func87, Tryd.ntmps87
      go_wp2_with (first
        | (go_at_call 59; ((with_reducible refine (fits_yes _ _ (by omega)).mono ?_); rintro e w' ⟨rfl, rfl⟩))
        | (go_at_call 107; ((with_reducible refine (size_neg _ _ (by omega) (by omega)).mono ?_); rintro e w' ⟨rfl, rfl⟩))
        | (go_at_call 108; ((with_reducible refine (mul64_lo _ _ p _ (by omega) (by omega) (by omega) (by omega) q h2).mono ?_); rintro e w' ⟨rfl, rfl⟩)))
      all_goals go_ret2
      all_goals exact ⟨rfl, rfl⟩
    · have h0 : p ≤ 0 := by rw [← hp.out]; exact Int.mul_nonpos_of_nonpos_of_nonneg (by omega) (by omega)
      have q : Hid ((-a) * b = -p) := by show (-a) * b = -p; rw [Int.neg_mul, hp.out]
      have h2' : -p ≤ 9223372036854775807 := by omega
      have da : decide (a < 0) = true := by simp; omega
      have db : decide (b < 0) = false := by simp; omega
      go_enter Tryd.func87, Tryd.ntmps87
      go_wp2_with (first
        | (go_at_call 59; ((with_reducible refine (fits_yes _ _ (by omega)).mono ?_); rintro e w' ⟨rfl, rfl⟩))
        | (go_at_call_of 107 (Value.int IntKind.i64 a); ((with_reducible refine (size_neg _ _ (by omega) (by omega)).mono ?_); rintro e w' ⟨rfl, rfl⟩))
        | (go_at_call_of 107 (Value.int IntKind.i64 b); ((with_reducible refine (size_pos _ _ (by omega)).mono ?_); rintro e w' ⟨rfl, rfl⟩))
        | (go_at_call 108; ((with_reducible refine (mul64_lo _ _ (-p) _ (by omega) (by omega) (by omega) (by omega) q h2').mono ?_); rintro e w' ⟨rfl, rfl⟩)))
      all_goals go_ret2
      all_goals exact ⟨by simp, rfl⟩
  · by_cases hsb : b < 0
    · have h0 : p ≤ 0 := by rw [← hp.out]; exact Int.mul_nonpos_of_nonneg_of_nonpos (by omega) (by omega)
      have q : Hid (a * (-b) = -p) := by show a * (-b) = -p; rw [Int.mul_neg, hp.out]
      have h2' : -p ≤ 9223372036854775807 := by omega
      have da : decide (a < 0) = false := by simp; omega
      have db : decide (b < 0) = true := by simp; omega
      go_enter Tryd.func87, Tryd.ntmps87
      go_wp2_with (first
        | (go_at_call 59; ((with_reducible refine (fits_yes _ _ (by omega)).mono ?_); rintro e w' ⟨rfl, rfl⟩))
        | (go_at_call_of 107 (Value.int IntKind.i64 b); ((with_reducible refine (size_neg _ _ (by omega) (by omega)).mono ?_); rintro e w' ⟨rfl, rfl⟩))
        | (go_at_call_of 107 (Value.int IntKind.i64 a); ((with_reducible refine (size_pos _ _ (by omega)).mono ?_); rintro e w' ⟨rfl, rfl⟩))
        | (go_at_call 108; ((with_reducible refine (mul64_lo _ _ (-p) _ (by omega) (by omega) (by omega) (by omega) q h2').mono ?_); rintro e w' ⟨rfl, rfl⟩)))
      all_goals go_ret2
      all_goals exact ⟨by simp, rfl⟩
    · have h0 : 0 ≤ p := by rw [← hp.out]; exact Int.mul_nonneg (by omega) (by omega)
      have da : decide (a < 0) = false := by simp; omega
      have db : decide (b < 0) = false := by simp; omega
      go_enter Tryd.func87, Tryd.ntmps87
      go_wp2_with (first
        | (go_at_call 59; ((with_reducible refine (fits_yes _ _ (by omega)).mono ?_); rintro e w' ⟨rfl, rfl⟩))
        | (go_at_call 107; ((with_reducible refine (size_pos _ _ (by omega)).mono ?_); rintro e w' ⟨rfl, rfl⟩))
        | (go_at_call 108; ((with_reducible refine (mul64_lo _ _ p _ (by omega) (by omega) (by omega) (by omega) hp h2).mono ?_); rintro e w' ⟨rfl, rfl⟩)))
      all_goals go_ret2
      all_goals exact ⟨rfl, rfl⟩

theorem mul_yes (a b : Int) (w : World) (ha : -9223372036854775807 ≤ a) (hb : -9223372036854775807 ≤ b) (ha' : a ≤ 9223372036854775807) (hb' : b ≤ 9223372036854775807) (h1 : -9223372036854775807 ≤ a * b) (h2 : a * b ≤ 9223372036854775807) :
    Calls Tryd.prog 87 #[.int .i64 a, .int .i64 b] w fun e w' => e = .returned (.tuple #[.int .i64 (a * b), .bool true]) ∧ w = w' :=
  mul_core a b (a * b) w ha hb ha' hb' (Lib.hid rfl) h1 h2

set_option maxHeartbeats 400000 in
theorem mul_no1 (a b : Int) (w : World) (ha : a < -9223372036854775807) :
    Calls Tryd.prog 87 #[.int .i64 a, .int .i64 b] w fun e w' => e = .returned (.tuple #[.int .i64 0, .bool false]) ∧ w = w' := by
  go_enter Tryd.func87, Tryd.ntmps87
  go_wp2_with (go_at_call 59; ((with_reducible refine (fits_no _ _ ha).mono ?_); rintro e w' ⟨rfl, rfl⟩))
  all_goals go_ret2
  all_goals exact ⟨rfl, rfl⟩

set_option maxHeartbeats 400000 in
theorem mul_no2 (a b : Int) (w : World) (ha : -9223372036854775807 ≤ a) (hb : b < -9223372036854775807) :
    Calls Tryd.prog 87 #[.int .i64 a, .int .i64 b] w fun e w' => e = .returned (.tuple #[.int .i64 0, .bool false]) ∧ w = w' := by
  go_enter Tryd.func87, Tryd.ntmps87
  go_wp2_with (first
    | (go_at_call_of 59 (Value.int IntKind.i64 b); ((with_reducible refine (fits_no _ _ hb).mono ?_); rintro e w' ⟨rfl, rfl⟩))
    | (go_at_call_of 59 (Value.int IntKind.i64 a); ((with_reducible refine (fits_yes _ _ ha).mono ?_); rintro e w' ⟨rfl, rfl⟩)))
  all_goals go_ret2
  all_goals exact ⟨rfl, rfl⟩

set_option maxHeartbeats 400000 in
theorem mul_no3 (a b : Int) (w : World) (ha : -9223372036854775807 ≤ a) (hb : -9223372036854775807 ≤ b) (ha' : a ≤ 9223372036854775807) (hb' : b ≤ 9223372036854775807) (h : Hid (9223372036854775807 < (a.natAbs : Int) * (b.natAbs : Int))) :
    Calls Tryd.prog 87 #[.int .i64 a, .int .i64 b] w fun e w' => e = .returned (.tuple #[.int .i64 0, .bool false]) ∧ w = w' := by
  have na : (a.natAbs : Int) ≤ 9223372036854775807 := by omega
  have nb : (b.natAbs : Int) ≤ 9223372036854775807 := by omega
  have na0 : 0 ≤ (a.natAbs : Int) := by omega
  have nb0 : 0 ≤ (b.natAbs : Int) := by omega
  go_enter Tryd.func87, Tryd.ntmps87
  go_wp2_with (first
    | (go_at_call 59; ((with_reducible refine (fits_yes _ _ (by omega)).mono ?_); rintro e w' ⟨rfl, rfl⟩))
    | (go_at_call_of 107 (Value.int IntKind.i64 a); ((with_reducible refine (size_any a _ ha).mono ?_); rintro e w' ⟨rfl, rfl⟩; generalize (a.natAbs : Int) = x at *))
    | (go_at_call_of 107 (Value.int IntKind.i64 b); ((with_reducible refine (size_any b _ hb).mono ?_); rintro e w' ⟨rfl, rfl⟩; generalize (b.natAbs : Int) = y at *))
    | (go_at_call 108; ((with_reducible refine (mul64_over _ _ _ (by assumption) (by assumption) (by assumption) (by assumption) h).mono ?_); rintro e w' ⟨⟨hi, lo, rfl, hb⟩, rfl⟩; rcases hb with hb | ⟨rfl, hb⟩)))
  all_goals go_ret2
  all_goals exact ⟨rfl, rfl⟩

theorem mul_no (a b : Int) (w : World) (ha' : a ≤ 9223372036854775807) (hb' : b ≤ 9223372036854775807)
    (h : a < -9223372036854775807 ∨ b < -9223372036854775807 ∨ a * b < -9223372036854775807 ∨ 9223372036854775807 < a * b) :
    Calls Tryd.prog 87 #[.int .i64 a, .int .i64 b] w fun e w' => e = .returned (.tuple #[.int .i64 0, .bool false]) ∧ w = w' := by
  by_cases h1 : a < -9223372036854775807
  · exact mul_no1 a b w h1
  by_cases h2 : b < -9223372036854775807
  · exact mul_no2 a b w (by omega) h2
  refine mul_no3 a b w (by omega) (by omega) ha' hb' ?_
  show 9223372036854775807 < (a.natAbs : Int) * (b.natAbs : Int)
  rw [← Int.natCast_mul, ← Int.natAbs_mul]
  generalize a * b = p at *
  omega
end Go.Proofs.YtjklbnakgkffnaaDoor.Whole
