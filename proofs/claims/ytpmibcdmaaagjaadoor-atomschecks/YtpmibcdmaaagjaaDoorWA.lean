/-
  The contract of math/bits.Mul64: for all x, y below 2^64 it returns x * y / 2^64 and x * y % 2^64; the world stays. Contracts of whole.Fits, whole.size, whole.Add, whole.Mul, whole.Gcd, whole.Split: what each returns, for every argument of its kind; the world stays as it was. Contracts of whole.Mul: the product where it is a whole number, else 0 and false; the world stays as it was. Contracts of whole.common (int64), whole.Gcd, whole.Split: the greatest common divisor; how often one number divides another, and what is left; the world stays as it was, but for draws of an order.
-/
import Derived.Test.YtpmibcdmaaagjaaDoorChecked
import Derived.WalkKit
import Derived.WalkSpells
import Derived.Test.YtpmibcdmaaagjaaDoorM
import Derived.Lib.Hide
import Derived.BigQuiet
import Derived.Deep.QuietTactic
import Derived.Deep.RegionWith
namespace Go.Proofs.YtpmibcdmaaagjaaDoor.Whole
open Go.RowKit
set_option linter.unusedVariables false
set_option linter.unusedSimpArgs false

/-- The lower half of a word, of whatever number. -/
theorem low32 (n : Int) : bits .and .u64 n 4294967295 = n % 4294967296 := by
  have h : (BitVec.ofInt 64 4294967295).toNat = 2 ^ 32 - 1 := by decide
  have key : (BitVec.ofInt 64 n &&& BitVec.ofInt 64 4294967295).toNat = (n % ((2 ^ 64 : Nat) : Int)).toNat % 2 ^ 32 := by
    rw [BitVec.toNat_and, BitVec.toNat_ofInt, h, Nat.and_two_pow_sub_one_eq_mod]
  show IntKind.u64.wrap ((BitVec.ofInt 64 n &&& BitVec.ofInt 64 4294967295).toNat : Nat) = n % 4294967296
  rw [key, IntKind.wrap_u64]
  omega

/-- A product of two half words. -/
theorem half_le (a b : Int) (ha : 0 ≤ a) (ha' : a ≤ 4294967295) (hb : 0 ≤ b) (hb' : b ≤ 4294967295) : 0 ≤ a * b ∧ a * b ≤ 18446744065119617025 :=
  ⟨Int.mul_nonneg ha hb, by have := Int.mul_le_mul ha' hb' hb (by omega); omega⟩

/-- A product by halves. -/
theorem by_halves (x y : Int) : x * y = (x / 4294967296) * (y / 4294967296) * 18446744073709551616 + ((x / 4294967296) * (y % 4294967296) + (x % 4294967296) * (y / 4294967296)) * 4294967296 + (x % 4294967296) * (y % 4294967296) := by
  have hx : x = (x / 4294967296) * 4294967296 + x % 4294967296 := by omega
  have hy : y = (y / 4294967296) * 4294967296 + y % 4294967296 := by omega
  generalize x / 4294967296 = p at *
  generalize x % 4294967296 = q at *
  generalize y / 4294967296 = r at *
  generalize y % 4294967296 = s at *
  subst hx hy
  rw [Int.add_mul, Int.mul_add, Int.mul_add]
  have e1 : p * 4294967296 * (r * 4294967296) = p * r * (4294967296 * 4294967296) := by rw [Int.mul_assoc p, Int.mul_left_comm 4294967296 r, ← Int.mul_assoc]
  have e2 : p * 4294967296 * s = p * s * 4294967296 := Int.mul_right_comm ..
  have e3 : q * (r * 4294967296) = q * r * 4294967296 := (Int.mul_assoc ..).symm
  omega

/-- The upper half, as the program reckons it. -/
theorem upper (x y : Int) (hx : 0 ≤ x) (hx' : x < 18446744073709551616) (hy : 0 ≤ y) (hy' : y < 18446744073709551616) :
    IntKind.u64.wrap (IntKind.u64.wrap (IntKind.u64.wrap (x / 4294967296 * (y / 4294967296)) + IntKind.u64.wrap (IntKind.u64.wrap (x / 4294967296 * bits .and .u64 y 4294967295) + IntKind.u64.wrap (bits .and .u64 x 4294967295 * bits .and .u64 y 4294967295) / 4294967296) / 4294967296) +
      IntKind.u64.wrap (bits .and .u64 (IntKind.u64.wrap (IntKind.u64.wrap (x / 4294967296 * bits .and .u64 y 4294967295) + IntKind.u64.wrap (bits .and .u64 x 4294967295 * bits .and .u64 y 4294967295) / 4294967296)) 4294967295 + IntKind.u64.wrap (bits .and .u64 x 4294967295 * (y / 4294967296))) / 4294967296) = x * y / 18446744073709551616 := by
  simp only [low32, IntKind.wrap_u64]
  rw [by_halves x y]
  have a := half_le (x / 4294967296) (y / 4294967296) (by omega) (by omega) (by omega) (by omega)
  have b := half_le (x / 4294967296) (y % 4294967296) (by omega) (by omega) (by omega) (by omega)
  have c := half_le (x % 4294967296) (y / 4294967296) (by omega) (by omega) (by omega) (by omega)
  have d := half_le (x % 4294967296) (y % 4294967296) (by omega) (by omega) (by omega) (by omega)
  generalize (x / 4294967296) * (y / 4294967296) = A at *
  generalize (x / 4294967296) * (y % 4294967296) = B at *
  generalize (x % 4294967296) * (y / 4294967296) = C at *
  generalize (x % 4294967296) * (y % 4294967296) = D at *
  omega

set_option maxHeartbeats 400000 in
theorem mul64_int (x y : Int) (hx : 0 ≤ x) (hx' : x < 18446744073709551616) (hy : 0 ≤ y) (hy' : y < 18446744073709551616) (w : World) :
    Calls Tryd.prog 62 #[.int .u64 x, .int .u64 y] w fun e w' => e = .returned (.tuple #[.int .u64 (x * y / 18446744073709551616), .int .u64 (x * y % 18446744073709551616)]) ∧ w = w' := by
  have hu := upper x y hx hx' hy hy'
  have hl : IntKind.u64.wrap (x * y) = x * y % 18446744073709551616 := by rw [IntKind.wrap_u64]
  rw [← hu, ← hl]
  clear hu hl
  go_enter Tryd.func62, Tryd.ntmps62
  go_wp2
  go_ret2
  exact ⟨rfl, rfl⟩

theorem mul64_nat (x y : Nat) (hx : x < 18446744073709551616) (hy : y < 18446744073709551616) (w : World) :
    Calls Tryd.prog 62 #[.int .u64 x, .int .u64 y] w fun e w' => e = .returned (.tuple #[.int .u64 ((x * y / 18446744073709551616 : Nat) : Int), .int .u64 ((x * y % 18446744073709551616 : Nat) : Int)]) ∧ w = w' := by
  have h := mul64_int x y (by omega) (by omega) (by omega) (by omega) w
  rw [← Int.natCast_mul] at h
  exact h

end Go.Proofs.YtpmibcdmaaagjaaDoor.Whole

namespace Go.Proofs.YtpmibcdmaaagjaaDoor.Whole
open Go.RowKit
set_option linter.unusedVariables false
set_option linter.unusedSimpArgs false

set_option maxHeartbeats 400000 in
theorem fits_yes (n : Int) (w : World) (h : -9223372036854775807 ≤ n) :
    Calls Tryd.prog 46 #[.int .i64 n] w fun e w' => e = .returned (.bool true) ∧ w = w' := by
  go_enter Tryd.func46, Tryd.ntmps46
  go_wp2
  go_ret
  exact ⟨rfl, rfl⟩

set_option maxHeartbeats 400000 in
theorem fits_no (n : Int) (w : World) (h : n < -9223372036854775807) :
    Calls Tryd.prog 46 #[.int .i64 n] w fun e w' => e = .returned (.bool false) ∧ w = w' := by
  have hb : decide (-9223372036854775807 ≤ n) = false := by simp; omega
  go_enter Tryd.func46, Tryd.ntmps46
  go_wp2
  go_ret
  exact ⟨rfl, rfl⟩

set_option maxHeartbeats 400000 in
theorem size_neg (n : Int) (w : World) (h : n < 0) (h2 : -9223372036854775807 ≤ n) :
    Calls Tryd.prog 61 #[.int .i64 n] w fun e w' => e = .returned (.int .i64 (-n)) ∧ w = w' := by
  go_enter Tryd.func61, Tryd.ntmps61
  go_wp2
  go_ret
  exact ⟨rfl, rfl⟩

set_option maxHeartbeats 400000 in
theorem size_pos (n : Int) (w : World) (h : 0 ≤ n) :
    Calls Tryd.prog 61 #[.int .i64 n] w fun e w' => e = .returned (.int .i64 n) ∧ w = w' := by
  go_enter Tryd.func61, Tryd.ntmps61
  go_wp2
  go_ret
  exact ⟨rfl, rfl⟩

/-- The size of a whole number, by one contract. -/
theorem size_any (n : Int) (w : World) (h2 : -9223372036854775807 ≤ n) :
    Calls Tryd.prog 61 #[.int .i64 n] w fun e w' => e = .returned (.int .i64 (n.natAbs : Int)) ∧ w = w' := by
  by_cases h : n < 0
  · rw [show (n.natAbs : Int) = -n from by omega]; exact size_neg n w h h2
  · rw [show (n.natAbs : Int) = n from by omega]; exact size_pos n w (by omega)

end Go.Proofs.YtpmibcdmaaagjaaDoor.Whole

namespace Go.Proofs.YtpmibcdmaaagjaaDoor.Whole
open Go.RowKit
set_option linter.unusedVariables false
set_option linter.unusedSimpArgs false

/-- Mul64 where the product fits an int64. -/
theorem mul64_lo (x y p : Int) (w : World) (hx : 0 ≤ x) (hx' : x ≤ 9223372036854775807) (hy : 0 ≤ y) (hy' : y ≤ 9223372036854775807) (hp : Hid (x * y = p)) (hp' : p ≤ 9223372036854775807) :
    Calls Tryd.prog 62 #[.int .u64 x, .int .u64 y] w fun e w' => e = .returned (.tuple #[.int .u64 0, .int .u64 p]) ∧ w = w' := by
  obtain ⟨m, rfl⟩ := Int.eq_ofNat_of_zero_le hx
  obtain ⟨n, rfl⟩ := Int.eq_ofNat_of_zero_le hy
  have e : ((m * n : Nat) : Int) = p := by rw [Int.natCast_mul]; exact hp.out
  have h := mul64_nat m n (by omega) (by omega) w
  rw [show m * n / 18446744073709551616 = 0 from by omega, show m * n % 18446744073709551616 = m * n from by omega, e] at h
  exact h

/-- Mul64 where it does not: the upper half, or the lower one, says so. -/
theorem mul64_over (x y : Int) (w : World) (hx : 0 ≤ x) (hx' : x ≤ 9223372036854775807) (hy : 0 ≤ y) (hy' : y ≤ 9223372036854775807) (hp : Hid (9223372036854775807 < x * y)) :
    Calls Tryd.prog 62 #[.int .u64 x, .int .u64 y] w fun e w' => (∃ hi lo : Int, e = .returned (.tuple #[.int .u64 hi, .int .u64 lo]) ∧ (hi ≠ 0 ∨ hi = 0 ∧ 9223372036854775807 < lo)) ∧ w = w' := by
  obtain ⟨m, rfl⟩ := Int.eq_ofNat_of_zero_le hx
  obtain ⟨n, rfl⟩ := Int.eq_ofNat_of_zero_le hy
  have e : 9223372036854775807 < ((m * n : Nat) : Int) := by rw [Int.natCast_mul]; exact hp.out
  refine (mul64_nat m n (by omega) (by omega) w).mono ?_
  rintro e w' ⟨rfl, rfl⟩
  exact ⟨⟨_, _, rfl, by omega⟩, rfl⟩

set_option maxHeartbeats 400000 in
theorem mul_core (a b p : Int) (w : World) (ha : -9223372036854775807 ≤ a) (hb : -9223372036854775807 ≤ b) (ha' : a ≤ 9223372036854775807) (hb' : b ≤ 9223372036854775807) (hp : Hid (a * b = p)) (h1 : -9223372036854775807 ≤ p) (h2 : p ≤ 9223372036854775807) :
    Calls Tryd.prog 58 #[.int .i64 a, .int .i64 b] w fun e w' => e = .returned (.tuple #[.int .i64 p, .bool true]) ∧ w = w' := by
  by_cases hsa : a < 0
  · by_cases hsb : b < 0
    · have h0 : 0 ≤ p := by rw [← hp.out]; exact Int.mul_nonneg_of_nonpos_of_nonpos (by omega) (by omega)
      have q : Hid ((-a) * (-b) = p) := by show (-a) * (-b) = p; rw [Int.neg_mul_neg]; exact hp
      have da : decide (a < 0) = true := by simp; omega
      have db : decide (b < 0) = true := by simp; omega
      go_enter Tryd.func58, Tryd.ntmps58
      go_wp2_with (first
        | (go_at_call 46; ((with_reducible refine (fits_yes _ _ (by omega)).mono ?_); rintro e w' ⟨rfl, rfl⟩))
        | (go_at_call 61; ((with_reducible refine (size_neg _ _ (by omega) (by omega)).mono ?_); rintro e w' ⟨rfl, rfl⟩))
        | (go_at_call 62; ((with_reducible refine (mul64_lo _ _ p _ (by omega) (by omega) (by omega) (by omega) q h2).mono ?_); rintro e w' ⟨rfl, rfl⟩)))
      all_goals go_ret2
      all_goals exact ⟨rfl, rfl⟩
    · have h0 : p ≤ 0 := by rw [← hp.out]; exact Int.mul_nonpos_of_nonpos_of_nonneg (by omega) (by omega)
      have q : Hid ((-a) * b = -p) := by show (-a) * b = -p; rw [Int.neg_mul, hp.out]
      have h2' : -p ≤ 9223372036854775807 := by omega
      have da : decide (a < 0) = true := by simp; omega
      have db : decide (b < 0) = false := by simp; omega
      go_enter Tryd.func58, Tryd.ntmps58
      go_wp2_with (first
        | (go_at_call 46; ((with_reducible refine (fits_yes _ _ (by omega)).mono ?_); rintro e w' ⟨rfl, rfl⟩))
        | (go_at_call_of 61 (Value.int IntKind.i64 a); ((with_reducible refine (size_neg _ _ (by omega) (by omega)).mono ?_); rintro e w' ⟨rfl, rfl⟩))
        | (go_at_call_of 61 (Value.int IntKind.i64 b); ((with_reducible refine (size_pos _ _ (by omega)).mono ?_); rintro e w' ⟨rfl, rfl⟩))
        | (go_at_call 62; ((with_reducible refine (mul64_lo _ _ (-p) _ (by omega) (by omega) (by omega) (by omega) q h2').mono ?_); rintro e w' ⟨rfl, rfl⟩)))
      all_goals go_ret2
      all_goals exact ⟨by simp, rfl⟩
  · by_cases hsb : b < 0
    · have h0 : p ≤ 0 := by rw [← hp.out]; exact Int.mul_nonpos_of_nonneg_of_nonpos (by omega) (by omega)
      have q : Hid (a * (-b) = -p) := by show a * (-b) = -p; rw [Int.mul_neg, hp.out]
      have h2' : -p ≤ 9223372036854775807 := by omega
      have da : decide (a < 0) = false := by simp; omega
      have db : decide (b < 0) = true := by simp; omega
      go_enter Tryd.func58, Tryd.ntmps58
      go_wp2_with (first
        | (go_at_call 46; ((with_reducible refine (fits_yes _ _ (by omega)).mono ?_); rintro e w' ⟨rfl, rfl⟩))
        | (go_at_call_of 61 (Value.int IntKind.i64 b); ((with_reducible refine (size_neg _ _ (by omega) (by omega)).mono ?_); rintro e w' ⟨rfl, rfl⟩))
        | (go_at_call_of 61 (Value.int IntKind.i64 a); ((with_reducible refine (size_pos _ _ (by omega)).mono ?_); rintro e w' ⟨rfl, rfl⟩))
        | (go_at_call 62; ((with_reducible refine (mul64_lo _ _ (-p) _ (by omega) (by omega) (by omega) (by omega) q h2').mono ?_); rintro e w' ⟨rfl, rfl⟩)))
      all_goals go_ret2
      all_goals exact ⟨by simp, rfl⟩
    · have h0 : 0 ≤ p := by rw [← hp.out]; exact Int.mul_nonneg (by omega) (by omega)
      have da : decide (a < 0) = false := by simp; omega
      have db : decide (b < 0) = false := by simp; omega
      go_enter Tryd.func58, Tryd.ntmps58
      go_wp2_with (first
        | (go_at_call 46; ((with_reducible refine (fits_yes _ _ (by omega)).mono ?_); rintro e w' ⟨rfl, rfl⟩))
        | (go_at_call 61; ((with_reducible refine (size_pos _ _ (by omega)).mono ?_); rintro e w' ⟨rfl, rfl⟩))
        | (go_at_call 62; ((with_reducible refine (mul64_lo _ _ p _ (by omega) (by omega) (by omega) (by omega) hp h2).mono ?_); rintro e w' ⟨rfl, rfl⟩)))
      all_goals go_ret2
      all_goals exact ⟨rfl, rfl⟩

theorem mul_yes (a b : Int) (w : World) (ha : -9223372036854775807 ≤ a) (hb : -9223372036854775807 ≤ b) (ha' : a ≤ 9223372036854775807) (hb' : b ≤ 9223372036854775807) (h1 : -9223372036854775807 ≤ a * b) (h2 : a * b ≤ 9223372036854775807) :
    Calls Tryd.prog 58 #[.int .i64 a, .int .i64 b] w fun e w' => e = .returned (.tuple #[.int .i64 (a * b), .bool true]) ∧ w = w' :=
  mul_core a b (a * b) w ha hb ha' hb' (Lib.hid rfl) h1 h2

set_option maxHeartbeats 400000 in
theorem mul_no1 (a b : Int) (w : World) (ha : a < -9223372036854775807) :
    Calls Tryd.prog 58 #[.int .i64 a, .int .i64 b] w fun e w' => e = .returned (.tuple #[.int .i64 0, .bool false]) ∧ w = w' := by
  go_enter Tryd.func58, Tryd.ntmps58
  go_wp2_with (go_at_call 46; ((with_reducible refine (fits_no _ _ ha).mono ?_); rintro e w' ⟨rfl, rfl⟩))
  all_goals go_ret2
  all_goals exact ⟨rfl, rfl⟩

set_option maxHeartbeats 400000 in
theorem mul_no2 (a b : Int) (w : World) (ha : -9223372036854775807 ≤ a) (hb : b < -9223372036854775807) :
    Calls Tryd.prog 58 #[.int .i64 a, .int .i64 b] w fun e w' => e = .returned (.tuple #[.int .i64 0, .bool false]) ∧ w = w' := by
  go_enter Tryd.func58, Tryd.ntmps58
  go_wp2_with (first
    | (go_at_call_of 46 (Value.int IntKind.i64 b); ((with_reducible refine (fits_no _ _ hb).mono ?_); rintro e w' ⟨rfl, rfl⟩))
    | (go_at_call_of 46 (Value.int IntKind.i64 a); ((with_reducible refine (fits_yes _ _ ha).mono ?_); rintro e w' ⟨rfl, rfl⟩)))
  all_goals go_ret2
  all_goals exact ⟨rfl, rfl⟩

set_option maxHeartbeats 400000 in
theorem mul_no3 (a b : Int) (w : World) (ha : -9223372036854775807 ≤ a) (hb : -9223372036854775807 ≤ b) (ha' : a ≤ 9223372036854775807) (hb' : b ≤ 9223372036854775807) (h : Hid (9223372036854775807 < (a.natAbs : Int) * (b.natAbs : Int))) :
    Calls Tryd.prog 58 #[.int .i64 a, .int .i64 b] w fun e w' => e = .returned (.tuple #[.int .i64 0, .bool false]) ∧ w = w' := by
  have na : (a.natAbs : Int) ≤ 9223372036854775807 := by omega
  have nb : (b.natAbs : Int) ≤ 9223372036854775807 := by omega
  have na0 : 0 ≤ (a.natAbs : Int) := by omega
  have nb0 : 0 ≤ (b.natAbs : Int) := by omega
  go_enter Tryd.func58, Tryd.ntmps58
  go_wp2_with (first
    | (go_at_call 46; ((with_reducible refine (fits_yes _ _ (by omega)).mono ?_); rintro e w' ⟨rfl, rfl⟩))
    | (go_at_call_of 61 (Value.int IntKind.i64 a); ((with_reducible refine (size_any a _ ha).mono ?_); rintro e w' ⟨rfl, rfl⟩; generalize (a.natAbs : Int) = x at *))
    | (go_at_call_of 61 (Value.int IntKind.i64 b); ((with_reducible refine (size_any b _ hb).mono ?_); rintro e w' ⟨rfl, rfl⟩; generalize (b.natAbs : Int) = y at *))
    | (go_at_call 62; ((with_reducible refine (mul64_over _ _ _ (by assumption) (by assumption) (by assumption) (by assumption) h).mono ?_); rintro e w' ⟨⟨hi, lo, rfl, hb⟩, rfl⟩; rcases hb with hb | ⟨rfl, hb⟩)))
  all_goals go_ret2
  all_goals exact ⟨rfl, rfl⟩

theorem mul_no (a b : Int) (w : World) (ha' : a ≤ 9223372036854775807) (hb' : b ≤ 9223372036854775807)
    (h : a < -9223372036854775807 ∨ b < -9223372036854775807 ∨ a * b < -9223372036854775807 ∨ 9223372036854775807 < a * b) :
    Calls Tryd.prog 58 #[.int .i64 a, .int .i64 b] w fun e w' => e = .returned (.tuple #[.int .i64 0, .bool false]) ∧ w = w' := by
  by_cases h1 : a < -9223372036854775807
  · exact mul_no1 a b w h1
  by_cases h2 : b < -9223372036854775807
  · exact mul_no2 a b w (by omega) h2
  refine mul_no3 a b w (by omega) (by omega) ha' hb' ?_
  show 9223372036854775807 < (a.natAbs : Int) * (b.natAbs : Int)
  rw [← Int.natCast_mul, ← Int.natAbs_mul]
  generalize a * b = p at *
  omega

end Go.Proofs.YtpmibcdmaaagjaaDoor.Whole

namespace Go.Proofs.YtpmibcdmaaagjaaDoor.Whole
open Go.RowKit
set_option linter.unusedVariables false
set_option linter.unusedSimpArgs false

set_option maxHeartbeats 400000 in
theorem common_nat (x y : Nat) (w : World) (hx : x ≤ 9223372036854775807) (hy : y ≤ 9223372036854775807) :
    Calls Tryd.prog 60 #[.int .i64 x, .int .i64 y] w fun e w' => e = .returned (.int .i64 (Nat.gcd x y : Nat)) ∧ ∃ n, w' = w.drewN n := by
  go_enter Tryd.func60, Tryd.ntmps60
  go_wp2
  go_loopw [0, 1] (fun a b v => ∃ m n k : Nat, a = .int .i64 m ∧ b = .int .i64 n ∧ m ≤ 9223372036854775807 ∧ n ≤ 9223372036854775807 ∧ Hid (Nat.gcd m n = Nat.gcd x y) ∧ v = w.drewN k) (fun _ b _ => (intOf b).toNat)
  case atStart => exact ⟨x, y, 0, rfl, rfl, hx, hy, rfl, rfl⟩
  case round =>
    obtain ⟨m, n, k, rfl, rfl, hm, hn, hg, rfl⟩ := hrel
    by_cases hz : n = 0
    · subst hz
      have hb : ((0 : Int) != 0) = false := by decide
      go_wp2
      go_ret
      refine ⟨?_, k, rfl⟩
      have := hg.out; rw [Nat.gcd_zero_right] at this; rw [← this]; rfl
    · have hb : ((n : Int) != 0) = true := by simp; omega
      have hb2 : ((n : Int) == 0) = false := by simp; omega
      have hl : m % n < n := Nat.mod_lt _ (by omega)
      go_wp2
      go_quiet (fail)
      go_wp2
      go_roundw
      case rel =>
        refine ⟨n, m % n, k + nq, rfl, rfl, hn, by omega, ?_, by rw [World.drewN_drewN]⟩
        show Nat.gcd n (m % n) = Nat.gcd x y
        rw [← hg.out, Nat.gcd_comm n, Nat.gcd_comm m n, Nat.gcd_rec n m]
      case measure => simp only [intOf]; omega

theorem common_any (x y : Int) (w : World) (hx0 : 0 ≤ x) (hy0 : 0 ≤ y) (hx : x ≤ 9223372036854775807) (hy : y ≤ 9223372036854775807) :
    Calls Tryd.prog 60 #[.int .i64 x, .int .i64 y] w fun e w' => e = .returned (.int .i64 (Int.gcd x y : Nat)) ∧ ∃ n, w' = w.drewN n := by
  obtain ⟨m, rfl⟩ := Int.eq_ofNat_of_zero_le hx0
  obtain ⟨n, rfl⟩ := Int.eq_ofNat_of_zero_le hy0
  exact common_nat m n w (by omega) (by omega)

set_option maxHeartbeats 400000 in
theorem gcd_yes (a b : Int) (w : World) (ha : -9223372036854775807 ≤ a) (hb : -9223372036854775807 ≤ b) (ha' : a ≤ 9223372036854775807) (hb' : b ≤ 9223372036854775807) :
    Calls Tryd.prog 57 #[.int .i64 a, .int .i64 b] w fun e w' => e = .returned (.int .i64 (Int.gcd a b : Nat)) ∧ ∃ n, w' = w.drewN n := by
  go_enter Tryd.func57, Tryd.ntmps57
  go_wp2_with (first
    | (go_at_call 46; ((with_reducible refine (fits_yes _ _ (by omega)).mono ?_); rintro e w' ⟨rfl, rfl⟩))
    | (go_at_call 61; ((with_reducible refine (size_any _ _ (by omega)).mono ?_); rintro e w' ⟨rfl, rfl⟩))
    | (go_at_call 60; ((with_reducible refine (common_any _ _ _ (by omega) (by omega) (by omega) (by omega)).mono ?_); rintro e w' ⟨rfl, n, rfl⟩)))
  all_goals go_ret
  all_goals exact ⟨rfl, n, rfl⟩

set_option maxHeartbeats 400000 in
theorem gcd_no1 (a b : Int) (w : World) (ha : a < -9223372036854775807) :
    Calls Tryd.prog 57 #[.int .i64 a, .int .i64 b] w fun e w' => e = .returned (.int .i64 0) ∧ w = w' := by
  go_enter Tryd.func57, Tryd.ntmps57
  go_wp2_with (go_at_call 46; ((with_reducible refine (fits_no _ _ ha).mono ?_); rintro e w' ⟨rfl, rfl⟩))
  all_goals go_ret
  all_goals exact ⟨rfl, rfl⟩

set_option maxHeartbeats 400000 in
theorem gcd_no2 (a b : Int) (w : World) (ha : -9223372036854775807 ≤ a) (hb : b < -9223372036854775807) :
    Calls Tryd.prog 57 #[.int .i64 a, .int .i64 b] w fun e w' => e = .returned (.int .i64 0) ∧ w = w' := by
  go_enter Tryd.func57, Tryd.ntmps57
  go_wp2_with (first
    | (go_at_call_of 46 (Value.int IntKind.i64 b); ((with_reducible refine (fits_no _ _ hb).mono ?_); rintro e w' ⟨rfl, rfl⟩))
    | (go_at_call_of 46 (Value.int IntKind.i64 a); ((with_reducible refine (fits_yes _ _ ha).mono ?_); rintro e w' ⟨rfl, rfl⟩)))
  all_goals go_ret
  all_goals exact ⟨rfl, rfl⟩

theorem gcd_no (a b : Int) (w : World) (h : a < -9223372036854775807 ∨ b < -9223372036854775807) :
    Calls Tryd.prog 57 #[.int .i64 a, .int .i64 b] w fun e w' => e = .returned (.int .i64 0) ∧ w = w' := by
  by_cases h1 : a < -9223372036854775807
  · exact gcd_no1 a b w h1
  · exact gcd_no2 a b w (by omega) (by omega)

set_option maxHeartbeats 400000 in
theorem split_yes (n k : Int) (w : World) (hn : -9223372036854775807 ≤ n) (hn' : n ≤ 9223372036854775807) (hk : 2 ≤ k) (hk' : k ≤ 9223372036854775807) (h0 : n ≠ 0) :
    Calls Tryd.prog 55 #[.int .i64 n, .int .i64 k] w fun e w' => e = .returned (.tuple #[.int .i64 (spT n k : Nat), .int .i64 (spL n k)]) ∧ w = w' := by
  have e0 : (n == 0) = false := by simpa using h0
  have e2 : decide (k < 2) = false := by simp; omega
  have ek : (k == 0) = false := by simp; omega
  go_enter Tryd.func55, Tryd.ntmps55
  go_wp2_with (go_at_call 46; ((with_reducible refine (fits_yes _ _ hn).mono ?_); rintro e w' ⟨rfl, rfl⟩))
  go_loop [0, 6] (fun a b => ∃ (m : Int) (t : Nat), a = .int .i64 m ∧ b = .int .i64 t ∧ -9223372036854775807 ≤ m ∧ m ≤ 9223372036854775807 ∧ m.natAbs + t ≤ n.natAbs ∧ Hid (m ≠ 0) ∧ Hid (m * k ^ t = n)) (fun a _ => (intOf a).natAbs)
  case atStart => exact ⟨n, 0, rfl, rfl, hn, hn', by omega, h0, by show n * k ^ 0 = n; simp⟩
  case round =>
    obtain ⟨m, t, rfl, rfl, hm, hm', ht, hm0, hp⟩ := hrel
    by_cases hd : m % k = 0
    · obtain ⟨d0, d1, d2⟩ := div_less m k hk hm0.out hd
      have H0 := Lib.hid d0
      have H1 := Lib.hid (sp_step n k m t hd hp.out)
      have et : (m.tmod k == 0) = true := by simp [(tmod_zero m k).2 hd]
      have eq := tdiv_is m k hd
      have hq1 : -9223372036854775807 ≤ m.tdiv k := by rw [eq]; omega
      have hq2 : m.tdiv k ≤ 9223372036854775807 := by rw [eq]; omega
      have EQ := Lib.hid eq
      clear eq hd d0 d2
      go_wp2
      go_round
      case rel => exact ⟨m.tdiv k, t + 1, rfl, by go_num, hq1, hq2, by rw [EQ.out]; omega, by rw [EQ.out]; exact H0, by rw [EQ.out]; exact H1⟩
      case measure => simp only [intOf]; rw [EQ.out]; omega
    · have et : (m.tmod k == 0) = false := by simp [tmod_zero m k, hd]
      obtain ⟨h1, h2⟩ := sp_is n k m t hk h0 hp.out hd
      have H1 := Lib.hid h1
      have H2 := Lib.hid h2
      clear h1 h2 hd
      go_wp2
      go_ret2
      exact ⟨by rw [← H1.out, ← H2.out]; rfl, rfl⟩

set_option maxHeartbeats 400000 in
theorem split_no0 (k : Int) (w : World) :
    Calls Tryd.prog 55 #[.int .i64 0, .int .i64 k] w fun e w' => e = .returned (.tuple #[.int .i64 0, .int .i64 0]) ∧ w = w' := by
  go_enter Tryd.func55, Tryd.ntmps55
  go_wp2
  all_goals go_ret2
  all_goals exact ⟨rfl, rfl⟩

set_option maxHeartbeats 400000 in
theorem split_no1 (n k : Int) (w : World) (h : n < -9223372036854775807) :
    Calls Tryd.prog 55 #[.int .i64 n, .int .i64 k] w fun e w' => e = .returned (.tuple #[.int .i64 0, .int .i64 n]) ∧ w = w' := by
  have e0 : (n == 0) = false := by simp; omega
  go_enter Tryd.func55, Tryd.ntmps55
  go_wp2_with (go_at_call 46; ((with_reducible refine (fits_no _ _ h).mono ?_); rintro e w' ⟨rfl, rfl⟩))
  all_goals go_ret2
  all_goals exact ⟨rfl, rfl⟩

set_option maxHeartbeats 400000 in
theorem split_no2 (n k : Int) (w : World) (h0 : n ≠ 0) (h : -9223372036854775807 ≤ n) (hk : k < 2) :
    Calls Tryd.prog 55 #[.int .i64 n, .int .i64 k] w fun e w' => e = .returned (.tuple #[.int .i64 0, .int .i64 n]) ∧ w = w' := by
  have e0 : (n == 0) = false := by simpa using h0
  go_enter Tryd.func55, Tryd.ntmps55
  go_wp2_with (go_at_call 46; ((with_reducible refine (fits_yes _ _ h).mono ?_); rintro e w' ⟨rfl, rfl⟩))
  all_goals go_ret2
  all_goals exact ⟨rfl, rfl⟩

theorem split_no (n k : Int) (w : World) (h : n = 0 ∨ n < -9223372036854775807 ∨ k < 2) :
    Calls Tryd.prog 55 #[.int .i64 n, .int .i64 k] w fun e w' => e = .returned (.tuple #[.int .i64 0, .int .i64 n]) ∧ w = w' := by
  by_cases h0 : n = 0
  · subst h0; exact split_no0 k w
  by_cases h1 : n < -9223372036854775807
  · exact split_no1 n k w h1
  · exact split_no2 n k w h0 (by omega) (by omega)

end Go.Proofs.YtpmibcdmaaagjaaDoor.Whole

