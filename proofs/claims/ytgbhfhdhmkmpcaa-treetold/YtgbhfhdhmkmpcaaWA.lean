/-
  The contract of math/bits.Mul64: for all x, y below 2^64 it returns x * y / 2^64 and x * y % 2^64; the world stays. Contracts of whole.Fits, whole.size, whole.Add, whole.Mul, whole.Gcd, whole.Split: what each returns, for every argument of its kind; the world stays as it was. Contracts of whole.Mul: the product where it is a whole number, else 0 and false; the world stays as it was. Contracts of whole.common (int64), whole.Gcd, whole.Split: the greatest common divisor; how often one number divides another, and what is left; the world stays as it was, but for draws of an order.
-/
import Derived.Test.YtgbhfhdhmkmpcaaChecked
import Derived.WalkKit
import Derived.WalkSpells
import Derived.Test.YtgbhfhdhmkmpcaaM
import Derived.Lib.Hide
import Derived.BigQuiet
import Derived.Deep.QuietTactic
import Derived.Deep.RegionWith
namespace Go.Proofs.Ytgbhfhdhmkmpcaa.Whole
open Go.RowKit
set_option linter.unusedVariables false
set_option linter.unusedSimpArgs false

/-- The lower half of a word, of whatever number. -/
theorem low32 (n : Int) : bits .and .u64 n 4294967295 = n % 4294967296 := by
  have h : (BitVec.ofInt 64 4294967295).toNat = 2 ^ 32 - 1 := by decide
  have key : (BitVec.ofInt 64 n &&& BitVec.ofInt 64 4294967295).toNat = (n % ((2 ^ 64 : Nat) : Int)).toNat % 2 ^ 32 := by
    rw [BitVec.toNat_and, BitVec.toNat_ofInt, h, Nat.and_two_pow_sub_one_eq_mod]
  show IntKind.u64.wrap ((BitVec.ofInt 64 n &&& BitVec.ofInt 64 4294967295).toNat : Nat) = n % 4294967296
  rw [key, IntKind.wrap_u64]
  omega

/-- A product of two half words. -/
theorem half_le (a b : Int) (ha : 0 ≤ a) (ha' : a ≤ 4294967295) (hb : 0 ≤ b) (hb' : b ≤ 4294967295) : 0 ≤ a * b ∧ a * b ≤ 18446744065119617025 :=
  ⟨Int.mul_nonneg ha hb, by have := Int.mul_le_mul ha' hb' hb (by omega); omega⟩

/-- A product by halves. -/
theorem by_halves (x y : Int) : x * y = (x / 4294967296) * (y / 4294967296) * 18446744073709551616 + ((x / 4294967296) * (y % 4294967296) + (x % 4294967296) * (y / 4294967296)) * 4294967296 + (x % 4294967296) * (y % 4294967296) := by
  have hx : x = (x / 4294967296) * 4294967296 + x % 4294967296 := by omega
  have hy : y = (y / 4294967296) * 4294967296 + y % 4294967296 := by omega
  generalize x / 4294967296 = p at *
  generalize x % 4294967296 = q at *
  generalize y / 4294967296 = r at *
  generalize y % 4294967296 = s at *
  subst hx hy
  rw [Int.add_mul, Int.mul_add, Int.mul_add]
  have e1 : p * 4294967296 * (r * 4294967296) = p * r * (4294967296 * 4294967296) := by rw [Int.mul_assoc p, Int.mul_left_comm 4294967296 r, ← Int.mul_assoc]
  have e2 : p * 4294967296 * s = p * s * 4294967296 := Int.mul_right_comm ..
  have e3 : q * (r * 4294967296) = q * r * 4294967296 := (Int.mul_assoc ..).symm
  omega

/-- The upper half, as the program reckons it. -/
theorem upper (x y : Int) (hx : 0 ≤ x) (hx' : x < 18446744073709551616) (hy : 0 ≤ y) (hy' : y < 18446744073709551616) :
    IntKind.u64.wrap (IntKind.u64.wrap (IntKind.u64.wrap (x / 4294967296 * (y / 4294967296)) + IntKind.u64.wrap (IntKind.u64.wrap (x / 4294967296 * bits .and .u64 y 4294967295) + IntKind.u64.wrap (bits .and .u64 x 4294967295 * bits .and .u64 y 4294967295) / 4294967296) / 4294967296) +
      IntKind.u64.wrap (bits .and .u64 (IntKind.u64.wrap (IntKind.u64.wrap (x / 4294967296 * bits .and .u64 y 4294967295) + IntKind.u64.wrap (bits .and .u64 x 4294967295 * bits .and .u64 y 4294967295) / 4294967296)) 4294967295 + IntKind.u64.wrap (bits .and .u64 x 4294967295 * (y / 4294967296))) / 4294967296) = x * y / 18446744073709551616 := by
  simp only [low32, IntKind.wrap_u64]
  rw [by_halves x y]
  have a := half_le (x / 4294967296) (y / 4294967296) (by omega) (by omega) (by omega) (by omega)
  have b := half_le (x / 4294967296) (y % 4294967296) (by omega) (by omega) (by omega) (by omega)
  have c := half_le (x % 4294967296) (y / 4294967296) (by omega) (by omega) (by omega) (by omega)
  have d := half_le (x % 4294967296) (y % 4294967296) (by omega) (by omega) (by omega) (by omega)
  generalize (x / 4294967296) * (y / 4294967296) = A at *
  generalize (x / 4294967296) * (y % 4294967296) = B at *
  generalize (x % 4294967296) * (y / 4294967296) = C at *
  generalize (x % 4294967296) * (y % 4294967296) = D at *
  omega

end Go.Proofs.Ytgbhfhdhmkmpcaa.Whole

namespace Go.Proofs.Ytgbhfhdhmkmpcaa.Whole
open Go.RowKit
set_option linter.unusedVariables false
set_option linter.unusedSimpArgs false

end Go.Proofs.Ytgbhfhdhmkmpcaa.Whole

namespace Go.Proofs.Ytgbhfhdhmkmpcaa.Whole
open Go.RowKit
set_option linter.unusedVariables false
set_option linter.unusedSimpArgs false

end Go.Proofs.Ytgbhfhdhmkmpcaa.Whole

namespace Go.Proofs.Ytgbhfhdhmkmpcaa.Whole
open Go.RowKit
set_option linter.unusedVariables false
set_option linter.unusedSimpArgs false

end Go.Proofs.Ytgbhfhdhmkmpcaa.Whole

