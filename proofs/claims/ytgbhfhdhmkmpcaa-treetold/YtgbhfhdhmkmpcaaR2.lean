/-
  Contracts of the reference's Mul, Gcd, Split: what each returns for every argument of its kind, and the world behind it.
-/
import Derived.Test.YtgbhfhdhmkmpcaaR1
namespace Go.Proofs.Ytgbhfhdhmkmpcaa.Whole
open Go.RowKit
set_option linter.unusedVariables false
set_option linter.unusedSimpArgs false

theorem quo_le (x y : Nat) (hx : 1 ≤ x) (h : x * y ≤ 9223372036854775807) : (y : Int) ≤ 9223372036854775807 / (x : Int) := by
  rw [Int.le_ediv_iff_mul_le (by omega), ← Int.natCast_mul, Nat.mul_comm]; omega

theorem quo_lt (x y : Nat) (hx : 1 ≤ x) (h : 9223372036854775807 < x * y) : 9223372036854775807 / (x : Int) < (y : Int) := by
  rw [Int.ediv_lt_iff_lt_mul (by omega), ← Int.natCast_mul, Nat.mul_comm]; omega

end Go.Proofs.Ytgbhfhdhmkmpcaa.Whole
