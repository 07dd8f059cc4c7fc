/-
  The walk of the law WholeScales: it returns true, for every three arguments of its kind; old memory stays.
-/
import Derived.Test.YtlpkpmpkbinfoaaW4
import Derived.WalkSmall
import Derived.Laws.BitsLemmas
namespace Go.Proofs.Ytlpkpmpkbinfoaa.Whole
open Go.RowKit
set_option linter.unusedVariables false

theorem and30 (n : Int) : bits .and .i64 n 1073741823 = n % 1073741824 := by
  have h : (BitVec.ofInt 64 1073741823).toNat = 2 ^ 30 - 1 := by decide
  have key : (BitVec.ofInt 64 n &&& BitVec.ofInt 64 1073741823).toNat = (n % ((2 ^ 64 : Nat) : Int)).toNat % 2 ^ 30 := by
    rw [BitVec.toNat_and, BitVec.toNat_ofInt, h, Nat.and_two_pow_sub_one_eq_mod]
  show IntKind.i64.wrap ((BitVec.ofInt 64 n &&& BitVec.ofInt 64 1073741823).toNat : Nat) = n % 1073741824
  rw [key, IntKind.wrap_i64]
  omega

theorem small_mul (x c : Int) (h1 : -1073741824 ≤ x) (h2 : x ≤ 1073741824) (h3 : 0 ≤ c) (h4 : c ≤ 1073741824) : -9223372036854775807 ≤ x * c ∧ x * c ≤ 9223372036854775807 := by
  have h := Nat.mul_le_mul (show x.natAbs ≤ 1073741824 by omega) (show c.natAbs ≤ 1073741824 by omega)
  rw [← Int.natAbs_mul] at h
  generalize x * c = p at *
  omega

theorem gcd_small (x y : Int) (h1 : -1073741824 ≤ x) (h2 : x ≤ 1073741824) (h3 : -1073741824 ≤ y) (h4 : y ≤ 1073741824) : ((Int.gcd x y : Nat) : Int) ≤ 1073741824 := by
  by_cases z : x = 0
  · have : Int.gcd x y = y.natAbs := by rw [z]; simp
    omega
  · have := Int.gcd_le_natAbs_left y z
    omega

theorem gcd_scale (x y c : Int) (h : 0 ≤ c) : ((Int.gcd (x * c) (y * c) : Nat) : Int) = (Int.gcd x y : Nat) * c := by
  rw [Int.gcd_mul_right, Int.natCast_mul, Int.natAbs_of_nonneg h]

set_option maxHeartbeats 400000 in
theorem scales_walk (a b k : Int) (w : World) (ba : -9223372036854775808 ≤ a ∧ a ≤ 9223372036854775807) (bb : -9223372036854775808 ≤ b ∧ b ≤ 9223372036854775807) (_bk : -9223372036854775808 ≤ k ∧ k ≤ 9223372036854775807) :
    Calls Try.prog 9 #[.int .i64 a, .int .i64 b, .int .i64 k] w fun e w' => e = .returned (.bool true) ∧ Below w.heap.size w w' := by
  go_enter Try.func9, Try.ntmps9
  go_wp2_with fail
  refine (awake_yes _).mono ?_
  rintro e w' ⟨rfl, n0, rfl⟩
  go_wp2_with fail
  have c1 : 1 ≤ 1 + k % 1073741824 := by omega
  have c2 : 1 + k % 1073741824 ≤ 1073741824 := by omega
  have x1 : -1073741824 ≤ a / 8589934592 := by omega
  have x2 : a / 8589934592 ≤ 1073741823 := by omega
  have y1 : -1073741824 ≤ b / 8589934592 := by omega
  have y2 : b / 8589934592 ≤ 1073741823 := by omega
  have ew : wrap64 (1 + k % 1073741824) = 1 + k % 1073741824 := IntWalk.wrap64_in _ ⟨by omega, by omega⟩
  rw [and30, ew]
  clear ew
  generalize 1 + k % 1073741824 = c at *
  generalize a / 8589934592 = x at *
  generalize b / 8589934592 = y at *
  obtain ⟨p1, p2⟩ := small_mul x c x1 (by omega) (by omega) (by omega)
  obtain ⟨q1, q2⟩ := small_mul y c y1 (by omega) (by omega) (by omega)
  have hg := gcd_small x y x1 (by omega) y1 (by omega)
  have hg0 : 0 ≤ ((Int.gcd x y : Nat) : Int) := by omega
  have hs := gcd_scale x y c (by omega)
  refine (mul_yes x c _ (by omega) (by omega) (by omega) (by omega) p1 p2).mono ?_
  rintro e w' ⟨rfl, rfl⟩
  have HS := Lib.hid hs
  clear hs
  go_wp2_with fail
  refine (mul_yes y c _ (by omega) (by omega) (by omega) (by omega) q1 q2).mono ?_
  rintro e w' ⟨rfl, rfl⟩
  go_wp2_with fail
  refine (gcd_yes x y _ (by omega) (by omega) (by omega) (by omega)).mono ?_
  rintro e w' ⟨rfl, n1, rfl⟩
  go_wp2_with fail
  generalize ((Int.gcd x y : Nat) : Int) = g at *
  obtain ⟨r1, r2⟩ := small_mul g c (by omega) (by omega) (by omega) (by omega)
  refine (mul_yes g c _ (by omega) (by omega) (by omega) (by omega) r1 r2).mono ?_
  rintro e w' ⟨rfl, rfl⟩
  go_wp2_with fail
  refine (gcd_yes (x * c) (y * c) _ p1 q1 p2 q2).mono ?_
  rintro e w' ⟨rfl, n2, rfl⟩
  rw [HS.out]
  go_wp2_with fail
  go_ret
  exact ⟨rfl, below_drewN (Below.refl _ _) _⟩
end Go.Proofs.Ytlpkpmpkbinfoaa.Whole
