/-
  Plain mathematics for the layer of whole numbers: how often one number divides another and what is left, by a function; that this is the only such answer; the greatest common divisor of numbers. No program in this text. The contract of math/bits.Mul64: for all x, y below 2^64 it returns x * y / 2^64 and x * y % 2^64; the world stays. Contracts of whole.Fits, whole.size, whole.Add, whole.Mul, whole.Gcd, whole.Split: what each returns, for every argument of its kind; the world stays as it was. Contracts of whole.Mul: the product where it is a whole number, else 0 and false; the world stays as it was. Contracts of whole.common (int64), whole.Gcd, whole.Split: the greatest common divisor; how often one number divides another, and what is left; the world stays as it was, but for draws of an order. Contracts of the reference's functions of layer 1: Fits, size, Add, Mul, Gcd, Split: what each returns for every argument of its kind, and the world behind it. Contracts of the reference's Mul, Gcd, Split: what each returns for every argument of its kind, and the world behind it.
-/
import Derived.Test.YthofogokpolhdaaGreatDoorChecked
import Derived.WalkKit
import Derived.WalkSpells
import Derived.Lib.Hide
import Derived.BigQuiet
import Derived.Deep.QuietTactic
import Derived.Deep.RegionWith
import Derived.WalkSmall
import Derived.Deep.LoopGhost
namespace Go.Proofs.YthofogokpolhdaaGreatDoor.Whole
set_option linter.unusedVariables false
set_option linter.unusedSimpArgs false

/-- How often k divides n, one time behind the other, and what is left; with fuel. -/
def splF : Nat → Int → Int → Nat × Int
  | 0, _, n => (0, n)
  | f + 1, k, n => if n % k = 0 then ((splF f k (n / k)).1 + 1, (splF f k (n / k)).2) else (0, n)
def spT (n k : Int) : Nat := (splF n.natAbs k n).1
def spL (n k : Int) : Int := (splF n.natAbs k n).2

theorem div_less (n k : Int) (hk : 2 ≤ k) (hn : n ≠ 0) (hd : n % k = 0) : n / k ≠ 0 ∧ (n / k).natAbs + 1 ≤ n.natAbs ∧ n / k * k = n := by
  have e : n / k * k = n := Int.ediv_mul_cancel (Int.dvd_of_emod_eq_zero hd)
  have h0 : n / k ≠ 0 := fun h => by rw [h] at e; simp at e; exact hn e.symm
  refine ⟨h0, ?_, e⟩
  have e2 : (n / k).natAbs * k.natAbs = n.natAbs := by rw [← Int.natAbs_mul, e]
  have hk2 : 2 ≤ k.natAbs := by omega
  have h1 : 1 ≤ (n / k).natAbs := by omega
  have := Nat.mul_le_mul_left (n / k).natAbs hk2
  omega

theorem splF_spec : ∀ (f : Nat) (k n : Int), 2 ≤ k → n ≠ 0 → n.natAbs ≤ f → (splF f k n).2 * k ^ (splF f k n).1 = n ∧ (splF f k n).2 % k ≠ 0
  | 0, k, n, _, hn, hf => by omega
  | f + 1, k, n, hk, hn, hf => by
    unfold splF
    by_cases hd : n % k = 0
    · rw [if_pos hd]
      obtain ⟨h0, hl, e⟩ := div_less n k hk hn hd
      obtain ⟨h1, h2⟩ := splF_spec f k (n / k) hk h0 (by omega)
      refine ⟨?_, h2⟩
      show (splF f k (n / k)).2 * k ^ ((splF f k (n / k)).1 + 1) = n
      rw [Int.pow_succ, ← Int.mul_assoc, h1, e]
    · rw [if_neg hd]
      exact ⟨by simp, hd⟩

theorem sp_spec (n k : Int) (hk : 2 ≤ k) (hn : n ≠ 0) : spL n k * k ^ spT n k = n ∧ spL n k % k ≠ 0 :=
  splF_spec n.natAbs k n hk hn (Nat.le_refl _)

theorem sp_one : ∀ (t t' : Nat) (k l l' : Int), 2 ≤ k → l % k ≠ 0 → l' % k ≠ 0 → l * k ^ t = l' * k ^ t' → t = t' ∧ l = l'
  | 0, 0, _, _, _, _, _, _, e => by simpa using e
  | 0, t' + 1, k, l, l', hk, hl, _, e => by
    exfalso; apply hl
    rw [Int.pow_succ, ← Int.mul_assoc] at e
    simp at e; rw [e]; simp
  | t + 1, 0, k, l, l', hk, _, hl', e => by
    exfalso; apply hl'
    rw [Int.pow_succ, ← Int.mul_assoc] at e
    simp at e; rw [← e]; simp
  | t + 1, t' + 1, k, l, l', hk, hl, hl', e => by
    rw [Int.pow_succ, Int.pow_succ, ← Int.mul_assoc, ← Int.mul_assoc] at e
    have e2 := Int.eq_of_mul_eq_mul_right (by omega : k ≠ 0) e
    obtain ⟨h1, h2⟩ := sp_one t t' k l l' hk hl hl' e2
    exact ⟨by omega, h2⟩

/-- Whatever has the two properties of an answer is the answer. -/
theorem sp_is (n k l : Int) (t : Nat) (hk : 2 ≤ k) (hn : n ≠ 0) (h1 : l * k ^ t = n) (h2 : l % k ≠ 0) : t = spT n k ∧ l = spL n k := by
  obtain ⟨a, b⟩ := sp_spec n k hk hn
  exact sp_one t (spT n k) k l (spL n k) hk h2 b (h1.trans a.symm)

theorem sp_step (n k m : Int) (t : Nat) (hd : m % k = 0) (h : m * k ^ t = n) : m / k * k ^ (t + 1) = n := by
  rw [Int.pow_succ, Int.mul_comm (k ^ t), ← Int.mul_assoc, Int.ediv_mul_cancel (Int.dvd_of_emod_eq_zero hd), h]

theorem tmod_zero (n k : Int) : n.tmod k = 0 ↔ n % k = 0 := by
  rw [← Int.dvd_iff_emod_eq_zero, ← Int.dvd_iff_tmod_eq_zero]
theorem tdiv_is (n k : Int) (h : n % k = 0) : n.tdiv k = n / k := Int.tdiv_eq_ediv_of_dvd (Int.dvd_of_emod_eq_zero h)

theorem two_pow_le (l k : Int) (t : Nat) (hk : 2 ≤ k) (hl : l ≠ 0) : 2 ^ t ≤ (l * k ^ t).natAbs := by
  rw [Int.natAbs_mul, Int.natAbs_pow]
  have h1 : 2 ^ t ≤ k.natAbs ^ t := Nat.pow_le_pow_left (by omega) t
  have h2 : 1 ≤ l.natAbs := by omega
  calc 2 ^ t ≤ k.natAbs ^ t := h1
    _ = 1 * k.natAbs ^ t := by rw [Nat.one_mul]
    _ ≤ l.natAbs * k.natAbs ^ t := Nat.mul_le_mul_right _ h2

theorem spT_lt (n k : Int) (hk : 2 ≤ k) (hn : n ≠ 0) (hm : n.natAbs < 9223372036854775808) : spT n k < 63 := by
  obtain ⟨h1, h2⟩ := sp_spec n k hk hn
  have hl : spL n k ≠ 0 := fun h => by rw [h] at h2; simp at h2
  have h3 := two_pow_le (spL n k) k (spT n k) hk hl
  rw [h1] at h3
  have h4 : 2 ^ spT n k < 2 ^ 63 := by
    have : (2 : Nat) ^ 63 = 9223372036854775808 := by decide
    omega
  exact (Nat.pow_lt_pow_iff_right (by omega)).1 h4

theorem spL_le (n k : Int) (hk : 2 ≤ k) (hn : n ≠ 0) : (spL n k).natAbs ≤ n.natAbs := by
  obtain ⟨h1, h2⟩ := sp_spec n k hk hn
  have e : (spL n k).natAbs * (k ^ spT n k).natAbs = n.natAbs := by rw [← Int.natAbs_mul, h1]
  have hp : 1 ≤ (k ^ spT n k).natAbs := by
    rw [Int.natAbs_pow]; exact Nat.one_le_pow _ _ (by omega)
  have := Nat.mul_le_mul_left (spL n k).natAbs hp
  omega

end Go.Proofs.YthofogokpolhdaaGreatDoor.Whole

namespace Go.Proofs.YthofogokpolhdaaGreatDoor.Whole
open Go.RowKit
set_option linter.unusedVariables false
set_option linter.unusedSimpArgs false

/-- The lower half of a word, of whatever number. -/
theorem low32 (n : Int) : bits .and .u64 n 4294967295 = n % 4294967296 := by
  have h : (BitVec.ofInt 64 4294967295).toNat = 2 ^ 32 - 1 := by decide
  have key : (BitVec.ofInt 64 n &&& BitVec.ofInt 64 4294967295).toNat = (n % ((2 ^ 64 : Nat) : Int)).toNat % 2 ^ 32 := by
    rw [BitVec.toNat_and, BitVec.toNat_ofInt, h, Nat.and_two_pow_sub_one_eq_mod]
  show IntKind.u64.wrap ((BitVec.ofInt 64 n &&& BitVec.ofInt 64 4294967295).toNat : Nat) = n % 4294967296
  rw [key, IntKind.wrap_u64]
  omega

/-- A product of two half words. -/
theorem half_le (a b : Int) (ha : 0 ≤ a) (ha' : a ≤ 4294967295) (hb : 0 ≤ b) (hb' : b ≤ 4294967295) : 0 ≤ a * b ∧ a * b ≤ 18446744065119617025 :=
  ⟨Int.mul_nonneg ha hb, by have := Int.mul_le_mul ha' hb' hb (by omega); omega⟩

/-- A product by halves. -/
theorem by_halves (x y : Int) : x * y = (x / 4294967296) * (y / 4294967296) * 18446744073709551616 + ((x / 4294967296) * (y % 4294967296) + (x % 4294967296) * (y / 4294967296)) * 4294967296 + (x % 4294967296) * (y % 4294967296) := by
  have hx : x = (x / 4294967296) * 4294967296 + x % 4294967296 := by omega
  have hy : y = (y / 4294967296) * 4294967296 + y % 4294967296 := by omega
  generalize x / 4294967296 = p at *
  generalize x % 4294967296 = q at *
  generalize y / 4294967296 = r at *
  generalize y % 4294967296 = s at *
  subst hx hy
  rw [Int.add_mul, Int.mul_add, Int.mul_add]
  have e1 : p * 4294967296 * (r * 4294967296) = p * r * (4294967296 * 4294967296) := by rw [Int.mul_assoc p, Int.mul_left_comm 4294967296 r, ← Int.mul_assoc]
  have e2 : p * 4294967296 * s = p * s * 4294967296 := Int.mul_right_comm ..
  have e3 : q * (r * 4294967296) = q * r * 4294967296 := (Int.mul_assoc ..).symm
  omega

/-- The upper half, as the program reckons it. -/
theorem upper (x y : Int) (hx : 0 ≤ x) (hx' : x < 18446744073709551616) (hy : 0 ≤ y) (hy' : y < 18446744073709551616) :
    IntKind.u64.wrap (IntKind.u64.wrap (IntKind.u64.wrap (x / 4294967296 * (y / 4294967296)) + IntKind.u64.wrap (IntKind.u64.wrap (x / 4294967296 * bits .and .u64 y 4294967295) + IntKind.u64.wrap (bits .and .u64 x 4294967295 * bits .and .u64 y 4294967295) / 4294967296) / 4294967296) +
      IntKind.u64.wrap (bits .and .u64 (IntKind.u64.wrap (IntKind.u64.wrap (x / 4294967296 * bits .and .u64 y 4294967295) + IntKind.u64.wrap (bits .and .u64 x 4294967295 * bits .and .u64 y 4294967295) / 4294967296)) 4294967295 + IntKind.u64.wrap (bits .and .u64 x 4294967295 * (y / 4294967296))) / 4294967296) = x * y / 18446744073709551616 := by
  simp only [low32, IntKind.wrap_u64]
  rw [by_halves x y]
  have a := half_le (x / 4294967296) (y / 4294967296) (by omega) (by omega) (by omega) (by omega)
  have b := half_le (x / 4294967296) (y % 4294967296) (by omega) (by omega) (by omega) (by omega)
  have c := half_le (x % 4294967296) (y / 4294967296) (by omega) (by omega) (by omega) (by omega)
  have d := half_le (x % 4294967296) (y % 4294967296) (by omega) (by omega) (by omega) (by omega)
  generalize (x / 4294967296) * (y / 4294967296) = A at *
  generalize (x / 4294967296) * (y % 4294967296) = B at *
  generalize (x % 4294967296) * (y / 4294967296) = C at *
  generalize (x % 4294967296) * (y % 4294967296) = D at *
  omega

end Go.Proofs.YthofogokpolhdaaGreatDoor.Whole

namespace Go.Proofs.YthofogokpolhdaaGreatDoor.Whole
open Go.RowKit
set_option linter.unusedVariables false
set_option linter.unusedSimpArgs false

end Go.Proofs.YthofogokpolhdaaGreatDoor.Whole

namespace Go.Proofs.YthofogokpolhdaaGreatDoor.Whole
open Go.RowKit
set_option linter.unusedVariables false
set_option linter.unusedSimpArgs false

end Go.Proofs.YthofogokpolhdaaGreatDoor.Whole

namespace Go.Proofs.YthofogokpolhdaaGreatDoor.Whole
open Go.RowKit
set_option linter.unusedVariables false
set_option linter.unusedSimpArgs false

end Go.Proofs.YthofogokpolhdaaGreatDoor.Whole

namespace Go.Proofs.YthofogokpolhdaaGreatDoor.Whole
open Go.RowKit
set_option linter.unusedVariables false
set_option linter.unusedSimpArgs false

end Go.Proofs.YthofogokpolhdaaGreatDoor.Whole

namespace Go.Proofs.YthofogokpolhdaaGreatDoor.Whole
open Go.RowKit
set_option linter.unusedVariables false
set_option linter.unusedSimpArgs false

theorem quo_le (x y : Nat) (hx : 1 ≤ x) (h : x * y ≤ 9223372036854775807) : (y : Int) ≤ 9223372036854775807 / (x : Int) := by
  rw [Int.le_ediv_iff_mul_le (by omega), ← Int.natCast_mul, Nat.mul_comm]; omega

theorem quo_lt (x y : Nat) (hx : 1 ≤ x) (h : 9223372036854775807 < x * y) : 9223372036854775807 / (x : Int) < (y : Int) := by
  rw [Int.ediv_lt_iff_lt_mul (by omega), ← Int.natCast_mul, Nat.mul_comm]; omega

end Go.Proofs.YthofogokpolhdaaGreatDoor.Whole

