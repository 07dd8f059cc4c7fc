/-
  The walk of the law WholeTells: it returns true, for every three arguments of its kind; old memory stays.
-/
import Derived.Test.YtlpkpmpkbinfoaaR2
namespace Go.Proofs.Ytlpkpmpkbinfoaa.Whole
open Go.RowKit
set_option linter.unusedVariables false

/-- Sum, product, divisor, split, fit: the program's answers are the reference's. -/
theorem same_add (a b : Int) (a1 : -9223372036854775808 ≤ a) (a2 : a ≤ 9223372036854775807) (b1 : -9223372036854775808 ≤ b) (b2 : b ≤ 9223372036854775807) :
    ∃ (s : Int) (o : Bool), (∀ w, Calls Try.prog 12 #[.int .i64 a, .int .i64 b] w fun e w' => e = .returned (.tuple #[.int .i64 s, .bool o]) ∧ w = w') ∧
      (∀ w, Calls Try.prog 18 #[.int .i64 a, .int .i64 b] w fun e w' => e = .returned (.agg #[.int .i64 s, .bool o]) ∧ w.alloc (.cells #[.int .i64 s, .bool o] 41) = w') := by
  by_cases h : -9223372036854775807 ≤ a ∧ -9223372036854775807 ≤ b ∧ -9223372036854775807 ≤ a + b ∧ a + b ≤ 9223372036854775807
  · obtain ⟨h1, h2, h3, h4⟩ := h
    exact ⟨a + b, true, fun w => add_yes a b w h1 h2 a2 b2 h3 h4, fun w => radd_yes a b w h1 h2 a2 b2 h3 h4⟩
  · exact ⟨0, false, fun w => add_no a b w a2 b2 (by omega), fun w => radd_no a b w a2 b2 (by omega)⟩

theorem same_mul (a b : Int) (a1 : -9223372036854775808 ≤ a) (a2 : a ≤ 9223372036854775807) (b1 : -9223372036854775808 ≤ b) (b2 : b ≤ 9223372036854775807) :
    ∃ (s : Int) (o : Bool), (∀ w, Calls Try.prog 13 #[.int .i64 a, .int .i64 b] w fun e w' => e = .returned (.tuple #[.int .i64 s, .bool o]) ∧ w = w') ∧
      (∀ w, Calls Try.prog 19 #[.int .i64 a, .int .i64 b] w fun e w' => e = .returned (.agg #[.int .i64 s, .bool o]) ∧ w.alloc (.cells #[.int .i64 s, .bool o] 41) = w') := by
  by_cases h : -9223372036854775807 ≤ a ∧ -9223372036854775807 ≤ b ∧ -9223372036854775807 ≤ a * b ∧ a * b ≤ 9223372036854775807
  · obtain ⟨h1, h2, h3, h4⟩ := h
    exact ⟨a * b, true, fun w => mul_yes a b w h1 h2 a2 b2 h3 h4, fun w => rmul_yes a b w h1 h2 a2 b2 h3 h4⟩
  · have h' : a < -9223372036854775807 ∨ b < -9223372036854775807 ∨ a * b < -9223372036854775807 ∨ 9223372036854775807 < a * b := by generalize a * b = p at *; omega
    exact ⟨0, false, fun w => mul_no a b w a2 b2 h', fun w => rmul_no a b w a2 b2 h'⟩

theorem same_gcd (a b : Int) (a1 : -9223372036854775808 ≤ a) (a2 : a ≤ 9223372036854775807) (b1 : -9223372036854775808 ≤ b) (b2 : b ≤ 9223372036854775807) :
    ∃ g : Int, (∀ w, Calls Try.prog 14 #[.int .i64 a, .int .i64 b] w fun e w' => e = .returned (.int .i64 g) ∧ ∃ n, w' = w.drewN n) ∧
      (∀ w, Calls Try.prog 21 #[.int .i64 a, .int .i64 b] w fun e w' => e = .returned (.int .i64 g) ∧ w = w') := by
  by_cases h : a < -9223372036854775807 ∨ b < -9223372036854775807
  · exact ⟨0, fun w => (gcd_no a b w h).mono fun e w' ⟨he, hw⟩ => ⟨he, 0, hw.symm⟩, fun w => rgcd_no a b w h⟩
  · exact ⟨_, fun w => gcd_yes a b w (by omega) (by omega) a2 b2, fun w => rgcd_yes a b w (by omega) (by omega) a2 b2⟩

theorem same_split (n k : Int) (n1 : -9223372036854775808 ≤ n) (n2 : n ≤ 9223372036854775807) (k2 : k ≤ 9223372036854775807) :
    ∃ t l : Int, (∀ w, Calls Try.prog 15 #[.int .i64 n, .int .i64 k] w fun e w' => e = .returned (.tuple #[.int .i64 t, .int .i64 l]) ∧ w = w') ∧
      (∀ w, Calls Try.prog 20 #[.int .i64 n, .int .i64 k] w fun e w' => e = .returned (.agg #[.int .i64 t, .int .i64 l]) ∧ (w.alloc (.cells #[.int .i64 t, .int .i64 l] 44)).alloc (.cells #[.int .i64 t, .int .i64 l] 44) = w') := by
  by_cases h : n = 0 ∨ n < -9223372036854775807 ∨ k < 2
  · exact ⟨0, n, fun w => split_no n k w h, fun w => rsplit_no n k w h⟩
  · exact ⟨_, _, fun w => split_yes n k w (by omega) n2 (by omega) k2 (by omega), fun w => rsplit_yes n k w (by omega) n2 (by omega) k2 (by omega)⟩

theorem same_fits (a : Int) :
    ∃ o : Bool, (∀ w, Calls Try.prog 22 #[.int .i64 a] w fun e w' => e = .returned (.bool o) ∧ w = w') ∧
      (∀ w, Calls Try.prog 23 #[.int .i64 a] w fun e w' => e = .returned (.bool o) ∧ w = w') := by
  by_cases h : -9223372036854775807 ≤ a
  · exact ⟨true, fun w => fits_yes a w h, fun w => rfits_yes a w h⟩
  · exact ⟨false, fun w => fits_no a w (by omega), fun w => rfits_no a w (by omega)⟩

set_option maxHeartbeats 800000 in
theorem tells_yes (a b : Int) (w : World) (a1 : -9223372036854775808 ≤ a) (a2 : a ≤ 9223372036854775807) (b1 : -9223372036854775808 ≤ b) (b2 : b ≤ 9223372036854775807) :
    Calls Try.prog 11 #[.int .i64 a, .int .i64 b] w fun e w' => e = .returned (.bool true) ∧ Below w.heap.size w w' := by
  obtain ⟨s, so, c1, c2⟩ := same_add a b a1 a2 b1 b2
  obtain ⟨p, po, c3, c4⟩ := same_mul a b a1 a2 b1 b2
  obtain ⟨g, c5, c6⟩ := same_gcd a b a1 a2 b1 b2
  obtain ⟨t, l, c7, c8⟩ := same_split a b a1 a2 b2
  obtain ⟨o, c9, c10⟩ := same_fits a
  have C1 := Lib.hid c1; have C2 := Lib.hid c2; have C3 := Lib.hid c3; have C4 := Lib.hid c4; have C5 := Lib.hid c5
  have C6 := Lib.hid c6; have C7 := Lib.hid c7; have C8 := Lib.hid c8; have C9 := Lib.hid c9; have C10 := Lib.hid c10
  clear c1 c2 c3 c4 c5 c6 c7 c8 c9 c10
  go_enter Try.func11, Try.ntmps11
  go_wp2_with (first
    | (go_at_call 12; ((with_reducible refine (C1.out _).mono ?_); rintro e w' ⟨rfl, rfl⟩))
    | (go_at_call 18; ((with_reducible refine (C2.out _).mono ?_); rintro e w' ⟨rfl, rfl⟩))
    | (go_at_call 13; ((with_reducible refine (C3.out _).mono ?_); rintro e w' ⟨rfl, rfl⟩))
    | (go_at_call 19; ((with_reducible refine (C4.out _).mono ?_); rintro e w' ⟨rfl, rfl⟩))
    | (go_at_call 14; ((with_reducible refine (C5.out _).mono ?_); rintro e w' ⟨rfl, n1, rfl⟩))
    | (go_at_call 21; ((with_reducible refine (C6.out _).mono ?_); rintro e w' ⟨rfl, rfl⟩))
    | (go_at_call 15; ((with_reducible refine (C7.out _).mono ?_); rintro e w' ⟨rfl, rfl⟩))
    | (go_at_call 20; ((with_reducible refine (C8.out _).mono ?_); rintro e w' ⟨rfl, rfl⟩))
    | (go_at_call 22; ((with_reducible refine (C9.out _).mono ?_); rintro e w' ⟨rfl, rfl⟩))
    | (go_at_call 23; ((with_reducible refine (C10.out _).mono ?_); rintro e w' ⟨rfl, rfl⟩)))
  go_ret
  refine ⟨rfl, below_drewN ?_ _⟩
  repeat (first | exact Below.refl _ _ | (refine Below.alloc ?_ (by (try simp only [World.size_alloc]); omega) _))

theorem and63 (n : Int) : bits .and .i64 n 63 = n % 64 := by
  have h : (BitVec.ofInt 64 63).toNat = 2 ^ 6 - 1 := by decide
  have key : (BitVec.ofInt 64 n &&& BitVec.ofInt 64 63).toNat = (n % ((2 ^ 64 : Nat) : Int)).toNat % 2 ^ 6 := by
    rw [BitVec.toNat_and, BitVec.toNat_ofInt, h, Nat.and_two_pow_sub_one_eq_mod]
  show IntKind.i64.wrap ((BitVec.ofInt 64 n &&& BitVec.ofInt 64 63).toNat : Nat) = n % 64
  rw [key, IntKind.wrap_i64]
  omega

theorem shr_in (a : Int) (s : Nat) (h1 : -9223372036854775808 ≤ a) (h2 : a ≤ 9223372036854775807) : -9223372036854775808 ≤ a / 2 ^ s ∧ a / 2 ^ s ≤ 9223372036854775807 := by
  have hp : (1 : Int) ≤ 2 ^ s := by
    have : (0 : Int) < 2 ^ s := Int.pow_pos (by omega)
    omega
  generalize (2 : Int) ^ s = p at *
  constructor
  · apply Int.le_ediv_of_mul_le (by omega)
    have := Int.mul_le_mul_of_nonneg_left hp (show (0 : Int) ≤ 9223372036854775808 by omega)
    omega
  · by_cases ha : 0 ≤ a
    · have := Int.ediv_le_self p ha
      omega
    · have := Int.ediv_neg_of_neg_of_pos (show a < 0 by omega) (show 0 < p by omega)
      omega

set_option maxHeartbeats 800000 in
theorem tells_walk (a b k : Int) (w : World) (ba : -9223372036854775808 ≤ a ∧ a ≤ 9223372036854775807) (bb : -9223372036854775808 ≤ b ∧ b ≤ 9223372036854775807) (_bk : -9223372036854775808 ≤ k ∧ k ≤ 9223372036854775807) :
    Calls Try.prog 3 #[.int .i64 a, .int .i64 b, .int .i64 k] w fun e w' => e = .returned (.bool true) ∧ Below w.heap.size w w' := by
  obtain ⟨a1, a2⟩ := ba
  obtain ⟨b1, b2⟩ := bb
  have ek := and63 k
  have k1 : 0 ≤ k % 64 := by omega
  have k2 : k % 64 ≤ 63 := by omega
  go_enter Try.func3, Try.ntmps3
  go_wp2_with fail
  refine (awake_yes _).mono ?_
  rintro e w' ⟨rfl, n0, rfl⟩
  go_wp2_with fail
  refine (tells_yes a b _ a1 a2 b1 b2).mono ?_
  rintro e w1 ⟨rfl, hb1⟩
  go_wp2_with fail
  obtain ⟨x1, x2⟩ := shr_in a (k % 64).toNat a1 a2
  obtain ⟨y1, y2⟩ := shr_in b (k % 64).toNat b1 b2
  refine (tells_yes (a / 2 ^ (k % 64).toNat) b _ x1 x2 b1 b2).mono ?_
  rintro e w2 ⟨rfl, hb2⟩
  go_wp2_with fail
  refine (tells_yes (a / 2 ^ (k % 64).toNat) (b / 2 ^ (k % 64).toNat) _ x1 x2 y1 y2).mono ?_
  rintro e w3 ⟨rfl, hb3⟩
  go_wp2_with fail
  refine (tells_yes a _ _ a1 a2 (by omega) (by omega)).mono ?_
  rintro e w4 ⟨rfl, hb4⟩
  go_wp2_with fail
  go_ret
  have t0 : Below w.heap.size w (w.drewN n0) := below_drewN (Below.refl _ _) _
  have t1 := t0.trans (hb1.mono t0.size)
  have t2 := t1.trans (hb2.mono t1.size)
  have t3 := t2.trans (hb3.mono t2.size)
  exact ⟨rfl, t3.trans (hb4.mono t3.size)⟩
end Go.Proofs.Ytlpkpmpkbinfoaa.Whole
