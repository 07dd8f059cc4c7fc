/-
  The walk of the law WholeSplits: it returns true, for every two arguments of its kind; old memory stays.
-/
import Derived.Test.YtlpkpmpkbinfoaaW4
import Derived.WalkSmall
namespace Go.Proofs.Ytlpkpmpkbinfoaa.Whole
open Go.RowKit
set_option linter.unusedVariables false

/-- What is multiplied back stays within what was split. -/
theorem part_le (l k n : Int) (t j : Nat) (hk : 2 ≤ k) (h : l * k ^ t = n) (hj : j ≤ t) : (l * k ^ j).natAbs ≤ n.natAbs := by
  have e : l * k ^ j * k ^ (t - j) = n := by rw [Int.mul_assoc, ← Int.pow_add, Nat.add_sub_cancel' hj, h]
  have e2 : (l * k ^ j).natAbs * (k ^ (t - j)).natAbs = n.natAbs := by rw [← Int.natAbs_mul, e]
  have hp : 1 ≤ (k ^ (t - j)).natAbs := by
    rw [Int.natAbs_pow]; exact Nat.one_le_pow _ _ (by omega)
  have := Nat.mul_le_mul_left (l * k ^ j).natAbs hp
  omega

theorem rest_in (y : Int) : 0 ≤ (y.tmod 999 + 999).tmod 999 ∧ (y.tmod 999 + 999).tmod 999 ≤ 998 := by
  have h1 : -999 < y.tmod 999 := Int.lt_tmod_of_pos y (by omega)
  have h2 : 0 ≤ y.tmod 999 + 999 := by omega
  rw [Int.tmod_eq_emod_of_nonneg h2]
  omega

set_option maxHeartbeats 400000 in
theorem splits_out (n y : Int) (w : World) (h : n = 0 ∨ n < -9223372036854775807) :
    Calls Try.prog 7 #[.int .i64 n, .int .i64 y] w fun e w' => e = .returned (.bool true) ∧ Below w.heap.size w w' := by
  have hr : -999 < y.tmod 999 := Int.lt_tmod_of_pos y (by omega)
  have hr2 : y.tmod 999 < 999 := Int.tmod_lt_of_pos y (by omega)
  by_cases h0 : n = 0
  · subst h0
    go_enter Try.func7, Try.ntmps7
    go_wp2_with fail
    refine (awake_yes _).mono ?_
    rintro e w' ⟨rfl, n0, rfl⟩
    go_wp2_with fail
    refine (split_no _ _ _ (.inl rfl)).mono ?_
    rintro e w' ⟨rfl, rfl⟩
    go_wp2_with fail
    go_ret
    exact ⟨rfl, below_drewN (Below.refl _ _) _⟩
  · have h1 : n < -9223372036854775807 := by omega
    have e0 : (n == 0) = false := by simpa using h0
    go_enter Try.func7, Try.ntmps7
    go_wp2_with fail
    refine (awake_yes _).mono ?_
    rintro e w' ⟨rfl, n0, rfl⟩
    go_wp2_with fail
    refine (split_no _ _ _ (.inr (.inl h1))).mono ?_
    rintro e w' ⟨rfl, rfl⟩
    go_wp2_with fail
    go_ret
    exact ⟨rfl, below_drewN (Below.refl _ _) _⟩

set_option maxHeartbeats 400000 in
theorem splits_told (n y : Int) (w : World) (h0 : n ≠ 0) (h1 : -9223372036854775807 ≤ n) (h2 : n ≤ 9223372036854775807) :
    Calls Try.prog 7 #[.int .i64 n, .int .i64 y] w fun e w' => e = .returned (.bool true) ∧ Below w.heap.size w w' := by
  have hr : -999 < y.tmod 999 := Int.lt_tmod_of_pos y (by omega)
  have hr2 : y.tmod 999 < 999 := Int.tmod_lt_of_pos y (by omega)
  have e0 : (n == 0) = false := by simpa using h0
  go_enter Try.func7, Try.ntmps7
  go_wp2_with fail
  refine (awake_yes _).mono ?_
  rintro e w' ⟨rfl, n0, rfl⟩
  go_wp2_with fail
  have hk1 : 2 ≤ 2 + y.tmod 999 % 999 := by omega
  have hk2 : 2 + y.tmod 999 % 999 ≤ 1000 := by omega
  generalize 2 + y.tmod 999 % 999 = k at *
  refine (split_yes n k _ h1 h2 hk1 (by omega) h0).mono ?_
  rintro e w' ⟨rfl, rfl⟩
  have ht := spT_lt n k hk1 h0 (by omega)
  have hl := spL_le n k hk1 h0
  obtain ⟨hp, hm⟩ := sp_spec n k hk1 h0
  have hle := fun j => part_le (spL n k) k n (spT n k) j hk1 hp
  generalize spT n k = t at *
  generalize spL n k = l at *
  have e1 : (l == 0) = false := by
    simp only [beq_eq_false_iff_ne]; intro h; rw [h] at hm; simp at hm
  have e2 : (l.tmod k == 0) = false := by
    simp only [beq_eq_false_iff_ne]; intro h; exact hm ((tmod_zero l k).1 h)
  have e3 : (k == 0) = false := by simp only [beq_eq_false_iff_ne]; omega
  have HP := Lib.hid hp
  have HL := Lib.hid hle
  clear hm hp hle
  go_wp2_with fail
  go_loop [9, 10, 11, 12] (fun a b _ _ => ∃ (j : Nat) (x : Int), j ≤ t ∧ b = .int .i64 j ∧ a = .int .i64 x ∧ Hid (x = l * k ^ j)) (fun _ b _ _ => t - (intOf b).toNat)
  case atStart => exact ⟨0, l, by omega, rfl, rfl, by show l = l * k ^ 0; simp⟩
  case round =>
    obtain ⟨j, x, hj, rfl, rfl, hx⟩ := hrel
    have b0 := HL.out j hj
    rw [← hx.out] at b0
    by_cases hjt : j < t
    · have b1 := HL.out (j + 1) hjt
      have hm : l * k ^ (j + 1) = x * k := by rw [hx.out, Int.pow_succ, Int.mul_assoc]
      rw [hm] at b1
      have HM := Lib.hid hm
      clear hm
      have c1 : -9223372036854775807 ≤ x * k := by generalize x * k = p at *; omega
      have c2 : x * k ≤ 9223372036854775807 := by generalize x * k = p at *; omega
      go_wp2_with fail
      refine (mul_yes x k _ (by omega) (by omega) (by omega) (by omega) c1 c2).mono ?_
      rintro e w' ⟨rfl, rfl⟩
      go_wp2_with fail
      go_round
      case rel => exact ⟨j + 1, x * k, by omega, by go_num, rfl, HM.out.symm⟩
      case measure => simp only [intOf]; omega
    · have hjt' : j = t := by omega
      have he : (x == n) = true := by rw [hx.out, hjt', HP.out]; simp
      have hd : decide ((j : Int) < (t : Int)) = false := by simp; omega
      clear hjt'
      go_wp2_with fail
      go_ret
      exact ⟨rfl, below_drewN (Below.refl _ _) _⟩

theorem splits_walk (n y : Int) (w : World) (bn : -9223372036854775808 ≤ n ∧ n ≤ 9223372036854775807) (_by : -9223372036854775808 ≤ y ∧ y ≤ 9223372036854775807) :
    Calls Try.prog 7 #[.int .i64 n, .int .i64 y] w fun e w' => e = .returned (.bool true) ∧ Below w.heap.size w w' := by
  by_cases h : n = 0 ∨ n < -9223372036854775807
  · exact splits_out n y w h
  · exact splits_told n y w (by omega) (by omega) (by omega)
end Go.Proofs.Ytlpkpmpkbinfoaa.Whole
