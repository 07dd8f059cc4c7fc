/-
  Contracts of whole.common (int64), whole.Gcd, whole.Split: the greatest common divisor; how often one number divides another, and what is left; the world stays as it was, but for draws of an order.
-/
import Derived.Test.YtjklbnakgkffnaaDoorW3
import Derived.BigQuiet
import Derived.Deep.QuietTactic
namespace Go.Proofs.YtjklbnakgkffnaaDoor.Whole
open Go.RowKit
set_option linter.unusedVariables false
set_option linter.unusedSimpArgs false

set_option maxHeartbeats 400000 in
theorem common_nat (x y : Nat) (w : World) (hx : x ≤ 9223372036854775807) (hy : y ≤ 9223372036854775807) :
    Calls Tryd.prog 106 #[.int .i64 x, .int .i64 y] w fun e w' => e = .returned (.int .i64 (Nat.gcd x y : Nat)) ∧ ∃ n, w' = w.drewN n := by
  go_enter Tryd.func106, Tryd.ntmps106
  go_wp2
  go_loopw [0, 1] (fun a b v => ∃ m n k : Nat, a = .int .i64 m ∧ b = .int .i64 n ∧ m ≤ 9223372036854775807 ∧ n ≤ 9223372036854775807 ∧ Hid (Nat.gcd m n = Nat.gcd x y) ∧ v = w.drewN k) (fun _ b _ => (intOf b).toNat)
  case atStart => exact ⟨x, y, 0, rfl, rfl, hx, hy, rfl, rfl⟩
  case round =>
    obtain ⟨m, n, k, rfl, rfl, hm, hn, hg, rfl⟩ := hrel
    by_cases hz : n = 0
    · subst hz
      have hb : ((0 : Int) != 0) = false := by decide
      go_wp2
      go_ret
      refine ⟨?_, k, rfl⟩
      have := hg.out; rw [Nat.gcd_zero_right] at this; rw [← this]; rfl
    · have hb : ((n : Int) != 0) = true := by simp; omega
      have hb2 : ((n : Int) == 0) = false := by simp; omega
      have hl : m % n < n := Nat.mod_lt _ (by omega)
      go_wp2
      go_quiet (fail)
      go_wp2
      go_roundw
      case rel =>
        refine ⟨n, m % n, k + nq, rfl, rfl, hn, by omega, ?_, by rw [World.drewN_drewN]⟩
        show Nat.gcd n (m % n) = Nat.gcd x y
        rw [← hg.out, Nat.gcd_comm n, Nat.gcd_comm m n, Nat.gcd_rec n m]
      case measure => simp only [intOf]; omega

theorem common_any (x y : Int) (w : World) (hx0 : 0 ≤ x) (hy0 : 0 ≤ y) (hx : x ≤ 9223372036854775807) (hy : y ≤ 9223372036854775807) :
    Calls Tryd.prog 106 #[.int .i64 x, .int .i64 y] w fun e w' => e = .returned (.int .i64 (Int.gcd x y : Nat)) ∧ ∃ n, w' = w.drewN n := by
  obtain ⟨m, rfl⟩ := Int.eq_ofNat_of_zero_le hx0
  obtain ⟨n, rfl⟩ := Int.eq_ofNat_of_zero_le hy0
  exact common_nat m n w (by omega) (by omega)

set_option maxHeartbeats 400000 in
theorem gcd_yes (a b : Int) (w : World) (ha : -9223372036854775807 ≤ a) (hb : -9223372036854775807 ≤ b) (ha' : a ≤ 9223372036854775807) (hb' : b ≤ 9223372036854775807) :
    Calls Tryd.prog 86 #[.int .i64 a, .int .i64 b] w fun e w' => e = .returned (.int .i64 (Int.gcd a b : Nat)) ∧ ∃ n, w' = w.drewN n := by
  go_enter Tryd.func86, Tryd.ntmps86
  go_wp2_with (first
    | (go_at_call 59; ((with_reducible refine (fits_yes _ _ (by omega)).mono ?_); rintro e w' ⟨rfl, rfl⟩))
    | (go_at_call 107; ((with_reducible refine (size_any _ _ (by omega)).mono ?_); rintro e w' ⟨rfl, rfl⟩))
    | (go_at_call 106; ((with_reducible refine (common_any _ _ _ (by omega) (by omega) (by omega) (by omega)).mono ?_); rintro e w' ⟨rfl, n, rfl⟩)))
  all_goals go_ret
  all_goals exact ⟨rfl, n, rfl⟩

set_option maxHeartbeats 400000 in
theorem gcd_no1 (a b : Int) (w : World) (ha : a < -9223372036854775807) :
    Calls Tryd.prog 86 #[.int .i64 a, .int .i64 b] w fun e w' => e = .returned (.int .i64 0) ∧ w = w' := by
  go_enter Tryd.func86, Tryd.ntmps86
  go_wp2_with (go_at_call 59; ((with_reducible refine (fits_no _ _ ha).mono ?_); rintro e w' ⟨rfl, rfl⟩))
  all_goals go_ret
  all_goals exact ⟨rfl, rfl⟩

set_option maxHeartbeats 400000 in
theorem gcd_no2 (a b : Int) (w : World) (ha : -9223372036854775807 ≤ a) (hb : b < -9223372036854775807) :
    Calls Tryd.prog 86 #[.int .i64 a, .int .i64 b] w fun e w' => e = .returned (.int .i64 0) ∧ w = w' := by
  go_enter Tryd.func86, Tryd.ntmps86
  go_wp2_with (first
    | (go_at_call_of 59 (Value.int IntKind.i64 b); ((with_reducible refine (fits_no _ _ hb).mono ?_); rintro e w' ⟨rfl, rfl⟩))
    | (go_at_call_of 59 (Value.int IntKind.i64 a); ((with_reducible refine (fits_yes _ _ ha).mono ?_); rintro e w' ⟨rfl, rfl⟩)))
  all_goals go_ret
  all_goals exact ⟨rfl, rfl⟩

theorem gcd_no (a b : Int) (w : World) (h : a < -9223372036854775807 ∨ b < -9223372036854775807) :
    Calls Tryd.prog 86 #[.int .i64 a, .int .i64 b] w fun e w' => e = .returned (.int .i64 0) ∧ w = w' := by
  by_cases h1 : a < -9223372036854775807
  · exact gcd_no1 a b w h1
  · exact gcd_no2 a b w (by omega) (by omega)

set_option maxHeartbeats 400000 in
theorem split_yes (n k : Int) (w : World) (hn : -9223372036854775807 ≤ n) (hn' : n ≤ 9223372036854775807) (hk : 2 ≤ k) (hk' : k ≤ 9223372036854775807) (h0 : n ≠ 0) :
    Calls Tryd.prog 84 #[.int .i64 n, .int .i64 k] w fun e w' => e = .returned (.tuple #[.int .i64 (spT n k : Nat), .int .i64 (spL n k)]) ∧ w = w' := by
  have e0 : (n == 0) = false := by simpa using h0
  have e2 : decide (k < 2) = false := by simp; omega
  have ek : (k == 0) = false := by simp; omega
  go_enter Tryd.func84, Tryd.ntmps84
  go_wp2_with (go_at_call 59; ((with_reducible refine (fits_yes _ _ hn).mono ?_); rintro e w' ⟨rfl, rfl⟩))
  go_loop [0, 6] (fun a b => ∃ (m : Int) (t : Nat), a = .int .i64 m ∧ b = .int .i64 t ∧ -9223372036854775807 ≤ m ∧ m ≤ 9223372036854775807 ∧ m.natAbs + t ≤ n.natAbs ∧ Hid (m ≠ 0) ∧ Hid (m * k ^ t = n)) (fun a _ => (intOf a).natAbs)
  case atStart => exact ⟨n, 0, rfl, rfl, hn, hn', by omega, h0, by show n * k ^ 0 = n; simp⟩
  case round =>
    obtain ⟨m, t, rfl, rfl, hm, hm', ht, hm0, hp⟩ := hrel
    by_cases hd : m % k = 0
    · obtain ⟨d0, d1, d2⟩ := div_less m k hk hm0.out hd
      have H0 := Lib.hid d0
      have H1 := Lib.hid (sp_step n k m t hd hp.out)
      have et : (m.tmod k == 0) = true := by simp [(tmod_zero m k).2 hd]
      have eq := tdiv_is m k hd
      have hq1 : -9223372036854775807 ≤ m.tdiv k := by rw [eq]; omega
      have hq2 : m.tdiv k ≤ 9223372036854775807 := by rw [eq]; omega
      have EQ := Lib.hid eq
      clear eq hd d0 d2
      go_wp2
      go_round
      case rel => exact ⟨m.tdiv k, t + 1, rfl, by go_num, hq1, hq2, by rw [EQ.out]; omega, by rw [EQ.out]; exact H0, by rw [EQ.out]; exact H1⟩
      case measure => simp only [intOf]; rw [EQ.out]; omega
    · have et : (m.tmod k == 0) = false := by simp [tmod_zero m k, hd]
      obtain ⟨h1, h2⟩ := sp_is n k m t hk h0 hp.out hd
      have H1 := Lib.hid h1
      have H2 := Lib.hid h2
      clear h1 h2 hd
      go_wp2
      go_ret2
      exact ⟨by rw [← H1.out, ← H2.out]; rfl, rfl⟩

set_option maxHeartbeats 400000 in
theorem split_no0 (k : Int) (w : World) :
    Calls Tryd.prog 84 #[.int .i64 0, .int .i64 k] w fun e w' => e = .returned (.tuple #[.int .i64 0, .int .i64 0]) ∧ w = w' := by
  go_enter Tryd.func84, Tryd.ntmps84
  go_wp2
  all_goals go_ret2
  all_goals exact ⟨rfl, rfl⟩

set_option maxHeartbeats 400000 in
theorem split_no1 (n k : Int) (w : World) (h : n < -9223372036854775807) :
    Calls Tryd.prog 84 #[.int .i64 n, .int .i64 k] w fun e w' => e = .returned (.tuple #[.int .i64 0, .int .i64 n]) ∧ w = w' := by
  have e0 : (n == 0) = false := by simp; omega
  go_enter Tryd.func84, Tryd.ntmps84
  go_wp2_with (go_at_call 59; ((with_reducible refine (fits_no _ _ h).mono ?_); rintro e w' ⟨rfl, rfl⟩))
  all_goals go_ret2
  all_goals exact ⟨rfl, rfl⟩

set_option maxHeartbeats 400000 in
theorem split_no2 (n k : Int) (w : World) (h0 : n ≠ 0) (h : -9223372036854775807 ≤ n) (hk : k < 2) :
    Calls Tryd.prog 84 #[.int .i64 n, .int .i64 k] w fun e w' => e = .returned (.tuple #[.int .i64 0, .int .i64 n]) ∧ w = w' := by
  have e0 : (n == 0) = false := by simpa using h0
  go_enter Tryd.func84, Tryd.ntmps84
  go_wp2_with (go_at_call 59; ((with_reducible refine (fits_yes _ _ h).mono ?_); rintro e w' ⟨rfl, rfl⟩))
  all_goals go_ret2
  all_goals exact ⟨rfl, rfl⟩

theorem split_no (n k : Int) (w : World) (h : n = 0 ∨ n < -9223372036854775807 ∨ k < 2) :
    Calls Tryd.prog 84 #[.int .i64 n, .int .i64 k] w fun e w' => e = .returned (.tuple #[.int .i64 0, .int .i64 n]) ∧ w = w' := by
  by_cases h0 : n = 0
  · subst h0; exact split_no0 k w
  by_cases h1 : n < -9223372036854775807
  · exact split_no1 n k w h1
  · exact split_no2 n k w h0 (by omega) (by omega)

end Go.Proofs.YtjklbnakgkffnaaDoor.Whole
