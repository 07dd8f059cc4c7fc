/-
  Contracts of (frac.parts).form: the form of a number that was taken apart, or that it goes beyond the limits; the world below stays as it was.
-/
import Derived.Test.YtjklbnakgkffnaaDoorF1
namespace Go.Proofs.YtjklbnakgkffnaaDoor.Frac
open Go.RowKit
open Go.Proofs.YtjklbnakgkffnaaDoor.Whole
set_option linter.unusedVariables false
set_option linter.unusedSimpArgs false

set_option maxRecDepth 100000 in
set_option maxHeartbeats 1000000 in
theorem form_zero (d e2 e5 : Int) (w : World) :
    Calls Tryd.prog 83 #[.agg #[.int .i64 0, .int .i64 d, .int .i64 e2, .int .i64 e5]] w fun e w' => e = .returned (.tuple #[.agg #[.int .i64 0, .int .i64 1, .int .i64 0], .int .i64 0]) ∧ Below w.heap.size w w' := by
  go_enter Tryd.func83, Tryd.ntmps83
  go_wp2
  refine bodyPost_ret (v := .tuple #[.agg #[.int .i64 0, .int .i64 1, .int .i64 0], .int .i64 0]) (by simp [results, Tryd.results83, go_sem]) rfl ⟨rfl, ?_⟩
  go_grown

set_option maxRecDepth 100000 in
set_option maxHeartbeats 1000000 in
theorem form_far1 (n d e2 e5 : Int) (w : World) (h0 : n ≠ 0) (hle : e2 ≤ e5) (hb : e2 < -1000 ∨ 1000 < e2) :
    Calls Tryd.prog 83 #[.agg #[.int .i64 n, .int .i64 d, .int .i64 e2, .int .i64 e5]] w fun e w' => e = .returned (.tuple #[.agg #[.int .i64 0, .int .i64 0, .int .i64 0], .int .i64 10]) ∧ Below w.heap.size w w' := by
  have z0 : (n == 0) = false := by simpa using h0
  go_enter Tryd.func83, Tryd.ntmps83
  go_wp2
  all_goals
    refine bodyPost_ret (v := .tuple #[.agg #[.int .i64 0, .int .i64 0, .int .i64 0], .int .i64 10]) (by simp [results, Tryd.results83, go_sem]) rfl ⟨rfl, ?_⟩
    go_grown

set_option maxRecDepth 100000 in
set_option maxHeartbeats 1000000 in
theorem form_far2 (n d e2 e5 : Int) (w : World) (h0 : n ≠ 0) (hle : e5 < e2) (hb : e5 < -1000 ∨ 1000 < e5) :
    Calls Tryd.prog 83 #[.agg #[.int .i64 n, .int .i64 d, .int .i64 e2, .int .i64 e5]] w fun e w' => e = .returned (.tuple #[.agg #[.int .i64 0, .int .i64 0, .int .i64 0], .int .i64 10]) ∧ Below w.heap.size w w' := by
  have z0 : (n == 0) = false := by simpa using h0
  go_enter Tryd.func83, Tryd.ntmps83
  go_wp2
  all_goals
    refine bodyPost_ret (v := .tuple #[.agg #[.int .i64 0, .int .i64 0, .int .i64 0], .int .i64 10]) (by simp [results, Tryd.results83, go_sem]) rfl ⟨rfl, ?_⟩
    go_grown

/-- A greater power is a greater number. -/
theorem pow_step (n q : Int) (k : Nat) : n * q ^ k * q = n * q ^ (k + 1) := by rw [Int.pow_succ, Int.mul_assoc]
theorem pow_mono (n q : Int) (k m : Nat) (hq : 1 ≤ q) (h : k ≤ m) : (n * q ^ k).natAbs ≤ (n * q ^ m).natAbs := by
  rw [Int.natAbs_mul, Int.natAbs_mul, Int.natAbs_pow, Int.natAbs_pow]
  exact Nat.mul_le_mul_left _ (Nat.pow_le_pow_right (by omega) h)

set_option maxRecDepth 100000 in
set_option maxHeartbeats 1000000 in
/-- At least as many fives as twos, and the form is right. -/
theorem form_five (n d e N : Int) (M : Nat) (w : World) (hT : OfTen w) (h0 : n ≠ 0) (hn : -9223372036854775807 ≤ n) (hn' : n ≤ 9223372036854775807) (h1 : -1000 ≤ e) (h2 : e ≤ 1000) (hM : M ≤ 1000000) (hN : N = n * 5 ^ M) (hN' : N.natAbs ≤ 9223372036854775807) :
    Calls Tryd.prog 83 #[.agg #[.int .i64 n, .int .i64 d, .int .i64 e, .int .i64 (e + M)]] w fun e' w' => e' = .returned (.tuple #[.agg #[.int .i64 N, .int .i64 d, .int .i64 e], .int .i64 0]) ∧ Below w.heap.size w w' := by
  have z0 : (n == 0) = false := by simpa using h0
  obtain ⟨c0, c1, hz⟩ := hT
  have hz2 : 1 < w.heap.size + 1 := by omega
  have hz3 : 1 < w.heap.size + 1 + 1 := by omega
  have i0 := idx_l0
  have i1 := idx_l1
  have HN := Lib.hid hN
  clear hN h0
  go_enter Tryd.func83, Tryd.ntmps83
  go_wp2
  refine wp_loop_rounds 3 ?_
  rw [rounds_succ]
  go_wp2
  refine wp_loop_rounds 1 ?_
  rw [rounds_succ]
  go_wp2
  rw [rounds_succ]
  go_wp2
  go_loop [5, 40] (fun a b => ∃ (m : Int) (k : Nat), a = .int .i64 m ∧ b = .int .i64 k ∧ k ≤ M ∧ -9223372036854775807 ≤ m ∧ m ≤ 9223372036854775807 ∧ Hid (m = n * 5 ^ k)) (fun _ b => M - (intOf b).toNat)
  case atStart => exact ⟨n, 0, rfl, rfl, by omega, hn, hn', by show n = n * 5 ^ 0; simp⟩
  case round =>
    obtain ⟨m, k, rfl, rfl, hk, hm, hm', HK⟩ := hrel
    by_cases hlt : k < M
    · have hp := pow_mono n 5 (k + 1) M (by omega) (by omega)
      rw [← HN.out] at hp
      obtain ⟨p, hpe⟩ : ∃ p, p = n * 5 ^ (k + 1) := ⟨_, rfl⟩
      rw [← hpe] at hp
      have HP := Lib.hid hpe
      have HM : Hid (m * 5 = p) := by show m * 5 = p; rw [HK.out, hpe, pow_step]
      clear hpe
      go_wp2_with (go_at_call 87; ((with_reducible refine (mul_core _ _ p _ (by omega) (by omega) (by omega) (by omega) HM (by omega) (by omega)).mono ?_); rintro e' w' ⟨rfl, rfl⟩))
      go_round
      case rel => exact ⟨p, k + 1, rfl, by go_num, by omega, by omega, by omega, HP⟩
      case measure => simp only [intOf]; omega
    · obtain rfl : k = M := by omega
      have HE : Hid (m = N) := by show m = N; rw [HK.out, HN.out]
      go_wp2
      rw [rounds_succ]
      go_wp2
      obtain rfl := HE.out
      refine bodyPost_ret (v := .tuple #[.agg #[.int .i64 m, .int .i64 d, .int .i64 e], .int .i64 0]) (by simp [results, Tryd.results83, go_sem]) rfl ⟨rfl, ?_⟩
      go_grown

set_option maxRecDepth 100000 in
set_option maxHeartbeats 1000000 in
/-- At least as many fives as twos, and the form goes beyond the limits. -/
theorem form_five_over (n d e N : Int) (M : Nat) (w : World) (hT : OfTen w) (h0 : n ≠ 0) (hn : -9223372036854775807 ≤ n) (hn' : n ≤ 9223372036854775807) (h1 : -1000 ≤ e) (h2 : e ≤ 1000) (hM : M ≤ 1000000) (hN : N = n * 5 ^ M) (hN' : 9223372036854775807 < N.natAbs) :
    Calls Tryd.prog 83 #[.agg #[.int .i64 n, .int .i64 d, .int .i64 e, .int .i64 (e + M)]] w fun e' w' => e' = .returned (.tuple #[.agg #[.int .i64 0, .int .i64 0, .int .i64 0], .int .i64 10]) ∧ Below w.heap.size w w' := by
  have z0 : (n == 0) = false := by simpa using h0
  obtain ⟨c0, c1, hz⟩ := hT
  have hz2 : 1 < w.heap.size + 1 := by omega
  have hz3 : 1 < w.heap.size + 1 + 1 := by omega
  have i0 := idx_l0
  have i1 := idx_l1
  have HN := Lib.hid hN
  clear hN h0
  go_enter Tryd.func83, Tryd.ntmps83
  go_wp2
  refine wp_loop_rounds 3 ?_
  rw [rounds_succ]
  go_wp2
  refine wp_loop_rounds 1 ?_
  rw [rounds_succ]
  go_wp2
  rw [rounds_succ]
  go_wp2
  go_loop [5, 40] (fun a b => ∃ (m : Int) (k : Nat), a = .int .i64 m ∧ b = .int .i64 k ∧ k ≤ M ∧ -9223372036854775807 ≤ m ∧ m ≤ 9223372036854775807 ∧ Hid (m = n * 5 ^ k)) (fun _ b => M - (intOf b).toNat)
  case atStart => exact ⟨n, 0, rfl, rfl, by omega, hn, hn', by show n = n * 5 ^ 0; simp⟩
  case round =>
    obtain ⟨m, k, rfl, rfl, hk, hm, hm', HK⟩ := hrel
    by_cases hlt : k < M
    · obtain ⟨p, hpe⟩ : ∃ p, p = n * 5 ^ (k + 1) := ⟨_, rfl⟩
      have HP := Lib.hid hpe
      have HM : Hid (m * 5 = p) := by show m * 5 = p; rw [HK.out, hpe, pow_step]
      clear hpe
      by_cases hfit : p.natAbs ≤ 9223372036854775807
      · go_wp2_with (go_at_call 87; ((with_reducible refine (mul_core _ _ p _ (by omega) (by omega) (by omega) (by omega) HM (by omega) (by omega)).mono ?_); rintro e' w' ⟨rfl, rfl⟩))
        go_round
        case rel => exact ⟨p, k + 1, rfl, by go_num, by omega, by omega, by omega, HP⟩
        case measure => simp only [intOf]; omega
      · have ho : m * 5 < -9223372036854775807 ∨ 9223372036854775807 < m * 5 := by rw [HM.out]; omega
        go_wp2_with (go_at_call 87; ((with_reducible refine (mul_no _ _ _ (by omega) (by omega) (.inr (.inr ho))).mono ?_); rintro e' w' ⟨rfl, rfl⟩))
        refine bodyPost_ret (v := .tuple #[.agg #[.int .i64 0, .int .i64 0, .int .i64 0], .int .i64 10]) (by simp [results, Tryd.results83, go_sem]) rfl ⟨rfl, ?_⟩
        go_grown
    · exfalso
      have := HK.out
      rw [show k = M from by omega, ← HN.out] at this
      omega

set_option maxRecDepth 100000 in
set_option maxHeartbeats 1000000 in
/-- More twos than fives, and the form is right. -/
theorem form_two (n d e N : Int) (M : Nat) (w : World) (hT : OfTen w) (h0 : n ≠ 0) (hn : -9223372036854775807 ≤ n) (hn' : n ≤ 9223372036854775807) (h1 : -1000 ≤ e) (h2 : e ≤ 1000) (hM : 0 < M ∧ M ≤ 1000000) (hN : N = n * 2 ^ M) (hN' : N.natAbs ≤ 9223372036854775807) :
    Calls Tryd.prog 83 #[.agg #[.int .i64 n, .int .i64 d, .int .i64 (e + M), .int .i64 e]] w fun e' w' => e' = .returned (.tuple #[.agg #[.int .i64 N, .int .i64 d, .int .i64 e], .int .i64 0]) ∧ Below w.heap.size w w' := by
  have z0 : (n == 0) = false := by simpa using h0
  obtain ⟨c0, c1, hz⟩ := hT
  have hz2 : 1 < w.heap.size + 1 := by omega
  have hz3 : 1 < w.heap.size + 1 + 1 := by omega
  have i0 := idx_l0
  have i1 := idx_l1
  have HN := Lib.hid hN
  clear hN h0
  go_enter Tryd.func83, Tryd.ntmps83
  go_wp2
  refine wp_loop_rounds 3 ?_
  rw [rounds_succ]
  go_wp2
  go_loop [5, 40] (fun a b => ∃ (m : Int) (k : Nat), a = .int .i64 m ∧ b = .int .i64 k ∧ k ≤ M ∧ -9223372036854775807 ≤ m ∧ m ≤ 9223372036854775807 ∧ Hid (m = n * 2 ^ k)) (fun _ b => M - (intOf b).toNat)
  case atStart => exact ⟨n, 0, rfl, rfl, by omega, hn, hn', by show n = n * 2 ^ 0; simp⟩
  case round =>
    obtain ⟨m, k, rfl, rfl, hk, hm, hm', HK⟩ := hrel
    by_cases hlt : k < M
    · have hp := pow_mono n 2 (k + 1) M (by omega) (by omega)
      rw [← HN.out] at hp
      obtain ⟨p, hpe⟩ : ∃ p, p = n * 2 ^ (k + 1) := ⟨_, rfl⟩
      rw [← hpe] at hp
      have HP := Lib.hid hpe
      have HM : Hid (m * 2 = p) := by show m * 2 = p; rw [HK.out, hpe, pow_step]
      clear hpe
      go_wp2_with (go_at_call 87; ((with_reducible refine (mul_core _ _ p _ (by omega) (by omega) (by omega) (by omega) HM (by omega) (by omega)).mono ?_); rintro e' w' ⟨rfl, rfl⟩))
      go_round
      case rel => exact ⟨p, k + 1, rfl, by go_num, by omega, by omega, by omega, HP⟩
      case measure => simp only [intOf]; omega
    · obtain rfl : k = M := by omega
      have HE : Hid (m = N) := by show m = N; rw [HK.out, HN.out]
      go_wp2
      rw [rounds_succ]
      go_wp2
      refine wp_loop_rounds 1 ?_
      rw [rounds_succ]
      go_wp2
      rw [rounds_succ]
      go_wp2
      obtain rfl := HE.out
      refine bodyPost_ret (v := .tuple #[.agg #[.int .i64 m, .int .i64 d, .int .i64 e], .int .i64 0]) (by simp [results, Tryd.results83, go_sem]) rfl ⟨rfl, ?_⟩
      go_grown

set_option maxRecDepth 100000 in
set_option maxHeartbeats 1000000 in
/-- More twos than fives, and the form goes beyond the limits. -/
theorem form_two_over (n d e N : Int) (M : Nat) (w : World) (hT : OfTen w) (h0 : n ≠ 0) (hn : -9223372036854775807 ≤ n) (hn' : n ≤ 9223372036854775807) (h1 : -1000 ≤ e) (h2 : e ≤ 1000) (hM : 0 < M ∧ M ≤ 1000000) (hN : N = n * 2 ^ M) (hN' : 9223372036854775807 < N.natAbs) :
    Calls Tryd.prog 83 #[.agg #[.int .i64 n, .int .i64 d, .int .i64 (e + M), .int .i64 e]] w fun e' w' => e' = .returned (.tuple #[.agg #[.int .i64 0, .int .i64 0, .int .i64 0], .int .i64 10]) ∧ Below w.heap.size w w' := by
  have z0 : (n == 0) = false := by simpa using h0
  obtain ⟨c0, c1, hz⟩ := hT
  have hz2 : 1 < w.heap.size + 1 := by omega
  have hz3 : 1 < w.heap.size + 1 + 1 := by omega
  have i0 := idx_l0
  have i1 := idx_l1
  have HN := Lib.hid hN
  clear hN h0
  go_enter Tryd.func83, Tryd.ntmps83
  go_wp2
  refine wp_loop_rounds 3 ?_
  rw [rounds_succ]
  go_wp2
  go_loop [5, 40] (fun a b => ∃ (m : Int) (k : Nat), a = .int .i64 m ∧ b = .int .i64 k ∧ k ≤ M ∧ -9223372036854775807 ≤ m ∧ m ≤ 9223372036854775807 ∧ Hid (m = n * 2 ^ k)) (fun _ b => M - (intOf b).toNat)
  case atStart => exact ⟨n, 0, rfl, rfl, by omega, hn, hn', by show n = n * 2 ^ 0; simp⟩
  case round =>
    obtain ⟨m, k, rfl, rfl, hk, hm, hm', HK⟩ := hrel
    by_cases hlt : k < M
    · obtain ⟨p, hpe⟩ : ∃ p, p = n * 2 ^ (k + 1) := ⟨_, rfl⟩
      have HP := Lib.hid hpe
      have HM : Hid (m * 2 = p) := by show m * 2 = p; rw [HK.out, hpe, pow_step]
      clear hpe
      by_cases hfit : p.natAbs ≤ 9223372036854775807
      · go_wp2_with (go_at_call 87; ((with_reducible refine (mul_core _ _ p _ (by omega) (by omega) (by omega) (by omega) HM (by omega) (by omega)).mono ?_); rintro e' w' ⟨rfl, rfl⟩))
        go_round
        case rel => exact ⟨p, k + 1, rfl, by go_num, by omega, by omega, by omega, HP⟩
        case measure => simp only [intOf]; omega
      · have ho : m * 2 < -9223372036854775807 ∨ 9223372036854775807 < m * 2 := by rw [HM.out]; omega
        go_wp2_with (go_at_call 87; ((with_reducible refine (mul_no _ _ _ (by omega) (by omega) (.inr (.inr ho))).mono ?_); rintro e' w' ⟨rfl, rfl⟩))
        refine bodyPost_ret (v := .tuple #[.agg #[.int .i64 0, .int .i64 0, .int .i64 0], .int .i64 10]) (by simp [results, Tryd.results83, go_sem]) rfl ⟨rfl, ?_⟩
        go_grown
    · exfalso
      have := HK.out
      rw [show k = M from by omega, ← HN.out] at this
      omega

end Go.Proofs.YtjklbnakgkffnaaDoor.Frac
