/-
  Contracts of frac.apart, frac.partsOf, (frac.parts).turned: a number taken apart; the world below stays as it was. Contracts of (frac.parts).form: the form of a number that was taken apart, or that it goes beyond the limits; the world below stays as it was. Contracts of frac.partsOf, frac.times and its closure, frac.join. Plain mathematics for exact numbers: a number taken apart, put together, its form; no program in this text. Contracts of frac.apart, partsOf, turned, times, form, join, each by one Lean function of the numbers; the world below stays as it was. Contracts of frac.Make, Right, Mul, Div, Pow, each by one Lean function of the numbers; the world below stays as it was.
-/
import Derived.Test.YtpmibcdmaaagjaaDoorR2
import Derived.Handy
import Derived.Test.YtpmibcdmaaagjaaDoorM
namespace Go.Proofs.YtpmibcdmaaagjaaDoor.Frac
open Go.RowKit
open Go.Proofs.YtpmibcdmaaagjaaDoor.Whole
set_option linter.unusedVariables false
set_option linter.unusedSimpArgs false

/-- The package-level variable frac.ofTen holds 2 and 5. -/
def OfTen (w : World) : Prop := w.cell? ⟨0, 0, none⟩ = some (.int .i64 2) ∧ w.cell? ⟨0, 1, none⟩ = some (.int .i64 5) ∧ 0 < w.heap.size

theorem OfTen.below {w w' : World} (h : OfTen w) (hb : Below w.heap.size w w') : OfTen w' := by
  obtain ⟨h0, h1, hz⟩ := h
  exact ⟨(hb.cell (p := ⟨0, 0, none⟩) hz).trans h0, (hb.cell (p := ⟨0, 1, none⟩) hz).trans h1, by have := hb.size; omega⟩

/-- Behind a call that only makes memory all old cells, and their marks, read as before. -/
theorem bcell {W w1 : World} (hb : Below W.heap.size W w1) : (∀ b o, b < W.heap.size → w1.cell? ⟨b, o, none⟩ = W.cell? ⟨b, o, none⟩) ∧ (∀ b o, b < W.heap.size → w1.frozen? ⟨b, o, none⟩ = W.frozen? ⟨b, o, none⟩) :=
  ⟨fun b o h => hb.cell (p := ⟨b, o, none⟩) h, fun b o h => hb.frozen (p := ⟨b, o, none⟩) h⟩

theorem idx_l0 (a b : Value) (w : World) : (Instr.index 108 (.agg #[a, b]) (.int .i64 0)).run Tryd.prog w = .ok a w := by kernel_rfl
theorem idx_l1 (a b : Value) (w : World) : (Instr.index 108 (.agg #[a, b]) (.int .i64 1)).run Tryd.prog w = .ok b w := by kernel_rfl
theorem idx_i0 (a b : Value) (w : World) : (Instr.index 92 (.agg #[a, b]) (.int .i64 0)).run Tryd.prog w = .ok a w := by kernel_rfl
theorem idx_i1 (a b : Value) (w : World) : (Instr.index 92 (.agg #[a, b]) (.int .i64 1)).run Tryd.prog w = .ok b w := by kernel_rfl

set_option maxRecDepth 100000 in
set_option maxHeartbeats 1000000 in
theorem apart_yes (n ten : Int) (w : World) (hT : OfTen w) (hn : -9223372036854775807 ≤ n) (hn' : n ≤ 9223372036854775807) (h0 : n ≠ 0) (ht : -2000 ≤ ten) (ht' : ten ≤ 2000) :
    Calls Tryd.prog 48 #[.int .i64 n, .int .i64 ten] w fun e w' => e = .returned (.agg #[.int .i64 (spL (spL n 2) 5), .int .i64 1, .int .i64 (spT n 2 + ten), .int .i64 (spT (spL n 2) 5 + ten)]) ∧ Below w.heap.size w w' := by
  obtain ⟨c0, c1, hz⟩ := hT
  have hz2 : 0 < w.heap.size + 1 := by omega
  have b2 := spT_lt n 2 (by omega) h0 (by omega)
  have hL0 : spL n 2 ≠ 0 := fun h => by have := (sp_spec n 2 (by omega) h0).2; rw [h] at this; simp at this
  have hLb := spL_le n 2 (by omega) h0
  have b5 := spT_lt (spL n 2) 5 (by omega) hL0 (by omega)
  have H0 := Lib.hid h0
  have HL := Lib.hid hL0
  clear h0 hL0
  have i0 := idx_l0
  have i1 := idx_l1
  go_enter Tryd.func48, Tryd.ntmps48
  go_wp2
  refine wp_loop_rounds 3 ?_
  rw [rounds_succ]
  go_wp2_with (go_at_call 55; ((with_reducible refine (split_yes _ _ _ (by omega) (by omega) (by omega) (by omega) H0.out).mono ?_); rintro e w' ⟨rfl, rfl⟩))
  rw [rounds_succ]
  go_wp2_with (go_at_call 55; ((with_reducible refine (split_yes _ _ _ (by omega) (by omega) (by omega) (by omega) HL.out).mono ?_); rintro e w' ⟨rfl, rfl⟩))
  rw [rounds_succ]
  go_wp2
  refine bodyPost_ret (v := .agg #[.int .i64 (spL (spL n 2) 5), .int .i64 1, .int .i64 (spT n 2 + ten), .int .i64 (spT (spL n 2) 5 + ten)]) (by simp [results, Tryd.results48, go_sem]) rfl ⟨rfl, ?_⟩
  go_grown

set_option maxRecDepth 100000 in
set_option maxHeartbeats 1000000 in
theorem apart_zero (ten : Int) (w : World) (hT : OfTen w) (ht : -2000 ≤ ten) (ht' : ten ≤ 2000) :
    Calls Tryd.prog 48 #[.int .i64 0, .int .i64 ten] w fun e w' => e = .returned (.agg #[.int .i64 0, .int .i64 1, .int .i64 ten, .int .i64 ten]) ∧ Below w.heap.size w w' := by
  obtain ⟨c0, c1, hz⟩ := hT
  have hz2 : 0 < w.heap.size + 1 := by omega
  have i0 := idx_l0
  have i1 := idx_l1
  go_enter Tryd.func48, Tryd.ntmps48
  go_wp2
  refine wp_loop_rounds 3 ?_
  rw [rounds_succ]
  go_wp2_with (go_at_call 55; ((with_reducible refine (split_no0 _ _).mono ?_); rintro e w' ⟨rfl, rfl⟩))
  rw [rounds_succ]
  go_wp2_with (go_at_call 55; ((with_reducible refine (split_no0 _ _).mono ?_); rintro e w' ⟨rfl, rfl⟩))
  rw [rounds_succ]
  go_wp2
  refine bodyPost_ret (v := .agg #[.int .i64 0, .int .i64 1, .int .i64 ten, .int .i64 ten]) (by simp [results, Tryd.results48, go_sem]) rfl ⟨rfl, ?_⟩
  go_grown

set_option maxRecDepth 100000 in
set_option maxHeartbeats 1000000 in
theorem turned_neg (n d e2 e5 : Int) (w : World) (hn : -9223372036854775807 ≤ n) (h0 : n < 0) (hd : 0 ≤ d) (hd' : d ≤ 9223372036854775807) (h1 : -1000000 ≤ e2) (h2 : e2 ≤ 1000000) (h3 : -1000000 ≤ e5) (h4 : e5 ≤ 1000000) :
    Calls Tryd.prog 50 #[.agg #[.int .i64 n, .int .i64 d, .int .i64 e2, .int .i64 e5]] w fun e w' => e = .returned (.agg #[.int .i64 (-d), .int .i64 (-n), .int .i64 (-e2), .int .i64 (-e5)]) ∧ Below w.heap.size w w' := by
  have i0 := idx_i0
  have i1 := idx_i1
  go_enter Tryd.func50, Tryd.ntmps50
  go_wp2
  refine wp_loop_rounds 3 ?_
  rw [rounds_succ]
  go_wp2
  rw [rounds_succ]
  go_wp2
  rw [rounds_succ]
  go_wp2
  refine bodyPost_ret (v := .agg #[.int .i64 (-d), .int .i64 (-n), .int .i64 (-e2), .int .i64 (-e5)]) (by simp [results, Tryd.results50, go_sem]) rfl ⟨rfl, ?_⟩
  go_grown

set_option maxRecDepth 100000 in
set_option maxHeartbeats 1000000 in
theorem turned_pos (n d e2 e5 : Int) (w : World) (h0 : 0 ≤ n) (h1 : -1000000 ≤ e2) (h2 : e2 ≤ 1000000) (h3 : -1000000 ≤ e5) (h4 : e5 ≤ 1000000) :
    Calls Tryd.prog 50 #[.agg #[.int .i64 n, .int .i64 d, .int .i64 e2, .int .i64 e5]] w fun e w' => e = .returned (.agg #[.int .i64 d, .int .i64 n, .int .i64 (-e2), .int .i64 (-e5)]) ∧ Below w.heap.size w w' := by
  have i0 := idx_i0
  have i1 := idx_i1
  go_enter Tryd.func50, Tryd.ntmps50
  go_wp2
  refine wp_loop_rounds 3 ?_
  rw [rounds_succ]
  go_wp2
  rw [rounds_succ]
  go_wp2
  rw [rounds_succ]
  go_wp2
  refine bodyPost_ret (v := .agg #[.int .i64 d, .int .i64 n, .int .i64 (-e2), .int .i64 (-e5)]) (by simp [results, Tryd.results50, go_sem]) rfl ⟨rfl, ?_⟩
  go_grown

end Go.Proofs.YtpmibcdmaaagjaaDoor.Frac

namespace Go.Proofs.YtpmibcdmaaagjaaDoor.Frac
open Go.RowKit
open Go.Proofs.YtpmibcdmaaagjaaDoor.Whole
set_option linter.unusedVariables false
set_option linter.unusedSimpArgs false

set_option maxRecDepth 100000 in
set_option maxHeartbeats 1000000 in
theorem form_zero (d e2 e5 : Int) (w : World) :
    Calls Tryd.prog 54 #[.agg #[.int .i64 0, .int .i64 d, .int .i64 e2, .int .i64 e5]] w fun e w' => e = .returned (.tuple #[.agg #[.int .i64 0, .int .i64 1, .int .i64 0], .int .i64 0]) ∧ Below w.heap.size w w' := by
  go_enter Tryd.func54, Tryd.ntmps54
  go_wp2
  refine bodyPost_ret (v := .tuple #[.agg #[.int .i64 0, .int .i64 1, .int .i64 0], .int .i64 0]) (by simp [results, Tryd.results54, go_sem]) rfl ⟨rfl, ?_⟩
  go_grown

set_option maxRecDepth 100000 in
set_option maxHeartbeats 1000000 in
theorem form_far1 (n d e2 e5 : Int) (w : World) (h0 : n ≠ 0) (hle : e2 ≤ e5) (hb : e2 < -1000 ∨ 1000 < e2) :
    Calls Tryd.prog 54 #[.agg #[.int .i64 n, .int .i64 d, .int .i64 e2, .int .i64 e5]] w fun e w' => e = .returned (.tuple #[.agg #[.int .i64 0, .int .i64 0, .int .i64 0], .int .i64 10]) ∧ Below w.heap.size w w' := by
  have z0 : (n == 0) = false := by simpa using h0
  go_enter Tryd.func54, Tryd.ntmps54
  go_wp2
  all_goals
    refine bodyPost_ret (v := .tuple #[.agg #[.int .i64 0, .int .i64 0, .int .i64 0], .int .i64 10]) (by simp [results, Tryd.results54, go_sem]) rfl ⟨rfl, ?_⟩
    go_grown

set_option maxRecDepth 100000 in
set_option maxHeartbeats 1000000 in
theorem form_far2 (n d e2 e5 : Int) (w : World) (h0 : n ≠ 0) (hle : e5 < e2) (hb : e5 < -1000 ∨ 1000 < e5) :
    Calls Tryd.prog 54 #[.agg #[.int .i64 n, .int .i64 d, .int .i64 e2, .int .i64 e5]] w fun e w' => e = .returned (.tuple #[.agg #[.int .i64 0, .int .i64 0, .int .i64 0], .int .i64 10]) ∧ Below w.heap.size w w' := by
  have z0 : (n == 0) = false := by simpa using h0
  go_enter Tryd.func54, Tryd.ntmps54
  go_wp2
  all_goals
    refine bodyPost_ret (v := .tuple #[.agg #[.int .i64 0, .int .i64 0, .int .i64 0], .int .i64 10]) (by simp [results, Tryd.results54, go_sem]) rfl ⟨rfl, ?_⟩
    go_grown

/-- A greater power is a greater number. -/
theorem pow_step (n q : Int) (k : Nat) : n * q ^ k * q = n * q ^ (k + 1) := by rw [Int.pow_succ, Int.mul_assoc]
theorem pow_mono (n q : Int) (k m : Nat) (hq : 1 ≤ q) (h : k ≤ m) : (n * q ^ k).natAbs ≤ (n * q ^ m).natAbs := by
  rw [Int.natAbs_mul, Int.natAbs_mul, Int.natAbs_pow, Int.natAbs_pow]
  exact Nat.mul_le_mul_left _ (Nat.pow_le_pow_right (by omega) h)

set_option maxRecDepth 100000 in
set_option maxHeartbeats 1000000 in
/-- At least as many fives as twos, and the form is right. -/
theorem form_five (n d e N : Int) (M : Nat) (w : World) (hT : OfTen w) (h0 : n ≠ 0) (hn : -9223372036854775807 ≤ n) (hn' : n ≤ 9223372036854775807) (h1 : -1000 ≤ e) (h2 : e ≤ 1000) (hM : M ≤ 1000000) (hN : N = n * 5 ^ M) (hN' : N.natAbs ≤ 9223372036854775807) :
    Calls Tryd.prog 54 #[.agg #[.int .i64 n, .int .i64 d, .int .i64 e, .int .i64 (e + M)]] w fun e' w' => e' = .returned (.tuple #[.agg #[.int .i64 N, .int .i64 d, .int .i64 e], .int .i64 0]) ∧ Below w.heap.size w w' := by
  have z0 : (n == 0) = false := by simpa using h0
  obtain ⟨c0, c1, hz⟩ := hT
  have hz2 : 0 < w.heap.size + 1 := by omega
  have hz3 : 0 < w.heap.size + 1 + 1 := by omega
  have i0 := idx_l0
  have i1 := idx_l1
  have HN := Lib.hid hN
  clear hN h0
  go_enter Tryd.func54, Tryd.ntmps54
  go_wp2
  refine wp_loop_rounds 3 ?_
  rw [rounds_succ]
  go_wp2
  refine wp_loop_rounds 1 ?_
  rw [rounds_succ]
  go_wp2
  rw [rounds_succ]
  go_wp2
  go_loop [5, 40] (fun a b => ∃ (m : Int) (k : Nat), a = .int .i64 m ∧ b = .int .i64 k ∧ k ≤ M ∧ -9223372036854775807 ≤ m ∧ m ≤ 9223372036854775807 ∧ Hid (m = n * 5 ^ k)) (fun _ b => M - (intOf b).toNat)
  case atStart => exact ⟨n, 0, rfl, rfl, by omega, hn, hn', by show n = n * 5 ^ 0; simp⟩
  case round =>
    obtain ⟨m, k, rfl, rfl, hk, hm, hm', HK⟩ := hrel
    by_cases hlt : k < M
    · have hp := pow_mono n 5 (k + 1) M (by omega) (by omega)
      rw [← HN.out] at hp
      obtain ⟨p, hpe⟩ : ∃ p, p = n * 5 ^ (k + 1) := ⟨_, rfl⟩
      rw [← hpe] at hp
      have HP := Lib.hid hpe
      have HM : Hid (m * 5 = p) := by show m * 5 = p; rw [HK.out, hpe, pow_step]
      clear hpe
      go_wp2_with (go_at_call 58; ((with_reducible refine (mul_core _ _ p _ (by omega) (by omega) (by omega) (by omega) HM (by omega) (by omega)).mono ?_); rintro e' w' ⟨rfl, rfl⟩))
      go_round
      case rel => exact ⟨p, k + 1, rfl, by go_num, by omega, by omega, by omega, HP⟩
      case measure => simp only [intOf]; omega
    · obtain rfl : k = M := by omega
      have HE : Hid (m = N) := by show m = N; rw [HK.out, HN.out]
      go_wp2
      rw [rounds_succ]
      go_wp2
      obtain rfl := HE.out
      refine bodyPost_ret (v := .tuple #[.agg #[.int .i64 m, .int .i64 d, .int .i64 e], .int .i64 0]) (by simp [results, Tryd.results54, go_sem]) rfl ⟨rfl, ?_⟩
      go_grown

set_option maxRecDepth 100000 in
set_option maxHeartbeats 1000000 in
/-- At least as many fives as twos, and the form goes beyond the limits. -/
theorem form_five_over (n d e N : Int) (M : Nat) (w : World) (hT : OfTen w) (h0 : n ≠ 0) (hn : -9223372036854775807 ≤ n) (hn' : n ≤ 9223372036854775807) (h1 : -1000 ≤ e) (h2 : e ≤ 1000) (hM : M ≤ 1000000) (hN : N = n * 5 ^ M) (hN' : 9223372036854775807 < N.natAbs) :
    Calls Tryd.prog 54 #[.agg #[.int .i64 n, .int .i64 d, .int .i64 e, .int .i64 (e + M)]] w fun e' w' => e' = .returned (.tuple #[.agg #[.int .i64 0, .int .i64 0, .int .i64 0], .int .i64 10]) ∧ Below w.heap.size w w' := by
  have z0 : (n == 0) = false := by simpa using h0
  obtain ⟨c0, c1, hz⟩ := hT
  have hz2 : 0 < w.heap.size + 1 := by omega
  have hz3 : 0 < w.heap.size + 1 + 1 := by omega
  have i0 := idx_l0
  have i1 := idx_l1
  have HN := Lib.hid hN
  clear hN h0
  go_enter Tryd.func54, Tryd.ntmps54
  go_wp2
  refine wp_loop_rounds 3 ?_
  rw [rounds_succ]
  go_wp2
  refine wp_loop_rounds 1 ?_
  rw [rounds_succ]
  go_wp2
  rw [rounds_succ]
  go_wp2
  go_loop [5, 40] (fun a b => ∃ (m : Int) (k : Nat), a = .int .i64 m ∧ b = .int .i64 k ∧ k ≤ M ∧ -9223372036854775807 ≤ m ∧ m ≤ 9223372036854775807 ∧ Hid (m = n * 5 ^ k)) (fun _ b => M - (intOf b).toNat)
  case atStart => exact ⟨n, 0, rfl, rfl, by omega, hn, hn', by show n = n * 5 ^ 0; simp⟩
  case round =>
    obtain ⟨m, k, rfl, rfl, hk, hm, hm', HK⟩ := hrel
    by_cases hlt : k < M
    · obtain ⟨p, hpe⟩ : ∃ p, p = n * 5 ^ (k + 1) := ⟨_, rfl⟩
      have HP := Lib.hid hpe
      have HM : Hid (m * 5 = p) := by show m * 5 = p; rw [HK.out, hpe, pow_step]
      clear hpe
      by_cases hfit : p.natAbs ≤ 9223372036854775807
      · go_wp2_with (go_at_call 58; ((with_reducible refine (mul_core _ _ p _ (by omega) (by omega) (by omega) (by omega) HM (by omega) (by omega)).mono ?_); rintro e' w' ⟨rfl, rfl⟩))
        go_round
        case rel => exact ⟨p, k + 1, rfl, by go_num, by omega, by omega, by omega, HP⟩
        case measure => simp only [intOf]; omega
      · have ho : m * 5 < -9223372036854775807 ∨ 9223372036854775807 < m * 5 := by rw [HM.out]; omega
        go_wp2_with (go_at_call 58; ((with_reducible refine (mul_no _ _ _ (by omega) (by omega) (.inr (.inr ho))).mono ?_); rintro e' w' ⟨rfl, rfl⟩))
        refine bodyPost_ret (v := .tuple #[.agg #[.int .i64 0, .int .i64 0, .int .i64 0], .int .i64 10]) (by simp [results, Tryd.results54, go_sem]) rfl ⟨rfl, ?_⟩
        go_grown
    · exfalso
      have := HK.out
      rw [show k = M from by omega, ← HN.out] at this
      omega

set_option maxRecDepth 100000 in
set_option maxHeartbeats 1000000 in
/-- More twos than fives, and the form is right. -/
theorem form_two (n d e N : Int) (M : Nat) (w : World) (hT : OfTen w) (h0 : n ≠ 0) (hn : -9223372036854775807 ≤ n) (hn' : n ≤ 9223372036854775807) (h1 : -1000 ≤ e) (h2 : e ≤ 1000) (hM : 0 < M ∧ M ≤ 1000000) (hN : N = n * 2 ^ M) (hN' : N.natAbs ≤ 9223372036854775807) :
    Calls Tryd.prog 54 #[.agg #[.int .i64 n, .int .i64 d, .int .i64 (e + M), .int .i64 e]] w fun e' w' => e' = .returned (.tuple #[.agg #[.int .i64 N, .int .i64 d, .int .i64 e], .int .i64 0]) ∧ Below w.heap.size w w' := by
  have z0 : (n == 0) = false := by simpa using h0
  obtain ⟨c0, c1, hz⟩ := hT
  have hz2 : 0 < w.heap.size + 1 := by omega
  have hz3 : 0 < w.heap.size + 1 + 1 := by omega
  have i0 := idx_l0
  have i1 := idx_l1
  have HN := Lib.hid hN
  clear hN h0
  go_enter Tryd.func54, Tryd.ntmps54
  go_wp2
  refine wp_loop_rounds 3 ?_
  rw [rounds_succ]
  go_wp2
  go_loop [5, 40] (fun a b => ∃ (m : Int) (k : Nat), a = .int .i64 m ∧ b = .int .i64 k ∧ k ≤ M ∧ -9223372036854775807 ≤ m ∧ m ≤ 9223372036854775807 ∧ Hid (m = n * 2 ^ k)) (fun _ b => M - (intOf b).toNat)
  case atStart => exact ⟨n, 0, rfl, rfl, by omega, hn, hn', by show n = n * 2 ^ 0; simp⟩
  case round =>
    obtain ⟨m, k, rfl, rfl, hk, hm, hm', HK⟩ := hrel
    by_cases hlt : k < M
    · have hp := pow_mono n 2 (k + 1) M (by omega) (by omega)
      rw [← HN.out] at hp
      obtain ⟨p, hpe⟩ : ∃ p, p = n * 2 ^ (k + 1) := ⟨_, rfl⟩
      rw [← hpe] at hp
      have HP := Lib.hid hpe
      have HM : Hid (m * 2 = p) := by show m * 2 = p; rw [HK.out, hpe, pow_step]
      clear hpe
      go_wp2_with (go_at_call 58; ((with_reducible refine (mul_core _ _ p _ (by omega) (by omega) (by omega) (by omega) HM (by omega) (by omega)).mono ?_); rintro e' w' ⟨rfl, rfl⟩))
      go_round
      case rel => exact ⟨p, k + 1, rfl, by go_num, by omega, by omega, by omega, HP⟩
      case measure => simp only [intOf]; omega
    · obtain rfl : k = M := by omega
      have HE : Hid (m = N) := by show m = N; rw [HK.out, HN.out]
      go_wp2
      rw [rounds_succ]
      go_wp2
      refine wp_loop_rounds 1 ?_
      rw [rounds_succ]
      go_wp2
      rw [rounds_succ]
      go_wp2
      obtain rfl := HE.out
      refine bodyPost_ret (v := .tuple #[.agg #[.int .i64 m, .int .i64 d, .int .i64 e], .int .i64 0]) (by simp [results, Tryd.results54, go_sem]) rfl ⟨rfl, ?_⟩
      go_grown

set_option maxRecDepth 100000 in
set_option maxHeartbeats 1000000 in
/-- More twos than fives, and the form goes beyond the limits. -/
theorem form_two_over (n d e N : Int) (M : Nat) (w : World) (hT : OfTen w) (h0 : n ≠ 0) (hn : -9223372036854775807 ≤ n) (hn' : n ≤ 9223372036854775807) (h1 : -1000 ≤ e) (h2 : e ≤ 1000) (hM : 0 < M ∧ M ≤ 1000000) (hN : N = n * 2 ^ M) (hN' : 9223372036854775807 < N.natAbs) :
    Calls Tryd.prog 54 #[.agg #[.int .i64 n, .int .i64 d, .int .i64 (e + M), .int .i64 e]] w fun e' w' => e' = .returned (.tuple #[.agg #[.int .i64 0, .int .i64 0, .int .i64 0], .int .i64 10]) ∧ Below w.heap.size w w' := by
  have z0 : (n == 0) = false := by simpa using h0
  obtain ⟨c0, c1, hz⟩ := hT
  have hz2 : 0 < w.heap.size + 1 := by omega
  have hz3 : 0 < w.heap.size + 1 + 1 := by omega
  have i0 := idx_l0
  have i1 := idx_l1
  have HN := Lib.hid hN
  clear hN h0
  go_enter Tryd.func54, Tryd.ntmps54
  go_wp2
  refine wp_loop_rounds 3 ?_
  rw [rounds_succ]
  go_wp2
  go_loop [5, 40] (fun a b => ∃ (m : Int) (k : Nat), a = .int .i64 m ∧ b = .int .i64 k ∧ k ≤ M ∧ -9223372036854775807 ≤ m ∧ m ≤ 9223372036854775807 ∧ Hid (m = n * 2 ^ k)) (fun _ b => M - (intOf b).toNat)
  case atStart => exact ⟨n, 0, rfl, rfl, by omega, hn, hn', by show n = n * 2 ^ 0; simp⟩
  case round =>
    obtain ⟨m, k, rfl, rfl, hk, hm, hm', HK⟩ := hrel
    by_cases hlt : k < M
    · obtain ⟨p, hpe⟩ : ∃ p, p = n * 2 ^ (k + 1) := ⟨_, rfl⟩
      have HP := Lib.hid hpe
      have HM : Hid (m * 2 = p) := by show m * 2 = p; rw [HK.out, hpe, pow_step]
      clear hpe
      by_cases hfit : p.natAbs ≤ 9223372036854775807
      · go_wp2_with (go_at_call 58; ((with_reducible refine (mul_core _ _ p _ (by omega) (by omega) (by omega) (by omega) HM (by omega) (by omega)).mono ?_); rintro e' w' ⟨rfl, rfl⟩))
        go_round
        case rel => exact ⟨p, k + 1, rfl, by go_num, by omega, by omega, by omega, HP⟩
        case measure => simp only [intOf]; omega
      · have ho : m * 2 < -9223372036854775807 ∨ 9223372036854775807 < m * 2 := by rw [HM.out]; omega
        go_wp2_with (go_at_call 58; ((with_reducible refine (mul_no _ _ _ (by omega) (by omega) (.inr (.inr ho))).mono ?_); rintro e' w' ⟨rfl, rfl⟩))
        refine bodyPost_ret (v := .tuple #[.agg #[.int .i64 0, .int .i64 0, .int .i64 0], .int .i64 10]) (by simp [results, Tryd.results54, go_sem]) rfl ⟨rfl, ?_⟩
        go_grown
    · exfalso
      have := HK.out
      rw [show k = M from by omega, ← HN.out] at this
      omega

end Go.Proofs.YtpmibcdmaaagjaaDoor.Frac

namespace Go.Proofs.YtpmibcdmaaagjaaDoor.Frac
open Go.RowKit
open Go.Proofs.YtpmibcdmaaagjaaDoor.Whole
set_option linter.unusedVariables false
set_option linter.unusedSimpArgs false

set_option maxRecDepth 100000 in
set_option maxHeartbeats 1000000 in
theorem times_yes (n d e2 e5 : Int) (w : World) :
    Calls Tryd.prog 49 #[.agg #[.int .i64 n, .int .i64 d, .int .i64 e2, .int .i64 e5]] w fun e w' => e = .returned (.func (.func 56) #[] #[.pointer (some ⟨w.heap.size, 0, none⟩)]) ∧ w' = w.alloc (.cells #[.int .i64 n, .int .i64 d, .int .i64 e2, .int .i64 e5] 94) := by
  go_enter Tryd.func49, Tryd.ntmps49
  go_wp2
  go_ret
  exact ⟨rfl, rfl⟩

/-- A call that only draws, behind draws. -/
theorem draws_more {P : Program} {f : FuncId} {args : Array Value} {v : Value} (c : ∀ W : World, Calls P f args W fun e w' => e = .returned v ∧ ∃ m, w' = W.drewN m) (w : World) (i j : Nat) :
    Calls P f args (w.drewN (i + j)) fun e w' => e = .returned v ∧ ∃ m, w' = w.drewN (i + m) := by
  refine (c _).mono ?_
  rintro e w' ⟨he, m, hm⟩
  refine ⟨he, j + m, ?_⟩
  rw [hm, World.drewN_drewN]
  exact congrArg w.drewN (Nat.add_assoc i j m)
theorem draws_none {P : Program} {f : FuncId} {args : Array Value} {v : Value} {w : World} (c : Calls P f args w fun e w' => e = .returned v ∧ w = w') : Calls P f args w fun e w' => e = .returned v ∧ ∃ m, w' = w.drewN m :=
  c.mono fun _ _ h => ⟨h.1, 0, h.2.symm⟩

theorem tdiv_small (a g : Int) (_hg : 1 ≤ g) : (a.tdiv g).natAbs ≤ a.natAbs := by
  rw [Int.natAbs_tdiv]; exact Nat.div_le_self _ _

set_option maxRecDepth 100000 in
set_option maxHeartbeats 2000000 in
theorem times1_yes (n1 d1 a2 a5 n2 d2 b2 b5 g h N D : Int) (b : Nat) (w : World) (hbz : b < w.heap.size)
    (c0 : w.cell? ⟨b, 0, none⟩ = some (.int .i64 n2)) (c1 : w.cell? ⟨b, 1, none⟩ = some (.int .i64 d2)) (c2 : w.cell? ⟨b, 2, none⟩ = some (.int .i64 b2)) (c3 : w.cell? ⟨b, 3, none⟩ = some (.int .i64 b5))
    (hn1 : -9223372036854775807 ≤ n1) (hn1' : n1 ≤ 9223372036854775807) (hd1 : -9223372036854775807 ≤ d1) (hd1' : d1 ≤ 9223372036854775807) (hn2 : -9223372036854775807 ≤ n2) (hn2' : n2 ≤ 9223372036854775807) (hd2 : -9223372036854775807 ≤ d2) (hd2' : d2 ≤ 9223372036854775807)
    (ha2 : -1000000 ≤ a2 ∧ a2 ≤ 1000000) (ha5 : -1000000 ≤ a5 ∧ a5 ≤ 1000000) (hb2 : -1000000 ≤ b2 ∧ b2 ≤ 1000000) (hb5 : -1000000 ≤ b5 ∧ b5 ≤ 1000000)
    (hg : Hid (((Int.gcd n1 d2 : Nat) : Int) = g)) (hh : Hid (((Int.gcd n2 d1 : Nat) : Int) = h)) (hg1 : 1 ≤ g) (hh1 : 1 ≤ h)
    (hN : Hid (n1.tdiv g * n2.tdiv h = N)) (hD : Hid (d1.tdiv h * d2.tdiv g = D)) (hN' : N.natAbs ≤ 9223372036854775807) (hD' : D.natAbs ≤ 9223372036854775807) :
    Calls Tryd.prog 56 #[.agg #[.int .i64 n1, .int .i64 d1, .int .i64 a2, .int .i64 a5], .pointer (some ⟨b, 0, none⟩)] w fun e w' => e = .returned (.tuple #[.agg #[.int .i64 N, .int .i64 D, .int .i64 (a2 + b2), .int .i64 (a5 + b5)], .bool true]) ∧ Below w.heap.size w w' := by
  have t1 := tdiv_small n1 g hg1
  have t2 := tdiv_small n2 h hh1
  have t3 := tdiv_small d1 h hh1
  have t4 := tdiv_small d2 g hg1
  have q1 : -9223372036854775807 ≤ n1.tdiv g ∧ n1.tdiv g ≤ 9223372036854775807 := by omega
  have q2 : -9223372036854775807 ≤ n2.tdiv h ∧ n2.tdiv h ≤ 9223372036854775807 := by omega
  have q3 : -9223372036854775807 ≤ d1.tdiv h ∧ d1.tdiv h ≤ 9223372036854775807 := by omega
  have q4 : -9223372036854775807 ≤ d2.tdiv g ∧ d2.tdiv g ≤ 9223372036854775807 := by omega
  have zg : (g == 0) = false := by simp only [beq_eq_false_iff_ne]; omega
  have zh : (h == 0) = false := by simp only [beq_eq_false_iff_ne]; omega
  clear t1 t2 t3 t4
  have w1 : IntKind.i64.wrap (n1.tdiv g) = n1.tdiv g := IntWalk.i64_in _ ⟨by omega, by omega⟩
  have w2 : IntKind.i64.wrap (n2.tdiv h) = n2.tdiv h := IntWalk.i64_in _ ⟨by omega, by omega⟩
  have w3 : IntKind.i64.wrap (d1.tdiv h) = d1.tdiv h := IntWalk.i64_in _ ⟨by omega, by omega⟩
  have w4 : IntKind.i64.wrap (d2.tdiv g) = d2.tdiv g := IntWalk.i64_in _ ⟨by omega, by omega⟩
  have G1 : Hid (∀ W, Calls Tryd.prog 57 #[.int .i64 n1, .int .i64 d2] W fun e w' => e = .returned (.int .i64 g) ∧ ∃ n, w' = W.drewN n) := fun W => by
    have := gcd_yes n1 d2 W hn1 hd2 hn1' hd2'
    rw [hg.out] at this; exact this
  have G2 : Hid (∀ W, Calls Tryd.prog 57 #[.int .i64 n2, .int .i64 d1] W fun e w' => e = .returned (.int .i64 h) ∧ ∃ n, w' = W.drewN n) := fun W => by
    have := gcd_yes n2 d1 W hn2 hd1 hn2' hd1'
    rw [hh.out] at this; exact this
  have M1 : Hid (∀ W, Calls Tryd.prog 58 #[.int .i64 (n1.tdiv g), .int .i64 (n2.tdiv h)] W fun e w' => e = .returned (.tuple #[.int .i64 N, .bool true]) ∧ ∃ n, w' = W.drewN n) := fun W =>
    draws_none (mul_core _ _ N W q1.1 q2.1 q1.2 q2.2 hN (by omega) (by omega))
  have M2 : Hid (∀ W, Calls Tryd.prog 58 #[.int .i64 (d1.tdiv h), .int .i64 (d2.tdiv g)] W fun e w' => e = .returned (.tuple #[.int .i64 D, .bool true]) ∧ ∃ n, w' = W.drewN n) := fun W =>
    draws_none (mul_core _ _ D W q3.1 q4.1 q3.2 q4.2 hD (by omega) (by omega))
  go_enter Tryd.func56, Tryd.ntmps56
  go_wp2
  go_quiet ((first
    | (go_at_call_of 57 (Value.int IntKind.i64 n1); exact Calls.quiet_of (G1.out _))
    | (go_at_call_of 57 (Value.int IntKind.i64 n2); exact Calls.quiet_of (G2.out _))))
  go_wp2
  go_quiet ((go_at_call 58; exact draws_more M1.out _ _ _))
  go_wp2
  go_quiet ((go_at_call 58; exact draws_more M2.out _ _ _))
  go_wp2
  clear M1 M2 G1 G2 w1 w2 w3 w4 q1 q2 q3 q4 zg zh
  have hb1 : b < w.heap.size + 1 := by omega
  have hb2 : b < w.heap.size + 1 + 1 := by omega
  refine wp_loop_rounds 3 ?_
  rw [rounds_succ]
  go_wp2
  go_region
  go_wp2
  rw [rounds_succ]
  go_wp2
  go_region
  go_wp2
  rw [rounds_succ]
  go_wp2
  refine bodyPost_ret (v := .tuple #[.agg #[.int .i64 N, .int .i64 D, .int .i64 (a2 + b2), .int .i64 (a5 + b5)], .bool true]) (by simp [results, Tryd.results56, go_sem]) rfl ⟨rfl, ?_⟩
  go_grown
  exact below_drewN (by go_grown) _

set_option maxRecDepth 100000 in
set_option maxHeartbeats 2000000 in
theorem times1_no1 (n1 d1 a2 a5 n2 d2 b2 b5 g h N D : Int) (b : Nat) (w : World) (hbz : b < w.heap.size)
    (c0 : w.cell? ⟨b, 0, none⟩ = some (.int .i64 n2)) (c1 : w.cell? ⟨b, 1, none⟩ = some (.int .i64 d2)) (c2 : w.cell? ⟨b, 2, none⟩ = some (.int .i64 b2)) (c3 : w.cell? ⟨b, 3, none⟩ = some (.int .i64 b5))
    (hn1 : -9223372036854775807 ≤ n1) (hn1' : n1 ≤ 9223372036854775807) (hd1 : -9223372036854775807 ≤ d1) (hd1' : d1 ≤ 9223372036854775807) (hn2 : -9223372036854775807 ≤ n2) (hn2' : n2 ≤ 9223372036854775807) (hd2 : -9223372036854775807 ≤ d2) (hd2' : d2 ≤ 9223372036854775807)
    (ha2 : -1000000 ≤ a2 ∧ a2 ≤ 1000000) (ha5 : -1000000 ≤ a5 ∧ a5 ≤ 1000000) (hb2 : -1000000 ≤ b2 ∧ b2 ≤ 1000000) (hb5 : -1000000 ≤ b5 ∧ b5 ≤ 1000000)
    (hg : Hid (((Int.gcd n1 d2 : Nat) : Int) = g)) (hh : Hid (((Int.gcd n2 d1 : Nat) : Int) = h)) (hg1 : 1 ≤ g) (hh1 : 1 ≤ h)
    (hN : Hid (n1.tdiv g * n2.tdiv h = N)) (hD : Hid (d1.tdiv h * d2.tdiv g = D)) (hN' : 9223372036854775807 < N.natAbs) (hD' : D.natAbs ≤ 9223372036854775807) :
    Calls Tryd.prog 56 #[.agg #[.int .i64 n1, .int .i64 d1, .int .i64 a2, .int .i64 a5], .pointer (some ⟨b, 0, none⟩)] w fun e w' => e = .returned (.tuple #[.agg #[.int .i64 0, .int .i64 0, .int .i64 0, .int .i64 0], .bool false]) ∧ Below w.heap.size w w' := by
  have t1 := tdiv_small n1 g hg1
  have t2 := tdiv_small n2 h hh1
  have t3 := tdiv_small d1 h hh1
  have t4 := tdiv_small d2 g hg1
  have q1 : -9223372036854775807 ≤ n1.tdiv g ∧ n1.tdiv g ≤ 9223372036854775807 := by omega
  have q2 : -9223372036854775807 ≤ n2.tdiv h ∧ n2.tdiv h ≤ 9223372036854775807 := by omega
  have q3 : -9223372036854775807 ≤ d1.tdiv h ∧ d1.tdiv h ≤ 9223372036854775807 := by omega
  have q4 : -9223372036854775807 ≤ d2.tdiv g ∧ d2.tdiv g ≤ 9223372036854775807 := by omega
  have zg : (g == 0) = false := by simp only [beq_eq_false_iff_ne]; omega
  have zh : (h == 0) = false := by simp only [beq_eq_false_iff_ne]; omega
  clear t1 t2 t3 t4
  have w1 : IntKind.i64.wrap (n1.tdiv g) = n1.tdiv g := IntWalk.i64_in _ ⟨by omega, by omega⟩
  have w2 : IntKind.i64.wrap (n2.tdiv h) = n2.tdiv h := IntWalk.i64_in _ ⟨by omega, by omega⟩
  have w3 : IntKind.i64.wrap (d1.tdiv h) = d1.tdiv h := IntWalk.i64_in _ ⟨by omega, by omega⟩
  have w4 : IntKind.i64.wrap (d2.tdiv g) = d2.tdiv g := IntWalk.i64_in _ ⟨by omega, by omega⟩
  have G1 : Hid (∀ W, Calls Tryd.prog 57 #[.int .i64 n1, .int .i64 d2] W fun e w' => e = .returned (.int .i64 g) ∧ ∃ n, w' = W.drewN n) := fun W => by
    have := gcd_yes n1 d2 W hn1 hd2 hn1' hd2'
    rw [hg.out] at this; exact this
  have G2 : Hid (∀ W, Calls Tryd.prog 57 #[.int .i64 n2, .int .i64 d1] W fun e w' => e = .returned (.int .i64 h) ∧ ∃ n, w' = W.drewN n) := fun W => by
    have := gcd_yes n2 d1 W hn2 hd1 hn2' hd1'
    rw [hh.out] at this; exact this
  have M1 : Hid (∀ W, Calls Tryd.prog 58 #[.int .i64 (n1.tdiv g), .int .i64 (n2.tdiv h)] W fun e w' => e = .returned (.tuple #[.int .i64 0, .bool false]) ∧ ∃ n, w' = W.drewN n) := fun W =>
    draws_none (mul_no _ _ W q1.2 q2.2 (by rw [hN.out]; omega))
  have M2 : Hid (∀ W, Calls Tryd.prog 58 #[.int .i64 (d1.tdiv h), .int .i64 (d2.tdiv g)] W fun e w' => e = .returned (.tuple #[.int .i64 D, .bool true]) ∧ ∃ n, w' = W.drewN n) := fun W =>
    draws_none (mul_core _ _ D W q3.1 q4.1 q3.2 q4.2 hD (by omega) (by omega))
  go_enter Tryd.func56, Tryd.ntmps56
  go_wp2
  go_quiet ((first
    | (go_at_call_of 57 (Value.int IntKind.i64 n1); exact Calls.quiet_of (G1.out _))
    | (go_at_call_of 57 (Value.int IntKind.i64 n2); exact Calls.quiet_of (G2.out _))))
  go_wp2
  go_quiet ((go_at_call 58; exact draws_more M1.out _ _ _))
  go_wp2
  go_quiet ((go_at_call 58; exact draws_more M2.out _ _ _))
  go_wp2
  refine bodyPost_ret (v := .tuple #[.agg #[.int .i64 0, .int .i64 0, .int .i64 0, .int .i64 0], .bool false]) (by simp [results, Tryd.results56, go_sem]) rfl ⟨rfl, ?_⟩
  go_grown
  exact below_drewN (by go_grown) _

set_option maxRecDepth 100000 in
set_option maxHeartbeats 2000000 in
theorem times1_no2 (n1 d1 a2 a5 n2 d2 b2 b5 g h N D : Int) (b : Nat) (w : World) (hbz : b < w.heap.size)
    (c0 : w.cell? ⟨b, 0, none⟩ = some (.int .i64 n2)) (c1 : w.cell? ⟨b, 1, none⟩ = some (.int .i64 d2)) (c2 : w.cell? ⟨b, 2, none⟩ = some (.int .i64 b2)) (c3 : w.cell? ⟨b, 3, none⟩ = some (.int .i64 b5))
    (hn1 : -9223372036854775807 ≤ n1) (hn1' : n1 ≤ 9223372036854775807) (hd1 : -9223372036854775807 ≤ d1) (hd1' : d1 ≤ 9223372036854775807) (hn2 : -9223372036854775807 ≤ n2) (hn2' : n2 ≤ 9223372036854775807) (hd2 : -9223372036854775807 ≤ d2) (hd2' : d2 ≤ 9223372036854775807)
    (ha2 : -1000000 ≤ a2 ∧ a2 ≤ 1000000) (ha5 : -1000000 ≤ a5 ∧ a5 ≤ 1000000) (hb2 : -1000000 ≤ b2 ∧ b2 ≤ 1000000) (hb5 : -1000000 ≤ b5 ∧ b5 ≤ 1000000)
    (hg : Hid (((Int.gcd n1 d2 : Nat) : Int) = g)) (hh : Hid (((Int.gcd n2 d1 : Nat) : Int) = h)) (hg1 : 1 ≤ g) (hh1 : 1 ≤ h)
    (hN : Hid (n1.tdiv g * n2.tdiv h = N)) (hD : Hid (d1.tdiv h * d2.tdiv g = D)) (hN' : N.natAbs ≤ 9223372036854775807) (hD' : 9223372036854775807 < D.natAbs) :
    Calls Tryd.prog 56 #[.agg #[.int .i64 n1, .int .i64 d1, .int .i64 a2, .int .i64 a5], .pointer (some ⟨b, 0, none⟩)] w fun e w' => e = .returned (.tuple #[.agg #[.int .i64 0, .int .i64 0, .int .i64 0, .int .i64 0], .bool false]) ∧ Below w.heap.size w w' := by
  have t1 := tdiv_small n1 g hg1
  have t2 := tdiv_small n2 h hh1
  have t3 := tdiv_small d1 h hh1
  have t4 := tdiv_small d2 g hg1
  have q1 : -9223372036854775807 ≤ n1.tdiv g ∧ n1.tdiv g ≤ 9223372036854775807 := by omega
  have q2 : -9223372036854775807 ≤ n2.tdiv h ∧ n2.tdiv h ≤ 9223372036854775807 := by omega
  have q3 : -9223372036854775807 ≤ d1.tdiv h ∧ d1.tdiv h ≤ 9223372036854775807 := by omega
  have q4 : -9223372036854775807 ≤ d2.tdiv g ∧ d2.tdiv g ≤ 9223372036854775807 := by omega
  have zg : (g == 0) = false := by simp only [beq_eq_false_iff_ne]; omega
  have zh : (h == 0) = false := by simp only [beq_eq_false_iff_ne]; omega
  clear t1 t2 t3 t4
  have w1 : IntKind.i64.wrap (n1.tdiv g) = n1.tdiv g := IntWalk.i64_in _ ⟨by omega, by omega⟩
  have w2 : IntKind.i64.wrap (n2.tdiv h) = n2.tdiv h := IntWalk.i64_in _ ⟨by omega, by omega⟩
  have w3 : IntKind.i64.wrap (d1.tdiv h) = d1.tdiv h := IntWalk.i64_in _ ⟨by omega, by omega⟩
  have w4 : IntKind.i64.wrap (d2.tdiv g) = d2.tdiv g := IntWalk.i64_in _ ⟨by omega, by omega⟩
  have G1 : Hid (∀ W, Calls Tryd.prog 57 #[.int .i64 n1, .int .i64 d2] W fun e w' => e = .returned (.int .i64 g) ∧ ∃ n, w' = W.drewN n) := fun W => by
    have := gcd_yes n1 d2 W hn1 hd2 hn1' hd2'
    rw [hg.out] at this; exact this
  have G2 : Hid (∀ W, Calls Tryd.prog 57 #[.int .i64 n2, .int .i64 d1] W fun e w' => e = .returned (.int .i64 h) ∧ ∃ n, w' = W.drewN n) := fun W => by
    have := gcd_yes n2 d1 W hn2 hd1 hn2' hd1'
    rw [hh.out] at this; exact this
  have M1 : Hid (∀ W, Calls Tryd.prog 58 #[.int .i64 (n1.tdiv g), .int .i64 (n2.tdiv h)] W fun e w' => e = .returned (.tuple #[.int .i64 N, .bool true]) ∧ ∃ n, w' = W.drewN n) := fun W =>
    draws_none (mul_core _ _ N W q1.1 q2.1 q1.2 q2.2 hN (by omega) (by omega))
  have M2 : Hid (∀ W, Calls Tryd.prog 58 #[.int .i64 (d1.tdiv h), .int .i64 (d2.tdiv g)] W fun e w' => e = .returned (.tuple #[.int .i64 0, .bool false]) ∧ ∃ n, w' = W.drewN n) := fun W =>
    draws_none (mul_no _ _ W q3.2 q4.2 (by rw [hD.out]; omega))
  go_enter Tryd.func56, Tryd.ntmps56
  go_wp2
  go_quiet ((first
    | (go_at_call_of 57 (Value.int IntKind.i64 n1); exact Calls.quiet_of (G1.out _))
    | (go_at_call_of 57 (Value.int IntKind.i64 n2); exact Calls.quiet_of (G2.out _))))
  go_wp2
  go_quiet ((go_at_call 58; exact draws_more M1.out _ _ _))
  go_wp2
  go_quiet ((go_at_call 58; exact draws_more M2.out _ _ _))
  go_wp2
  refine bodyPost_ret (v := .tuple #[.agg #[.int .i64 0, .int .i64 0, .int .i64 0, .int .i64 0], .bool false]) (by simp [results, Tryd.results56, go_sem]) rfl ⟨rfl, ?_⟩
  go_grown
  exact below_drewN (by go_grown) _

set_option maxRecDepth 100000 in
set_option maxHeartbeats 2000000 in
theorem times1_no3 (n1 d1 a2 a5 n2 d2 b2 b5 g h N D : Int) (b : Nat) (w : World) (hbz : b < w.heap.size)
    (c0 : w.cell? ⟨b, 0, none⟩ = some (.int .i64 n2)) (c1 : w.cell? ⟨b, 1, none⟩ = some (.int .i64 d2)) (c2 : w.cell? ⟨b, 2, none⟩ = some (.int .i64 b2)) (c3 : w.cell? ⟨b, 3, none⟩ = some (.int .i64 b5))
    (hn1 : -9223372036854775807 ≤ n1) (hn1' : n1 ≤ 9223372036854775807) (hd1 : -9223372036854775807 ≤ d1) (hd1' : d1 ≤ 9223372036854775807) (hn2 : -9223372036854775807 ≤ n2) (hn2' : n2 ≤ 9223372036854775807) (hd2 : -9223372036854775807 ≤ d2) (hd2' : d2 ≤ 9223372036854775807)
    (ha2 : -1000000 ≤ a2 ∧ a2 ≤ 1000000) (ha5 : -1000000 ≤ a5 ∧ a5 ≤ 1000000) (hb2 : -1000000 ≤ b2 ∧ b2 ≤ 1000000) (hb5 : -1000000 ≤ b5 ∧ b5 ≤ 1000000)
    (hg : Hid (((Int.gcd n1 d2 : Nat) : Int) = g)) (hh : Hid (((Int.gcd n2 d1 : Nat) : Int) = h)) (hg1 : 1 ≤ g) (hh1 : 1 ≤ h)
    (hN : Hid (n1.tdiv g * n2.tdiv h = N)) (hD : Hid (d1.tdiv h * d2.tdiv g = D)) (hN' : 9223372036854775807 < N.natAbs) (hD' : 9223372036854775807 < D.natAbs) :
    Calls Tryd.prog 56 #[.agg #[.int .i64 n1, .int .i64 d1, .int .i64 a2, .int .i64 a5], .pointer (some ⟨b, 0, none⟩)] w fun e w' => e = .returned (.tuple #[.agg #[.int .i64 0, .int .i64 0, .int .i64 0, .int .i64 0], .bool false]) ∧ Below w.heap.size w w' := by
  have t1 := tdiv_small n1 g hg1
  have t2 := tdiv_small n2 h hh1
  have t3 := tdiv_small d1 h hh1
  have t4 := tdiv_small d2 g hg1
  have q1 : -9223372036854775807 ≤ n1.tdiv g ∧ n1.tdiv g ≤ 9223372036854775807 := by omega
  have q2 : -9223372036854775807 ≤ n2.tdiv h ∧ n2.tdiv h ≤ 9223372036854775807 := by omega
  have q3 : -9223372036854775807 ≤ d1.tdiv h ∧ d1.tdiv h ≤ 9223372036854775807 := by omega
  have q4 : -9223372036854775807 ≤ d2.tdiv g ∧ d2.tdiv g ≤ 9223372036854775807 := by omega
  have zg : (g == 0) = false := by simp only [beq_eq_false_iff_ne]; omega
  have zh : (h == 0) = false := by simp only [beq_eq_false_iff_ne]; omega
  clear t1 t2 t3 t4
  have w1 : IntKind.i64.wrap (n1.tdiv g) = n1.tdiv g := IntWalk.i64_in _ ⟨by omega, by omega⟩
  have w2 : IntKind.i64.wrap (n2.tdiv h) = n2.tdiv h := IntWalk.i64_in _ ⟨by omega, by omega⟩
  have w3 : IntKind.i64.wrap (d1.tdiv h) = d1.tdiv h := IntWalk.i64_in _ ⟨by omega, by omega⟩
  have w4 : IntKind.i64.wrap (d2.tdiv g) = d2.tdiv g := IntWalk.i64_in _ ⟨by omega, by omega⟩
  have G1 : Hid (∀ W, Calls Tryd.prog 57 #[.int .i64 n1, .int .i64 d2] W fun e w' => e = .returned (.int .i64 g) ∧ ∃ n, w' = W.drewN n) := fun W => by
    have := gcd_yes n1 d2 W hn1 hd2 hn1' hd2'
    rw [hg.out] at this; exact this
  have G2 : Hid (∀ W, Calls Tryd.prog 57 #[.int .i64 n2, .int .i64 d1] W fun e w' => e = .returned (.int .i64 h) ∧ ∃ n, w' = W.drewN n) := fun W => by
    have := gcd_yes n2 d1 W hn2 hd1 hn2' hd1'
    rw [hh.out] at this; exact this
  have M1 : Hid (∀ W, Calls Tryd.prog 58 #[.int .i64 (n1.tdiv g), .int .i64 (n2.tdiv h)] W fun e w' => e = .returned (.tuple #[.int .i64 0, .bool false]) ∧ ∃ n, w' = W.drewN n) := fun W =>
    draws_none (mul_no _ _ W q1.2 q2.2 (by rw [hN.out]; omega))
  have M2 : Hid (∀ W, Calls Tryd.prog 58 #[.int .i64 (d1.tdiv h), .int .i64 (d2.tdiv g)] W fun e w' => e = .returned (.tuple #[.int .i64 0, .bool false]) ∧ ∃ n, w' = W.drewN n) := fun W =>
    draws_none (mul_no _ _ W q3.2 q4.2 (by rw [hD.out]; omega))
  go_enter Tryd.func56, Tryd.ntmps56
  go_wp2
  go_quiet ((first
    | (go_at_call_of 57 (Value.int IntKind.i64 n1); exact Calls.quiet_of (G1.out _))
    | (go_at_call_of 57 (Value.int IntKind.i64 n2); exact Calls.quiet_of (G2.out _))))
  go_wp2
  go_quiet ((go_at_call 58; exact draws_more M1.out _ _ _))
  go_wp2
  go_quiet ((go_at_call 58; exact draws_more M2.out _ _ _))
  go_wp2
  refine bodyPost_ret (v := .tuple #[.agg #[.int .i64 0, .int .i64 0, .int .i64 0, .int .i64 0], .bool false]) (by simp [results, Tryd.results56, go_sem]) rfl ⟨rfl, ?_⟩
  go_grown
  exact below_drewN (by go_grown) _

end Go.Proofs.YtpmibcdmaaagjaaDoor.Frac

namespace Go.Proofs.YtpmibcdmaaagjaaDoor.Frac
open Go.Proofs.YtpmibcdmaaagjaaDoor.Whole
set_option linter.unusedVariables false
set_option linter.unusedSimpArgs false

/-- A number taken apart: n by d, times 2 to the power of e2, and 5 to that of e5. -/
structure Pt where
  n : Int
  d : Int
  e2 : Int
  e5 : Int

/-- A frac, and an error's number. -/
structure Got where
  n : Int
  d : Int
  t : Int
  e : Int
  deriving DecidableEq

def over : Got := ⟨0, 0, 0, 10⟩
def odd (n : Int) : Int := spL (spL n 2) 5
def apartP (n ten : Int) : Pt := if n = 0 then ⟨0, 1, ten, ten⟩ else ⟨spL (spL n 2) 5, 1, spT n 2 + ten, spT (spL n 2) 5 + ten⟩
def partsP (n d ten : Int) : Pt := ⟨(apartP n ten).n, d, (apartP n ten).e2, (apartP n ten).e5⟩
def turnP (p : Pt) : Pt := if p.n < 0 then ⟨-p.d, -p.n, -p.e2, -p.e5⟩ else ⟨p.d, p.n, -p.e2, -p.e5⟩
def timesN (x y : Pt) : Int := x.n.tdiv (Int.gcd x.n y.d) * y.n.tdiv (Int.gcd y.n x.d)
def timesD (x y : Pt) : Int := x.d.tdiv (Int.gcd y.n x.d) * y.d.tdiv (Int.gcd x.n y.d)
def timesP (x y : Pt) : Option Pt := if (timesN x y).natAbs ≤ 9223372036854775807 ∧ (timesD x y).natAbs ≤ 9223372036854775807 then some ⟨timesN x y, timesD x y, x.e2 + y.e2, x.e5 + y.e5⟩ else none
def formAt (N d t : Int) : Got := if t < -1000 ∨ 1000 < t then over else if N.natAbs ≤ 9223372036854775807 then ⟨N, d, t, 0⟩ else over
def formP (p : Pt) : Got := if p.n = 0 then ⟨0, 1, 0, 0⟩ else if p.e2 ≤ p.e5 then formAt (p.n * 5 ^ (p.e5 - p.e2).toNat) p.d p.e2 else formAt (p.n * 2 ^ (p.e2 - p.e5).toNat) p.d p.e5
def joinP (x : Pt) : Nat → Pt → Got
  | 0, _ => formP x
  | k + 1, y => match timesP x y with
    | none => over
    | some z => joinP z k y

def near (ten : Int) : Int := if ten < -2000 then -2000 else if 2000 < ten then 2000 else ten
def makeG (num den ten : Int) : Got := if num < -9223372036854775807 ∨ den < -9223372036854775807 then ⟨0, 0, 0, 1⟩ else if den = 0 then ⟨0, 0, 0, 11⟩ else joinP (apartP num (near ten)) 1 (turnP (apartP den 0))
def rightB (n d t : Int) : Bool := makeG n d t == ⟨n, d, t, 0⟩
def mulG (n1 d1 t1 n2 d2 t2 : Int) : Got := if rightB n1 d1 t1 = false ∨ rightB n2 d2 t2 = false then ⟨0, 0, 0, 1⟩ else joinP (partsP n1 d1 t1) 1 (partsP n2 d2 t2)
def divG (n1 d1 t1 n2 d2 t2 : Int) : Got := if rightB n1 d1 t1 = false ∨ rightB n2 d2 t2 = false then ⟨0, 0, 0, 1⟩ else if n2 = 0 then ⟨0, 0, 0, 11⟩ else joinP (partsP n1 d1 t1) 1 (turnP (partsP n2 d2 t2))
def powG (n d t k : Int) : Got := if rightB n d t = false ∨ k < -99 ∨ 99 < k then ⟨0, 0, 0, 1⟩ else if 0 ≤ k then joinP (apartP 1 0) k.toNat (partsP n d t) else if n = 0 then ⟨0, 0, 0, 11⟩ else joinP (apartP 1 0) (-k).toNat (turnP (partsP n d t))

/-- What the walks keep: numbers within int64, the divisor above 0, powers within B. -/
def Pt.Ok (B : Int) (p : Pt) : Prop := p.n.natAbs ≤ 9223372036854775807 ∧ 1 ≤ p.d ∧ p.d ≤ 9223372036854775807 ∧ -B ≤ p.e2 ∧ p.e2 ≤ B ∧ -B ≤ p.e5 ∧ p.e5 ≤ B

theorem Pt.Ok.more {B C : Int} {p : Pt} (h : p.Ok B) (hc : B ≤ C) : p.Ok C := by
  obtain ⟨h1, h2, h3, h4, h5, h6, h7⟩ := h
  exact ⟨h1, h2, h3, by omega, by omega, by omega, by omega⟩

theorem spL_ne (n k : Int) (hk : 2 ≤ k) (h0 : n ≠ 0) : spL n k ≠ 0 := fun h => by
  have := (sp_spec n k hk h0).2; rw [h] at this; simp at this

theorem apart_ok (n ten : Int) (hn : n.natAbs ≤ 9223372036854775807) (h1 : -2000 ≤ ten) (h2 : ten ≤ 2000) : (apartP n ten).Ok 2100 ∧ (apartP n ten).d = 1 := by
  unfold apartP
  by_cases h0 : n = 0
  · rw [if_pos h0]; exact ⟨⟨by simp, by simp, by simp, by show -2100 ≤ ten; omega, by show ten ≤ 2100; omega, by show -2100 ≤ ten; omega, by show ten ≤ 2100; omega⟩, rfl⟩
  · rw [if_neg h0]
    have b2 := spT_lt n 2 (by omega) h0 (by omega)
    have hL0 := spL_ne n 2 (by omega) h0
    have hLb := spL_le n 2 (by omega) h0
    have b5 := spT_lt (spL n 2) 5 (by omega) hL0 (by omega)
    have hLb5 := spL_le (spL n 2) 5 (by omega) hL0
    exact ⟨⟨by show (spL (spL n 2) 5).natAbs ≤ _; omega, by simp, by simp, by show -2100 ≤ (spT n 2 : Int) + ten; omega, by show (spT n 2 : Int) + ten ≤ 2100; omega, by show -2100 ≤ (spT (spL n 2) 5 : Int) + ten; omega, by show (spT (spL n 2) 5 : Int) + ten ≤ 2100; omega⟩, rfl⟩

theorem parts_ok (n d ten : Int) (hn : n.natAbs ≤ 9223372036854775807) (hd : 1 ≤ d) (hd' : d ≤ 9223372036854775807) (h1 : -2000 ≤ ten) (h2 : ten ≤ 2000) : (partsP n d ten).Ok 2100 := by
  obtain ⟨⟨a1, _, _, a4, a5, a6, a7⟩, _⟩ := apart_ok n ten hn h1 h2
  exact ⟨a1, hd, hd', a4, a5, a6, a7⟩

theorem turn_ok {B : Int} {p : Pt} (h : p.Ok B) (h0 : p.n ≠ 0) : (turnP p).Ok B := by
  obtain ⟨h1, h2, h3, h4, h5, h6, h7⟩ := h
  unfold turnP
  by_cases hn : p.n < 0
  · rw [if_pos hn]
    exact ⟨by show (-p.d).natAbs ≤ _; omega, by show 1 ≤ -p.n; omega, by show -p.n ≤ _; omega, by show -B ≤ -p.e2; omega, by show -p.e2 ≤ B; omega, by show -B ≤ -p.e5; omega, by show -p.e5 ≤ B; omega⟩
  · rw [if_neg hn]
    exact ⟨by show (p.d).natAbs ≤ _; omega, by show 1 ≤ p.n; omega, by show p.n ≤ _; omega, by show -B ≤ -p.e2; omega, by show -p.e2 ≤ B; omega, by show -B ≤ -p.e5; omega, by show -p.e5 ≤ B; omega⟩

theorem gcd_pos_r (a b : Int) (hb : 1 ≤ b) : (1 : Int) ≤ (Int.gcd a b : Nat) := by
  have : 0 < Int.gcd a b := Int.gcd_pos_of_ne_zero_right a (by omega)
  omega

theorem tdiv_pos (d : Int) (g : Nat) (hd : 1 ≤ d) (hg : (g : Int) ∣ d) : 1 ≤ d.tdiv g := by
  rw [Int.tdiv_eq_ediv_of_dvd hg]
  obtain ⟨c, hc⟩ := hg
  have hg0 : (g : Int) ≠ 0 := fun h => by rw [h] at hc; simp at hc; omega
  rw [hc, Int.mul_ediv_cancel_left _ hg0]
  rcases Int.lt_or_le 0 c with h | h
  · omega
  · exfalso
    have : (g : Int) * c ≤ 0 := Int.mul_nonpos_of_nonneg_of_nonpos (by omega) h
    omega

theorem timesD_pos (x y : Pt) (hx : 1 ≤ x.d) (hy : 1 ≤ y.d) : 1 ≤ timesD x y := by
  unfold timesD
  have h1 := tdiv_pos x.d (Int.gcd y.n x.d) hx (Int.gcd_dvd_right _ _)
  have h2 := tdiv_pos y.d (Int.gcd x.n y.d) hy (Int.gcd_dvd_right _ _)
  have := Int.mul_le_mul h1 h2 (by omega) (by omega)
  omega

theorem times_ok {B C : Int} {x y z : Pt} (hx : x.Ok B) (hy : y.Ok C) (h : timesP x y = some z) : z.Ok (B + C) := by
  obtain ⟨h1, h2, h3, h4, h5, h6, h7⟩ := hx
  obtain ⟨k1, k2, k3, k4, k5, k6, k7⟩ := hy
  unfold timesP at h
  split at h
  · rename_i hf
    simp only [Option.some.injEq] at h
    subst h
    have hp := timesD_pos x y h2 k2
    exact ⟨hf.1, hp, by show timesD x y ≤ _; have := hf.2; omega, by show -(B + C) ≤ x.e2 + y.e2; omega, by show x.e2 + y.e2 ≤ B + C; omega, by show -(B + C) ≤ x.e5 + y.e5; omega, by show x.e5 + y.e5 ≤ B + C; omega⟩
  · exact absurd h (by simp)

def Got.Fine (g : Got) : Prop := g.e = 0 → g.n.natAbs ≤ 9223372036854775807 ∧ 1 ≤ g.d ∧ g.d ≤ 9223372036854775807 ∧ -1000 ≤ g.t ∧ g.t ≤ 1000

theorem over_fine : over.Fine := fun h => absurd h (by decide)

theorem formAt_fine (N d t : Int) (h1 : 1 ≤ d) (h2 : d ≤ 9223372036854775807) : (formAt N d t).Fine := by
  unfold formAt
  by_cases hf : t < -1000 ∨ 1000 < t
  · rw [if_pos hf]; exact over_fine
  rw [if_neg hf]
  by_cases hN : N.natAbs ≤ 9223372036854775807
  · rw [if_pos hN]; exact fun _ => ⟨hN, h1, h2, by show -1000 ≤ t; omega, by show t ≤ 1000; omega⟩
  · rw [if_neg hN]; exact over_fine

theorem form_fine {B : Int} {p : Pt} (h : p.Ok B) : (formP p).Fine := by
  unfold formP
  by_cases h0 : p.n = 0
  · rw [if_pos h0]; exact fun _ => ⟨by simp, by simp, by simp, by simp, by simp⟩
  rw [if_neg h0]
  by_cases hle : p.e2 ≤ p.e5
  · rw [if_pos hle]; exact formAt_fine _ _ _ h.2.1 h.2.2.1
  · rw [if_neg hle]; exact formAt_fine _ _ _ h.2.1 h.2.2.1

theorem join_fine {C : Int} {y : Pt} (hy : y.Ok C) : ∀ (k : Nat) {B : Int} {x : Pt}, x.Ok B → (joinP x k y).Fine
  | 0, _, _, hx => form_fine hx
  | k + 1, _, x, hx => by
    unfold joinP
    cases ht : timesP x y with
    | none => exact over_fine
    | some z => exact join_fine hy k (times_ok hx hy ht)

theorem near_in (ten : Int) : -2000 ≤ near ten ∧ near ten ≤ 2000 := by
  unfold near
  by_cases h1 : ten < -2000
  · rw [if_pos h1]; omega
  rw [if_neg h1]
  by_cases h2 : 2000 < ten
  · rw [if_pos h2]; omega
  · rw [if_neg h2]; omega

theorem apart_ne (n ten : Int) (h0 : n ≠ 0) : (apartP n ten).n ≠ 0 := by
  unfold apartP; rw [if_neg h0]; exact spL_ne _ 5 (by omega) (spL_ne _ 2 (by omega) h0)

theorem parts_ne (n d ten : Int) (h0 : n ≠ 0) : (partsP n d ten).n ≠ 0 := apart_ne n ten h0

theorem make_fine (num den ten : Int) (h1 : num ≤ 9223372036854775807) (h2 : den ≤ 9223372036854775807) : (makeG num den ten).Fine := by
  unfold makeG
  by_cases ha : num < -9223372036854775807 ∨ den < -9223372036854775807
  · rw [if_pos ha]; exact fun h => absurd h (by decide)
  rw [if_neg ha]
  by_cases h0 : den = 0
  · rw [if_pos h0]; exact fun h => absurd h (by decide)
  rw [if_neg h0]
  obtain ⟨n1, n2⟩ := near_in ten
  exact join_fine (turn_ok (apart_ok den 0 (by omega) (by omega) (by omega)).1 (apart_ne den 0 h0)) 1 (apart_ok num (near ten) (by omega) n1 n2).1

theorem right_fine {n d t : Int} (h1 : n ≤ 9223372036854775807) (h2 : d ≤ 9223372036854775807) (h : rightB n d t = true) : n.natAbs ≤ 9223372036854775807 ∧ 1 ≤ d ∧ d ≤ 9223372036854775807 ∧ -1000 ≤ t ∧ t ≤ 1000 := by
  unfold rightB at h
  have e : makeG n d t = ⟨n, d, t, 0⟩ := by simpa using h
  have := make_fine n d t h1 h2
  rw [e] at this
  exact this rfl

end Go.Proofs.YtpmibcdmaaagjaaDoor.Frac

namespace Go.Proofs.YtpmibcdmaaagjaaDoor.Frac
open Go.RowKit
open Go.Proofs.YtpmibcdmaaagjaaDoor.Whole
set_option linter.unusedVariables false
set_option linter.unusedSimpArgs false

def Pt.v (p : Pt) : Value := .agg #[.int .i64 p.n, .int .i64 p.d, .int .i64 p.e2, .int .i64 p.e5]
def Got.v (g : Got) : Value := .tuple #[.agg #[.int .i64 g.n, .int .i64 g.d, .int .i64 g.t], .int .i64 g.e]
def onceV : Option Pt → Value
  | some z => .tuple #[z.v, .bool true]
  | none => .tuple #[.agg #[.int .i64 0, .int .i64 0, .int .i64 0, .int .i64 0], .bool false]

theorem apart_any (n ten : Int) (w : World) (hT : OfTen w) (hn : n.natAbs ≤ 9223372036854775807) (ht : -2000 ≤ ten) (ht' : ten ≤ 2000) :
    Calls Tryd.prog 48 #[.int .i64 n, .int .i64 ten] w fun e w' => e = .returned (apartP n ten).v ∧ Below w.heap.size w w' := by
  unfold apartP
  by_cases h0 : n = 0
  · rw [if_pos h0, h0]; exact apart_zero ten w hT ht ht'
  · rw [if_neg h0]; exact apart_yes n ten w hT (by omega) (by omega) h0 ht ht'

theorem turned_any (p : Pt) (w : World) (h : p.Ok 1000000) :
    Calls Tryd.prog 50 #[p.v] w fun e w' => e = .returned (turnP p).v ∧ Below w.heap.size w w' := by
  obtain ⟨h1, h2, h3, h4, h5, h6, h7⟩ := h
  unfold turnP
  by_cases h0 : p.n < 0
  · rw [if_pos h0]; exact turned_neg p.n p.d p.e2 p.e5 w (by omega) h0 (by omega) h3 h4 h5 h6 h7
  · rw [if_neg h0]; exact turned_pos p.n p.d p.e2 p.e5 w (by omega) h4 h5 h6 h7

/-- In the world w the block b holds p. -/
def Lies (w : World) (b : Nat) (p : Pt) : Prop := w.cell? ⟨b, 0, none⟩ = some (.int .i64 p.n) ∧ w.cell? ⟨b, 1, none⟩ = some (.int .i64 p.d) ∧ w.cell? ⟨b, 2, none⟩ = some (.int .i64 p.e2) ∧ w.cell? ⟨b, 3, none⟩ = some (.int .i64 p.e5) ∧ b < w.heap.size

theorem Lies.below {w w' : World} {b : Nat} {p : Pt} {B : Nat} (h : Lies w b p) (hb : Below B w w') (hB : b < B) : Lies w' b p := by
  obtain ⟨h0, h1, h2, h3, hz⟩ := h
  exact ⟨(hb.cell (p := ⟨b, 0, none⟩) hB).trans h0, (hb.cell (p := ⟨b, 1, none⟩) hB).trans h1, (hb.cell (p := ⟨b, 2, none⟩) hB).trans h2, (hb.cell (p := ⟨b, 3, none⟩) hB).trans h3, by have := hb.size; omega⟩

theorem times1_any (x y : Pt) (b : Nat) (w : World) (hy : Lies w b y) (hx : x.Ok 1000000) (ho : y.Ok 1000000) :
    Calls Tryd.prog 56 #[x.v, .pointer (some ⟨b, 0, none⟩)] w fun e w' => e = .returned (onceV (timesP x y)) ∧ Below w.heap.size w w' := by
  obtain ⟨c0, c1, c2, c3, hz⟩ := hy
  obtain ⟨h1, h2, h3, h4, h5, h6, h7⟩ := hx
  obtain ⟨k1, k2, k3, k4, k5, k6, k7⟩ := ho
  have g1 := gcd_pos_r x.n y.d k2
  have g2 := gcd_pos_r y.n x.d h2
  unfold timesP
  by_cases f1 : (timesN x y).natAbs ≤ 9223372036854775807
  · by_cases f2 : (timesD x y).natAbs ≤ 9223372036854775807
    · rw [if_pos ⟨f1, f2⟩]
      exact times1_yes x.n x.d x.e2 x.e5 y.n y.d y.e2 y.e5 _ _ _ _ b w hz c0 c1 c2 c3 (by omega) (by omega) (by omega) (by omega) (by omega) (by omega) (by omega) (by omega) ⟨h4, h5⟩ ⟨h6, h7⟩ ⟨k4, k5⟩ ⟨k6, k7⟩ rfl rfl g1 g2 rfl rfl f1 f2
    · rw [if_neg (fun h => f2 h.2)]
      exact times1_no2 x.n x.d x.e2 x.e5 y.n y.d y.e2 y.e5 _ _ _ _ b w hz c0 c1 c2 c3 (by omega) (by omega) (by omega) (by omega) (by omega) (by omega) (by omega) (by omega) ⟨h4, h5⟩ ⟨h6, h7⟩ ⟨k4, k5⟩ ⟨k6, k7⟩ rfl rfl g1 g2 rfl rfl f1 (Nat.lt_of_not_le f2)
  · by_cases f2 : (timesD x y).natAbs ≤ 9223372036854775807
    · rw [if_neg (fun h => f1 h.1)]
      exact times1_no1 x.n x.d x.e2 x.e5 y.n y.d y.e2 y.e5 _ _ _ _ b w hz c0 c1 c2 c3 (by omega) (by omega) (by omega) (by omega) (by omega) (by omega) (by omega) (by omega) ⟨h4, h5⟩ ⟨h6, h7⟩ ⟨k4, k5⟩ ⟨k6, k7⟩ rfl rfl g1 g2 rfl rfl (Nat.lt_of_not_le f1) f2
    · rw [if_neg (fun h => f1 h.1)]
      exact times1_no3 x.n x.d x.e2 x.e5 y.n y.d y.e2 y.e5 _ _ _ _ b w hz c0 c1 c2 c3 (by omega) (by omega) (by omega) (by omega) (by omega) (by omega) (by omega) (by omega) ⟨h4, h5⟩ ⟨h6, h7⟩ ⟨k4, k5⟩ ⟨k6, k7⟩ rfl rfl g1 g2 rfl rfl (Nat.lt_of_not_le f1) (Nat.lt_of_not_le f2)

theorem form_any (p : Pt) (w : World) (hT : OfTen w) (h : p.Ok 500000) :
    Calls Tryd.prog 54 #[p.v] w fun e w' => e = .returned (formP p).v ∧ Below w.heap.size w w' := by
  obtain ⟨n, d, e2, e5⟩ := p
  obtain ⟨h1, h2, h3, h4, h5, h6, h7⟩ := h
  simp only at h1 h2 h3 h4 h5 h6 h7
  unfold formP
  simp only []
  by_cases h0 : n = 0
  · rw [if_pos h0]; subst h0; exact form_zero d e2 e5 w
  rw [if_neg h0]
  by_cases hle : e2 ≤ e5
  · rw [if_pos hle]
    unfold formAt
    by_cases hf : e2 < -1000 ∨ 1000 < e2
    · rw [if_pos hf]; exact form_far1 n d e2 e5 w h0 hle hf
    rw [if_neg hf]
    have he : e5 = e2 + ((e5 - e2).toNat : Nat) := by omega
    by_cases hN : (n * 5 ^ (e5 - e2).toNat).natAbs ≤ 9223372036854775807
    · rw [if_pos hN]
      have := form_five n d e2 _ (e5 - e2).toNat w hT h0 (by omega) (by omega) (by omega) (by omega) (by omega) rfl hN
      rw [← he] at this; exact this
    · rw [if_neg hN]
      have := form_five_over n d e2 _ (e5 - e2).toNat w hT h0 (by omega) (by omega) (by omega) (by omega) (by omega) rfl (Nat.lt_of_not_le hN)
      rw [← he] at this; exact this
  · rw [if_neg hle]
    unfold formAt
    by_cases hf : e5 < -1000 ∨ 1000 < e5
    · rw [if_pos hf]; exact form_far2 n d e2 e5 w h0 (by omega) hf
    rw [if_neg hf]
    have he : e2 = e5 + ((e2 - e5).toNat : Nat) := by omega
    by_cases hN : (n * 2 ^ (e2 - e5).toNat).natAbs ≤ 9223372036854775807
    · rw [if_pos hN]
      have := form_two n d e5 _ (e2 - e5).toNat w hT h0 (by omega) (by omega) (by omega) (by omega) (by omega) rfl hN
      rw [← he] at this; exact this
    · rw [if_neg hN]
      have := form_two_over n d e5 _ (e2 - e5).toNat w hT h0 (by omega) (by omega) (by omega) (by omega) (by omega) rfl (Nat.lt_of_not_le hN)
      rw [← he] at this; exact this

/-- How join's world stands at the head of a round: its own two blocks are the number so far, and the result. -/
def JoinAt (w v : World) (z : Pt) : Prop :=
  Below w.heap.size w v ∧ Lies v w.heap.size z ∧ (∀ j, v.frozen? ⟨w.heap.size, j, none⟩ = false) ∧ v.cell? ⟨w.heap.size + 1, 0, none⟩ = some (.int .i64 0) ∧ v.cell? ⟨w.heap.size + 1, 1, none⟩ = some (.int .i64 0) ∧ v.cell? ⟨w.heap.size + 1, 2, none⟩ = some (.int .i64 0) ∧ (∀ j, v.frozen? ⟨w.heap.size + 1, j, none⟩ = false) ∧ w.heap.size + 1 < v.heap.size

theorem JoinAt.below {w v v' : World} {z : Pt} (h : JoinAt w v z) (hb : Below v.heap.size v v') : JoinAt w v' z := by
  obtain ⟨h1, h2, h3, h4, h5, h6, h7, h8⟩ := h
  have hz := h2.2.2.2.2
  refine ⟨h1.trans (hb.mono (by omega)), h2.below hb hz, fun j => (hb.frozen (p := ⟨w.heap.size, j, none⟩) hz).trans (h3 j), (hb.cell (p := ⟨w.heap.size + 1, 0, none⟩) h8).trans h4, (hb.cell (p := ⟨w.heap.size + 1, 1, none⟩) h8).trans h5, (hb.cell (p := ⟨w.heap.size + 1, 2, none⟩) h8).trans h6, fun j => (hb.frozen (p := ⟨w.heap.size + 1, j, none⟩) h8).trans (h7 j), ?_⟩
  have := hb.size
  omega

theorem JoinAt.set {w v : World} {z : Pt} (h : JoinAt w v z) (y : Pt) :
    JoinAt w ((((v.setCell ⟨w.heap.size, 0, none⟩ (.int .i64 y.n)).setCell ⟨w.heap.size, 1, none⟩ (.int .i64 y.d)).setCell ⟨w.heap.size, 2, none⟩ (.int .i64 y.e2)).setCell ⟨w.heap.size, 3, none⟩ (.int .i64 y.e5)) y := by
  obtain ⟨h1, ⟨l0, l1, l2, l3, l4⟩, h3, h4, h5, h6, h7, h8⟩ := h
  refine ⟨by go_grown, ⟨?_, ?_, ?_, ?_, ?_⟩, fun j => ?_, ?_, ?_, ?_, fun j => ?_, ?_⟩
  all_goals simp [go_sem, *]

set_option maxRecDepth 100000 in
set_option maxHeartbeats 1000000 in
theorem join_any (x y : Pt) (k b : Nat) (w : World) (hT : OfTen w) (hy : Lies w b y) (hx : x.Ok 4000) (ho : y.Ok 4000) (hk : k ≤ 99) :
    Calls Tryd.prog 47 #[x.v, .int .i64 k, .func (.func 56) #[] #[.pointer (some ⟨b, 0, none⟩)]] w fun e w' => e = .returned (joinP x k y).v ∧ Below w.heap.size w w' := by
  have hbz := hy.2.2.2.2
  unfold Pt.v
  go_enter Tryd.func47, Tryd.ntmps47
  go_wp2
  go_loopw [10] (fun c v => ∃ (i : Nat) (z : Pt), c = .int .i64 i ∧ i ≤ k ∧ z.Ok (4000 * (i + 1)) ∧ Hid (joinP z (k - i) y = joinP x k y) ∧ JoinAt w v z) (fun c _ => k - (intOf c).toNat)
  case atStart =>
    refine ⟨0, x, rfl, by omega, hx, rfl, by go_grown, ⟨?_, ?_, ?_, ?_, ?_⟩, fun j => ?_, ?_, ?_, ?_, fun j => ?_, ?_⟩
    all_goals simp [go_sem]
  case round =>
    obtain ⟨i, z, rfl, hi, hz, HJ, hA⟩ := hrel
    have hA0 := hA
    obtain ⟨b0, ⟨l0, l1, l2, l3, l4⟩, fr, r0, r1, r2, rf, hs⟩ := hA0
    have hyv := hy.below b0 hbz
    by_cases hlt : i < k
    · go_wp2_with fail
      refine (times1_any z y b _ hyv (hz.more (by omega)) (ho.more (by omega))).mono ?_
      rintro e v' ⟨rfl, hb⟩
      obtain ⟨b0, ⟨l0, l1, l2, l3, l4⟩, fr, r0, r1, r2, rf, hs⟩ := hA.below hb
      cases ht : timesP z y with
      | none =>
        have HO : Hid (joinP x k y = over) := by
          show joinP x k y = over
          rw [← HJ.out, show k - i = (k - i - 1) + 1 from by omega]
          unfold joinP
          rw [ht]
        clear ht
        unfold onceV
        go_wp2
        refine bodyPost_ret (v := over.v) (by simp [results, Tryd.results47, go_sem, over, Got.v, r0, r1, r2]) rfl ⟨by rw [HO.out], ?_⟩
        go_grown
      | some z' =>
        have HO : Hid (joinP z' (k - (i + 1)) y = joinP x k y) := by
          show joinP z' (k - (i + 1)) y = joinP x k y
          rw [← HJ.out, show k - i = (k - (i + 1)) + 1 from by omega, joinP]
          rw [ht]
        have HZ := Lib.hid (times_ok hz ho ht)
        clear ht
        unfold onceV Pt.v
        go_wp2
        go_roundw
        case rel => exact ⟨i + 1, z', by go_num, by omega, HZ.out.more (by omega), HO, JoinAt.set ⟨b0, ⟨l0, l1, l2, l3, l4⟩, fr, r0, r1, r2, rf, hs⟩ z'⟩
        case measure => simp only [intOf]; omega
    · obtain rfl : i = k := by omega
      go_wp2_with fail
      refine (form_any z _ (hT.below b0) (hz.more (by omega))).mono ?_
      rintro e v' ⟨rfl, hb⟩
      obtain ⟨b0, ⟨l0, l1, l2, l3, l4⟩, fr, r0, r1, r2, rf, hs⟩ := hA.below hb
      have HE : Hid (formP z = joinP x i y) := by
        have := HJ.out
        rw [Nat.sub_self] at this
        exact this
      unfold Got.v
      go_wp2
      refine bodyPost_ret (v := (formP z).v) (by simp [results, Tryd.results47, go_sem, Got.v, r0, r1, r2]) rfl ⟨by rw [HE.out], ?_⟩
      go_grown

end Go.Proofs.YtpmibcdmaaagjaaDoor.Frac

namespace Go.Proofs.YtpmibcdmaaagjaaDoor.Frac
open Go.RowKit
open Go.Proofs.YtpmibcdmaaagjaaDoor.Whole
set_option linter.unusedVariables false
set_option linter.unusedSimpArgs false

theorem Lies.new (w : World) (p : Pt) : Lies (w.alloc (.cells #[.int .i64 p.n, .int .i64 p.d, .int .i64 p.e2, .int .i64 p.e5] 94)) w.heap.size p := by
  refine ⟨?_, ?_, ?_, ?_, ?_⟩
  all_goals simp [go_sem]

theorem Below.go {w v v' : World} (h : Below w.heap.size w v) (h' : Below v.heap.size v v') : Below w.heap.size w v' := h.trans (h'.mono h.size)

/-- In the world v the block b is room for a frac. -/
def Room (v : World) (b : Nat) : Prop :=
  v.cell? ⟨b, 0, none⟩ = some (.int .i64 0) ∧ v.cell? ⟨b, 1, none⟩ = some (.int .i64 0) ∧ v.cell? ⟨b, 2, none⟩ = some (.int .i64 0) ∧ (∀ j, v.frozen? ⟨b, j, none⟩ = false) ∧ b < v.heap.size

theorem Room.below {v v' : World} {b B : Nat} (h : Room v b) (hb : Below B v v') (hB : b < B) : Room v' b := by
  obtain ⟨h0, h1, h2, h3, hz⟩ := h
  exact ⟨(hb.cell (p := ⟨b, 0, none⟩) hB).trans h0, (hb.cell (p := ⟨b, 1, none⟩) hB).trans h1, (hb.cell (p := ⟨b, 2, none⟩) hB).trans h2, fun j => (hb.frozen (p := ⟨b, j, none⟩) hB).trans (h3 j), by have := hb.size; omega⟩

theorem Room.new (w : World) : Room (w.alloc (.cells #[.int .i64 0, .int .i64 0, .int .i64 0] 67)) w.heap.size := by
  refine ⟨?_, ?_, ?_, fun j => ?_, ?_⟩
  all_goals simp [go_sem]

set_option maxRecDepth 100000 in
set_option maxHeartbeats 1000000 in
theorem make_arg (num den ten : Int) (w : World) (h : num < -9223372036854775807 ∨ den < -9223372036854775807) :
    Calls Tryd.prog 40 #[.int .i64 num, .int .i64 den, .int .i64 ten] w fun e w' => e = .returned (.tuple #[.agg #[.int .i64 0, .int .i64 0, .int .i64 0], .int .i64 1]) ∧ Below w.heap.size w w' := by
  by_cases h1 : num < -9223372036854775807
  · go_enter Tryd.func40, Tryd.ntmps40
    go_wp2_with (go_at_call 46; ((with_reducible refine (fits_no _ _ h1).mono ?_); rintro e w' ⟨rfl, rfl⟩))
    refine bodyPost_ret (v := .tuple #[.agg #[.int .i64 0, .int .i64 0, .int .i64 0], .int .i64 1]) (by simp [results, Tryd.results40, go_sem]) rfl ⟨rfl, ?_⟩
    go_grown
  · have h2 : den < -9223372036854775807 := by omega
    go_enter Tryd.func40, Tryd.ntmps40
    go_wp2_with (first
      | (go_at_call_of 46 (Value.int IntKind.i64 den); ((with_reducible refine (fits_no _ _ h2).mono ?_); rintro e w' ⟨rfl, rfl⟩))
      | (go_at_call_of 46 (Value.int IntKind.i64 num); ((with_reducible refine (fits_yes _ _ (by omega)).mono ?_); rintro e w' ⟨rfl, rfl⟩)))
    refine bodyPost_ret (v := .tuple #[.agg #[.int .i64 0, .int .i64 0, .int .i64 0], .int .i64 1]) (by simp [results, Tryd.results40, go_sem]) rfl ⟨rfl, ?_⟩
    go_grown

set_option maxRecDepth 100000 in
set_option maxHeartbeats 1000000 in
theorem make_zero (num ten : Int) (w : World) (h : -9223372036854775807 ≤ num) :
    Calls Tryd.prog 40 #[.int .i64 num, .int .i64 0, .int .i64 ten] w fun e w' => e = .returned (.tuple #[.agg #[.int .i64 0, .int .i64 0, .int .i64 0], .int .i64 11]) ∧ Below w.heap.size w w' := by
  go_enter Tryd.func40, Tryd.ntmps40
  go_wp2_with (go_at_call 46; ((with_reducible refine (fits_yes _ _ (by omega)).mono ?_); rintro e w' ⟨rfl, rfl⟩))
  refine bodyPost_ret (v := .tuple #[.agg #[.int .i64 0, .int .i64 0, .int .i64 0], .int .i64 11]) (by simp [results, Tryd.results40, go_sem]) rfl ⟨rfl, ?_⟩
  go_grown

/-- The powers of ten that are tried, as the program holds them. -/
def NearIs (ten t : Int) : Prop := ten ≤ -2000 ∧ t = -2000 ∨ 2000 < ten ∧ t = 2000 ∨ -2000 < ten ∧ ten ≤ 2000 ∧ t = ten

set_option maxRecDepth 100000 in
set_option maxHeartbeats 2000000 in
theorem make_join (num den ten t : Int) (w : World) (hT : OfTen w) (h1 : num.natAbs ≤ 9223372036854775807) (h2 : den.natAbs ≤ 9223372036854775807) (h0 : den ≠ 0) (ht : NearIs ten t) :
    Calls Tryd.prog 40 #[.int .i64 num, .int .i64 den, .int .i64 ten] w fun e w' => e = .returned (joinP (apartP num t) 1 (turnP (apartP den 0))).v ∧ Below w.heap.size w w' := by
  have z0 : (den == 0) = false := by simpa using h0
  obtain ⟨ok1, _⟩ := apart_ok num t h1 (by unfold NearIs at ht; omega) (by unfold NearIs at ht; omega)
  obtain ⟨ok2, _⟩ := apart_ok den 0 h2 (by omega) (by omega)
  have hne : (apartP den 0).n ≠ 0 := by
    unfold apartP; rw [if_neg h0]; exact spL_ne _ 5 (by omega) (spL_ne _ 2 (by omega) h0)
  have ok3 := turn_ok ok2 hne
  have H3 := Lib.hid hne
  clear hne h0
  rcases ht with ⟨t1, rfl⟩ | ⟨t1, rfl⟩ | ⟨t1, t2, rfl⟩
  all_goals
    go_enter Tryd.func40, Tryd.ntmps40
    go_wp2_with (go_at_call 46; ((with_reducible refine (fits_yes _ _ (by omega)).mono ?_); rintro e w' ⟨rfl, rfl⟩))
    have hB0 : Below w.heap.size w (w.alloc (Obj.cells #[Value.int IntKind.i64 0, Value.int IntKind.i64 0, Value.int IntKind.i64 0] 67)) := by go_grown
    have hR := Room.new w
    refine (apart_any num _ _ (hT.below hB0) h1 (by omega) (by omega)).mono ?_
    rintro e w1 ⟨rfl, hb1⟩
    have hB1 := Below.go hB0 hb1
    replace hR := hR.below hb1 hR.2.2.2.2
    clear hb1 hB0
    go_wp2_with fail
    refine (apart_any den _ _ (hT.below hB1) h2 (by omega) (by omega)).mono ?_
    rintro e w2 ⟨rfl, hb2⟩
    have hB2 := Below.go hB1 hb2
    replace hR := hR.below hb2 hR.2.2.2.2
    clear hb2 hB1
    go_wp2_with fail
    refine (turned_any _ _ (ok2.more (by omega))).mono ?_
    rintro e w3 ⟨rfl, hb3⟩
    have hB3 := Below.go hB2 hb3
    replace hR := hR.below hb3 hR.2.2.2.2
    clear hb3 hB2
    go_wp2_with fail
    refine (times_yes _ _ _ _ _).mono ?_
    rintro e w4 ⟨rfl, rfl⟩
    have hL := Lies.new w3 (turnP (apartP den 0))
    have hA : Below w3.heap.size w3 (w3.alloc (.cells #[.int .i64 (turnP (apartP den 0)).n, .int .i64 (turnP (apartP den 0)).d, .int .i64 (turnP (apartP den 0)).e2, .int .i64 (turnP (apartP den 0)).e5] 94)) := by go_grown
    have hB4 := Below.go hB3 hA
    replace hR := hR.below hA hR.2.2.2.2
    clear hA hB3
    go_wp2_with fail
    refine (join_any _ _ 1 _ _ (hT.below hB4) hL (ok1.more (by omega)) (ok3.more (by omega)) (by omega)).mono ?_
    rintro e w5 ⟨rfl, hb5⟩
    have hB5 := Below.go hB4 hb5
    replace hR := hR.below hb5 hR.2.2.2.2
    clear hb5 hB4 hL
    obtain ⟨r0, r1, r2, rf, rz⟩ := hR
    generalize hG : joinP _ 1 (turnP (apartP den 0)) = G
    have HG := Lib.hid hG
    clear hG
    unfold Got.v
    go_wp2
    refine bodyPost_ret (v := G.v) (by simp [results, Tryd.results40, go_sem, Got.v, r0, r1, r2]) rfl ⟨by rw [HG.out], ?_⟩
    go_grown

theorem make_any (num den ten : Int) (w : World) (hT : OfTen w) (h1 : num ≤ 9223372036854775807) (h2 : den ≤ 9223372036854775807) :
    Calls Tryd.prog 40 #[.int .i64 num, .int .i64 den, .int .i64 ten] w fun e w' => e = .returned (makeG num den ten).v ∧ Below w.heap.size w w' := by
  unfold makeG
  by_cases ha : num < -9223372036854775807 ∨ den < -9223372036854775807
  · rw [if_pos ha]; exact make_arg num den ten w ha
  rw [if_neg ha]
  by_cases h0 : den = 0
  · rw [if_pos h0, h0]; exact make_zero num ten w (by omega)
  rw [if_neg h0]
  refine make_join num den ten (near ten) w hT (by omega) (by omega) h0 ?_
  unfold near NearIs
  by_cases t1 : ten < -2000
  · rw [if_pos t1]; exact .inl ⟨by omega, rfl⟩
  rw [if_neg t1]
  by_cases t2 : 2000 < ten
  · rw [if_pos t2]; exact .inr (.inl ⟨t2, rfl⟩)
  · rw [if_neg t2]; omega

theorem right_of {n d t : Int} {G : Got} (h : makeG n d t = G) : rightB n d t = decide (G.n = n ∧ G.d = d ∧ G.t = t ∧ G.e = 0) := by
  unfold rightB
  rw [h]
  obtain ⟨a, b, c, e⟩ := G
  rw [Bool.eq_iff_iff]
  simp

end Go.Proofs.YtpmibcdmaaagjaaDoor.Frac

