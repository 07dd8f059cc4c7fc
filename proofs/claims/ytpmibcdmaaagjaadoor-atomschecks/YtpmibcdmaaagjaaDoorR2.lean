/-
  Contracts of the reference's Mul, Gcd, Split: what each returns for every argument of its kind, and the world behind it.
-/
import Derived.Test.YtpmibcdmaaagjaaDoorR1
namespace Go.Proofs.YtpmibcdmaaagjaaDoor.Whole
open Go.RowKit
set_option linter.unusedVariables false
set_option linter.unusedSimpArgs false

theorem quo_le (x y : Nat) (hx : 1 ≤ x) (h : x * y ≤ 9223372036854775807) : (y : Int) ≤ 9223372036854775807 / (x : Int) := by
  rw [Int.le_ediv_iff_mul_le (by omega), ← Int.natCast_mul, Nat.mul_comm]; omega

theorem quo_lt (x y : Nat) (hx : 1 ≤ x) (h : 9223372036854775807 < x * y) : 9223372036854775807 / (x : Int) < (y : Int) := by
  rw [Int.ediv_lt_iff_lt_mul (by omega), ← Int.natCast_mul, Nat.mul_comm]; omega

set_option maxHeartbeats 400000 in
theorem rmul_yes (a b : Int) (w : World) (ha : -9223372036854775807 ≤ a) (hb : -9223372036854775807 ≤ b) (ha' : a ≤ 9223372036854775807) (hb' : b ≤ 9223372036854775807) (h1 : -9223372036854775807 ≤ a * b) (h2 : a * b ≤ 9223372036854775807) :
    Calls Tryd.prog 51 #[.int .i64 a, .int .i64 b] w fun e w' => e = .returned (.agg #[.int .i64 (a * b), .bool true]) ∧ w.alloc (.cells #[.int .i64 (a * b), .bool true] 100) = w' := by
  by_cases h0 : a = 0
  · subst h0
    go_enter Tryd.func51, Tryd.ntmps51
    go_wp2_with (go_at_call 42; ((with_reducible refine (rfits_yes _ _ (by omega)).mono ?_); rintro e w' ⟨rfl, rfl⟩))
    all_goals
      refine bodyPost_ret (v := .agg #[.int .i64 (0 * b), .bool true]) (by simp [results, Tryd.results51, go_sem]) rfl ⟨rfl, ?_⟩
      simp
  · have e0 : (a != 0) = true := by simpa using h0
    have na : 1 ≤ a.natAbs := by omega
    have hq := quo_le a.natAbs b.natAbs na (by rw [← Int.natAbs_mul]; generalize a * b = p at *; omega)
    have n1 : (a.natAbs : Int) ≤ 9223372036854775807 := by omega
    have n2 : 1 ≤ (a.natAbs : Int) := by omega
    have hd : decide (9223372036854775807 / (a.natAbs : Int) < (b.natAbs : Int)) = false := by simp only [decide_eq_false_iff_not]; omega
    clear hq
    go_enter Tryd.func51, Tryd.ntmps51
    go_wp2_with (first
      | (go_at_call 42; ((with_reducible refine (rfits_yes _ _ (by omega)).mono ?_); rintro e w' ⟨rfl, rfl⟩))
      | (go_at_call 59; ((with_reducible refine (rsize_any _ _ (by omega)).mono ?_); rintro e w' ⟨rfl, rfl⟩)))
    all_goals
      refine bodyPost_ret (v := .agg #[.int .i64 (a * b), .bool true]) (by simp [results, Tryd.results51, go_sem]) rfl ⟨rfl, ?_⟩
      rfl

set_option maxHeartbeats 400000 in
theorem rmul_no1 (a b : Int) (w : World) (ha : a < -9223372036854775807) :
    Calls Tryd.prog 51 #[.int .i64 a, .int .i64 b] w fun e w' => e = .returned (.agg #[.int .i64 0, .bool false]) ∧ w.alloc (.cells #[.int .i64 0, .bool false] 100) = w' := by
  have hd : decide (-9223372036854775807 ≤ a) = false := by simp; omega
  go_enter Tryd.func51, Tryd.ntmps51
  go_wp2
  all_goals
    refine bodyPost_ret (v := .agg #[.int .i64 0, .bool false]) (by simp [results, Tryd.results51, go_sem]) rfl ⟨rfl, ?_⟩
    rfl

set_option maxHeartbeats 400000 in
theorem rmul_no2 (a b : Int) (w : World) (ha : -9223372036854775807 ≤ a) (hb : b < -9223372036854775807) :
    Calls Tryd.prog 51 #[.int .i64 a, .int .i64 b] w fun e w' => e = .returned (.agg #[.int .i64 0, .bool false]) ∧ w.alloc (.cells #[.int .i64 0, .bool false] 100) = w' := by
  have hd : decide (-9223372036854775807 ≤ b) = false := by simp; omega
  go_enter Tryd.func51, Tryd.ntmps51
  go_wp2
  all_goals
    refine bodyPost_ret (v := .agg #[.int .i64 0, .bool false]) (by simp [results, Tryd.results51, go_sem]) rfl ⟨rfl, ?_⟩
    rfl

set_option maxHeartbeats 400000 in
theorem rmul_no3 (a b : Int) (w : World) (ha : -9223372036854775807 ≤ a) (hb : -9223372036854775807 ≤ b) (ha' : a ≤ 9223372036854775807) (hb' : b ≤ 9223372036854775807) (h : Hid (9223372036854775807 < a.natAbs * b.natAbs)) :
    Calls Tryd.prog 51 #[.int .i64 a, .int .i64 b] w fun e w' => e = .returned (.agg #[.int .i64 0, .bool false]) ∧ w.alloc (.cells #[.int .i64 0, .bool false] 100) = w' := by
  have na : 1 ≤ a.natAbs := by
    rcases Nat.eq_zero_or_pos a.natAbs with z | z
    · have := h.out; rw [z] at this; simp at this
    · exact z
  have e0 : (a != 0) = true := by simp; omega
  have hq := quo_lt a.natAbs b.natAbs na h.out
  have n1 : (a.natAbs : Int) ≤ 9223372036854775807 := by omega
  have n2 : 1 ≤ (a.natAbs : Int) := by omega
  have hd : decide (9223372036854775807 / (a.natAbs : Int) < (b.natAbs : Int)) = true := by simp only [decide_eq_true_eq]; omega
  clear hq
  go_enter Tryd.func51, Tryd.ntmps51
  go_wp2_with (first
    | (go_at_call 42; ((with_reducible refine (rfits_yes _ _ (by omega)).mono ?_); rintro e w' ⟨rfl, rfl⟩))
    | (go_at_call 59; ((with_reducible refine (rsize_any _ _ (by omega)).mono ?_); rintro e w' ⟨rfl, rfl⟩)))
  all_goals
    refine bodyPost_ret (v := .agg #[.int .i64 0, .bool false]) (by simp [results, Tryd.results51, go_sem]) rfl ⟨rfl, ?_⟩
    rfl

theorem rmul_no (a b : Int) (w : World) (ha' : a ≤ 9223372036854775807) (hb' : b ≤ 9223372036854775807)
    (h : a < -9223372036854775807 ∨ b < -9223372036854775807 ∨ a * b < -9223372036854775807 ∨ 9223372036854775807 < a * b) :
    Calls Tryd.prog 51 #[.int .i64 a, .int .i64 b] w fun e w' => e = .returned (.agg #[.int .i64 0, .bool false]) ∧ w.alloc (.cells #[.int .i64 0, .bool false] 100) = w' := by
  by_cases h1 : a < -9223372036854775807
  · exact rmul_no1 a b w h1
  by_cases h2 : b < -9223372036854775807
  · exact rmul_no2 a b w (by omega) h2
  refine rmul_no3 a b w (by omega) (by omega) ha' hb' ?_
  show 9223372036854775807 < a.natAbs * b.natAbs
  rw [← Int.natAbs_mul]
  generalize a * b = p at *
  omega

set_option maxHeartbeats 400000 in
theorem rgcd_yes (a b : Int) (w : World) (ha : -9223372036854775807 ≤ a) (hb : -9223372036854775807 ≤ b) (ha' : a ≤ 9223372036854775807) (hb' : b ≤ 9223372036854775807) :
    Calls Tryd.prog 53 #[.int .i64 a, .int .i64 b] w fun e w' => e = .returned (.int .i64 (Int.gcd a b : Nat)) ∧ w = w' := by
  have n1 : a.natAbs ≤ 9223372036854775807 := by omega
  have n2 : b.natAbs ≤ 9223372036854775807 := by omega
  have hG : Hid (Nat.gcd a.natAbs b.natAbs = Int.gcd a b) := rfl
  go_enter Tryd.func53, Tryd.ntmps53
  go_wp2_with (first
    | (go_at_call 42; ((with_reducible refine (rfits_yes _ _ (by omega)).mono ?_); rintro e w' ⟨rfl, rfl⟩))
    | (go_at_call 59; ((with_reducible refine (rsize_any _ _ (by omega)).mono ?_); rintro e w' ⟨rfl, rfl⟩)))
  generalize a.natAbs = x at *
  generalize b.natAbs = y at *
  go_loop [7, 8, 9] (fun p q _ => ∃ m n : Nat, p = .int .i64 m ∧ q = .int .i64 n ∧ m ≤ 9223372036854775807 ∧ n ≤ 9223372036854775807 ∧ Hid (Nat.gcd m n = Int.gcd a b)) (fun _ q _ => (intOf q).toNat)
  case atStart => exact ⟨x, y, rfl, rfl, n1, n2, hG⟩
  case round =>
    obtain ⟨m, n, rfl, rfl, hm, hn, hg⟩ := hrel
    by_cases hz : n = 0
    · subst hz
      go_wp2
      go_ret
      refine ⟨?_, rfl⟩
      have := hg.out; rw [Nat.gcd_zero_right] at this; rw [← this]; rfl
    · have hp : 0 < (n : Int) := by omega
      have hb2 : ((n : Int) == 0) = false := by simp; omega
      have hl : m % n < n := Nat.mod_lt _ (by omega)
      go_wp2
      go_round
      case rel =>
        refine ⟨n, m % n, rfl, rfl, hn, by omega, ?_⟩
        show Nat.gcd n (m % n) = Int.gcd a b
        rw [← hg.out, Nat.gcd_comm n, Nat.gcd_comm m n, Nat.gcd_rec n m]
      case measure => simp only [intOf]; omega

set_option maxHeartbeats 400000 in
theorem rgcd_no1 (a b : Int) (w : World) (ha : a < -9223372036854775807) :
    Calls Tryd.prog 53 #[.int .i64 a, .int .i64 b] w fun e w' => e = .returned (.int .i64 0) ∧ w = w' := by
  have hd : decide (-9223372036854775807 ≤ a) = false := by simp; omega
  go_enter Tryd.func53, Tryd.ntmps53
  go_wp2
  all_goals go_ret
  all_goals exact ⟨rfl, rfl⟩

set_option maxHeartbeats 400000 in
theorem rgcd_no2 (a b : Int) (w : World) (ha : -9223372036854775807 ≤ a) (hb : b < -9223372036854775807) :
    Calls Tryd.prog 53 #[.int .i64 a, .int .i64 b] w fun e w' => e = .returned (.int .i64 0) ∧ w = w' := by
  have hd : decide (-9223372036854775807 ≤ b) = false := by simp; omega
  go_enter Tryd.func53, Tryd.ntmps53
  go_wp2
  all_goals go_ret
  all_goals exact ⟨rfl, rfl⟩

theorem rgcd_no (a b : Int) (w : World) (h : a < -9223372036854775807 ∨ b < -9223372036854775807) :
    Calls Tryd.prog 53 #[.int .i64 a, .int .i64 b] w fun e w' => e = .returned (.int .i64 0) ∧ w = w' := by
  by_cases h1 : a < -9223372036854775807
  · exact rgcd_no1 a b w h1
  · exact rgcd_no2 a b w (by omega) (by omega)

set_option maxHeartbeats 400000 in
theorem rsplit_yes (n k : Int) (w : World) (hn : -9223372036854775807 ≤ n) (hn' : n ≤ 9223372036854775807) (hk : 2 ≤ k) (hk' : k ≤ 9223372036854775807) (h0 : n ≠ 0) :
    Calls Tryd.prog 52 #[.int .i64 n, .int .i64 k] w fun e w' => e = .returned (.agg #[.int .i64 (spT n k : Nat), .int .i64 (spL n k)]) ∧ (w.alloc (.cells #[.int .i64 (spT n k : Nat), .int .i64 (spL n k)] 103)).alloc (.cells #[.int .i64 (spT n k : Nat), .int .i64 (spL n k)] 103) = w' := by
  have e0 : (n == 0) = false := by simpa using h0
  have e2 : decide (k < 2) = false := by simp; omega
  have ek : (k == 0) = false := by simp; omega
  go_enter Tryd.func52, Tryd.ntmps52
  go_wp2_with (go_at_call 42; ((with_reducible refine (rfits_yes _ _ hn).mono ?_); rintro e w' ⟨rfl, rfl⟩))
  go_loopg [] n.natAbs (fun g wr => ∃ (m : Int) (t : Nat), wr = (w.alloc (.cells #[.int .i64 0, .int .i64 0] 103)).alloc (.cells #[.int .i64 t, .int .i64 m] 103) ∧ g = m.natAbs ∧ -9223372036854775807 ≤ m ∧ m ≤ 9223372036854775807 ∧ m.natAbs + t ≤ n.natAbs ∧ Hid (m ≠ 0) ∧ Hid (m * k ^ t = n))
  case atStart => exact ⟨n, 0, rfl, rfl, hn, hn', by omega, h0, by show n * k ^ 0 = n; simp⟩
  case round =>
    obtain ⟨m, t, rfl, rfl, hm, hm', ht, hm0, hp⟩ := hrel
    by_cases hd : m % k = 0
    · obtain ⟨d0, d1, d2⟩ := div_less m k hk hm0.out hd
      have H0 := Lib.hid d0
      have H1 := Lib.hid (sp_step n k m t hd hp.out)
      have et : (m.tmod k == 0) = true := by simp [(tmod_zero m k).2 hd]
      have eq := tdiv_is m k hd
      have hq1 : -9223372036854775807 ≤ m.tdiv k := by rw [eq]; omega
      have hq2 : m.tdiv k ≤ 9223372036854775807 := by rw [eq]; omega
      have EQ := Lib.hid eq
      clear eq hd d0 d2
      go_wp2
      go_roundg (m / k).natAbs
      case rel => exact ⟨m.tdiv k, t + 1, rfl, by rw [EQ.out], hq1, hq2, by rw [EQ.out]; omega, by rw [EQ.out]; exact H0, by rw [EQ.out]; exact H1⟩
      case measure => omega
    · have et : (m.tmod k == 0) = false := by simp [tmod_zero m k, hd]
      obtain ⟨h1, h2⟩ := sp_is n k m t hk h0 hp.out hd
      have H1 := Lib.hid h1
      have H2 := Lib.hid h2
      clear h1 h2 hd
      go_wp2
      refine bodyPost_ret (v := .agg #[.int .i64 t, .int .i64 m]) (by simp [results, Tryd.results52, go_sem]) rfl ⟨by rw [← H1.out, ← H2.out], ?_⟩
      rw [← H1.out, ← H2.out]

set_option maxHeartbeats 400000 in
theorem rsplit_no0 (k : Int) (w : World) :
    Calls Tryd.prog 52 #[.int .i64 0, .int .i64 k] w fun e w' => e = .returned (.agg #[.int .i64 0, .int .i64 0]) ∧ (w.alloc (.cells #[.int .i64 0, .int .i64 0] 103)).alloc (.cells #[.int .i64 0, .int .i64 0] 103) = w' := by
  go_enter Tryd.func52, Tryd.ntmps52
  go_wp2
  all_goals
    refine bodyPost_ret (v := .agg #[.int .i64 0, .int .i64 0]) (by simp [results, Tryd.results52, go_sem]) rfl ⟨rfl, ?_⟩
    rfl

set_option maxHeartbeats 400000 in
theorem rsplit_no1 (n k : Int) (w : World) (h : n < -9223372036854775807) :
    Calls Tryd.prog 52 #[.int .i64 n, .int .i64 k] w fun e w' => e = .returned (.agg #[.int .i64 0, .int .i64 n]) ∧ (w.alloc (.cells #[.int .i64 0, .int .i64 n] 103)).alloc (.cells #[.int .i64 0, .int .i64 n] 103) = w' := by
  go_enter Tryd.func52, Tryd.ntmps52
  go_wp2_with (go_at_call 42; ((with_reducible refine (rfits_no _ _ h).mono ?_); rintro e w' ⟨rfl, rfl⟩))
  all_goals
    refine bodyPost_ret (v := .agg #[.int .i64 0, .int .i64 n]) (by simp [results, Tryd.results52, go_sem]) rfl ⟨rfl, ?_⟩
    rfl

set_option maxHeartbeats 400000 in
theorem rsplit_no2 (n k : Int) (w : World) (h0 : n ≠ 0) (h : -9223372036854775807 ≤ n) (hk : k < 2) :
    Calls Tryd.prog 52 #[.int .i64 n, .int .i64 k] w fun e w' => e = .returned (.agg #[.int .i64 0, .int .i64 n]) ∧ (w.alloc (.cells #[.int .i64 0, .int .i64 n] 103)).alloc (.cells #[.int .i64 0, .int .i64 n] 103) = w' := by
  have e0 : (n == 0) = false := by simpa using h0
  go_enter Tryd.func52, Tryd.ntmps52
  go_wp2_with (go_at_call 42; ((with_reducible refine (rfits_yes _ _ h).mono ?_); rintro e w' ⟨rfl, rfl⟩))
  all_goals
    refine bodyPost_ret (v := .agg #[.int .i64 0, .int .i64 n]) (by simp [results, Tryd.results52, go_sem]) rfl ⟨rfl, ?_⟩
    rfl

theorem rsplit_no (n k : Int) (w : World) (h : n = 0 ∨ n < -9223372036854775807 ∨ k < 2) :
    Calls Tryd.prog 52 #[.int .i64 n, .int .i64 k] w fun e w' => e = .returned (.agg #[.int .i64 0, .int .i64 n]) ∧ (w.alloc (.cells #[.int .i64 0, .int .i64 n] 103)).alloc (.cells #[.int .i64 0, .int .i64 n] 103) = w' := by
  by_cases h0 : n = 0
  · subst h0; exact rsplit_no0 k w
  by_cases h1 : n < -9223372036854775807
  · exact rsplit_no1 n k w h1
  · exact rsplit_no2 n k w h0 (by omega) (by omega)

end Go.Proofs.YtpmibcdmaaagjaaDoor.Whole
