/-
  Contracts of whole.Fits, whole.size, whole.Add, whole.Mul, whole.Gcd, whole.Split: what each returns, for every argument of its kind; the world stays as it was.
-/
import Derived.Test.YtlpkpmpkbinfoaaW2
import Derived.Test.YtlpkpmpkbinfoaaM
import Derived.Lib.Hide
import Derived.BigQuiet
import Derived.Deep.QuietTactic
namespace Go.Proofs.Ytlpkpmpkbinfoaa.Whole
open Go.RowKit
set_option linter.unusedVariables false

set_option maxHeartbeats 400000 in
theorem fits_yes (n : Int) (w : World) (h : -9223372036854775807 ≤ n) :
    Calls Try.prog 22 #[.int .i64 n] w fun e w' => e = .returned (.bool true) ∧ w = w' := by
  go_enter Try.func22, Try.ntmps22
  go_wp2
  go_ret
  exact ⟨rfl, rfl⟩

set_option maxHeartbeats 400000 in
theorem fits_no (n : Int) (w : World) (h : n < -9223372036854775807) :
    Calls Try.prog 22 #[.int .i64 n] w fun e w' => e = .returned (.bool false) ∧ w = w' := by
  have hb : decide (-9223372036854775807 ≤ n) = false := by simp; omega
  go_enter Try.func22, Try.ntmps22
  go_wp2
  go_ret
  exact ⟨rfl, rfl⟩

set_option maxHeartbeats 400000 in
theorem size_neg (n : Int) (w : World) (h : n < 0) (h2 : -9223372036854775807 ≤ n) :
    Calls Try.prog 25 #[.int .i64 n] w fun e w' => e = .returned (.int .i64 (-n)) ∧ w = w' := by
  go_enter Try.func25, Try.ntmps25
  go_wp2
  go_ret
  exact ⟨rfl, rfl⟩

set_option maxHeartbeats 400000 in
theorem size_pos (n : Int) (w : World) (h : 0 ≤ n) :
    Calls Try.prog 25 #[.int .i64 n] w fun e w' => e = .returned (.int .i64 n) ∧ w = w' := by
  go_enter Try.func25, Try.ntmps25
  go_wp2
  go_ret
  exact ⟨rfl, rfl⟩

/-- The size of a whole number, by one contract. -/
theorem size_any (n : Int) (w : World) (h2 : -9223372036854775807 ≤ n) :
    Calls Try.prog 25 #[.int .i64 n] w fun e w' => e = .returned (.int .i64 (n.natAbs : Int)) ∧ w = w' := by
  by_cases h : n < 0
  · rw [show (n.natAbs : Int) = -n from by omega]; exact size_neg n w h h2
  · rw [show (n.natAbs : Int) = n from by omega]; exact size_pos n w (by omega)

set_option maxHeartbeats 400000 in
theorem add_yes (a b : Int) (w : World) (ha : -9223372036854775807 ≤ a) (hb : -9223372036854775807 ≤ b) (ha' : a ≤ 9223372036854775807) (_hb' : b ≤ 9223372036854775807) (h1 : -9223372036854775807 ≤ a + b) (h2 : a + b ≤ 9223372036854775807) :
    Calls Try.prog 12 #[.int .i64 a, .int .i64 b] w fun e w' => e = .returned (.tuple #[.int .i64 (a + b), .bool true]) ∧ w = w' := by
  go_enter Try.func12, Try.ntmps12
  go_wp2
  all_goals go_ret2
  all_goals exact ⟨rfl, rfl⟩

set_option maxHeartbeats 400000 in
theorem add_no1 (a b : Int) (w : World) (ha : a < -9223372036854775807) :
    Calls Try.prog 12 #[.int .i64 a, .int .i64 b] w fun e w' => e = .returned (.tuple #[.int .i64 0, .bool false]) ∧ w = w' := by
  have hd : decide (-9223372036854775807 ≤ a) = false := by simp; omega
  go_enter Try.func12, Try.ntmps12
  go_wp2
  all_goals go_ret2
  all_goals exact ⟨rfl, rfl⟩

set_option maxHeartbeats 400000 in
theorem add_no2 (a b : Int) (w : World) (ha : -9223372036854775807 ≤ a) (hb : b < -9223372036854775807) :
    Calls Try.prog 12 #[.int .i64 a, .int .i64 b] w fun e w' => e = .returned (.tuple #[.int .i64 0, .bool false]) ∧ w = w' := by
  have hd : decide (-9223372036854775807 ≤ b) = false := by simp; omega
  go_enter Try.func12, Try.ntmps12
  go_wp2
  all_goals go_ret2
  all_goals exact ⟨rfl, rfl⟩

set_option maxHeartbeats 400000 in
theorem add_no3 (a b : Int) (w : World) (ha : -9223372036854775807 ≤ a) (hb : -9223372036854775807 ≤ b) (ha' : a ≤ 9223372036854775807) (hb' : b ≤ 9223372036854775807) (h1 : 9223372036854775807 < a + b) :
    Calls Try.prog 12 #[.int .i64 a, .int .i64 b] w fun e w' => e = .returned (.tuple #[.int .i64 0, .bool false]) ∧ w = w' := by
  go_enter Try.func12, Try.ntmps12
  go_wp2
  all_goals go_ret2
  all_goals exact ⟨rfl, rfl⟩

set_option maxHeartbeats 400000 in
theorem add_no4 (a b : Int) (w : World) (ha : -9223372036854775807 ≤ a) (hb : -9223372036854775807 ≤ b) (ha' : a ≤ 9223372036854775807) (hb' : b ≤ 9223372036854775807) (h1 : a + b < -9223372036854775807) :
    Calls Try.prog 12 #[.int .i64 a, .int .i64 b] w fun e w' => e = .returned (.tuple #[.int .i64 0, .bool false]) ∧ w = w' := by
  go_enter Try.func12, Try.ntmps12
  go_wp2
  all_goals go_ret2
  all_goals exact ⟨rfl, rfl⟩

theorem add_no (a b : Int) (w : World) (ha' : a ≤ 9223372036854775807) (hb' : b ≤ 9223372036854775807)
    (h : a < -9223372036854775807 ∨ b < -9223372036854775807 ∨ a + b < -9223372036854775807 ∨ 9223372036854775807 < a + b) :
    Calls Try.prog 12 #[.int .i64 a, .int .i64 b] w fun e w' => e = .returned (.tuple #[.int .i64 0, .bool false]) ∧ w = w' := by
  by_cases h1 : a < -9223372036854775807
  · exact add_no1 a b w h1
  by_cases h2 : b < -9223372036854775807
  · exact add_no2 a b w (by omega) h2
  by_cases h3 : a + b < -9223372036854775807
  · exact add_no4 a b w (by omega) (by omega) ha' hb' h3
  · exact add_no3 a b w (by omega) (by omega) ha' hb' (by omega)

end Go.Proofs.Ytlpkpmpkbinfoaa.Whole
