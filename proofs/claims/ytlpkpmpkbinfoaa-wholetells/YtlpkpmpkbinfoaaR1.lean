/-
  Contracts of the reference's functions of layer 1: Fits, size, Add, Mul, Gcd, Split: what each returns for every argument of its kind, and the world behind it.
-/
import Derived.Test.YtlpkpmpkbinfoaaW4
import Derived.WalkSmall
import Derived.Deep.LoopGhost
namespace Go.Proofs.Ytlpkpmpkbinfoaa.Whole
open Go.RowKit
set_option linter.unusedVariables false

set_option maxHeartbeats 400000 in
theorem rfits_yes (n : Int) (w : World) (h : -9223372036854775807 ≤ n) :
    Calls Try.prog 23 #[.int .i64 n] w fun e w' => e = .returned (.bool true) ∧ w = w' := by
  go_enter Try.func23, Try.ntmps23
  go_wp2
  go_ret
  exact ⟨rfl, rfl⟩

set_option maxHeartbeats 400000 in
theorem rfits_no (n : Int) (w : World) (h : n < -9223372036854775807) :
    Calls Try.prog 23 #[.int .i64 n] w fun e w' => e = .returned (.bool false) ∧ w = w' := by
  have hb : decide (-9223372036854775807 ≤ n) = false := by simp; omega
  go_enter Try.func23, Try.ntmps23
  go_wp2
  go_ret
  exact ⟨rfl, rfl⟩

set_option maxHeartbeats 400000 in
theorem rsize_neg (n : Int) (w : World) (h : n < 0) (h2 : -9223372036854775807 ≤ n) :
    Calls Try.prog 27 #[.int .i64 n] w fun e w' => e = .returned (.int .i64 (-n)) ∧ w = w' := by
  go_enter Try.func27, Try.ntmps27
  go_wp2
  go_ret
  exact ⟨rfl, rfl⟩

set_option maxHeartbeats 400000 in
theorem rsize_pos (n : Int) (w : World) (h : 0 ≤ n) :
    Calls Try.prog 27 #[.int .i64 n] w fun e w' => e = .returned (.int .i64 n) ∧ w = w' := by
  go_enter Try.func27, Try.ntmps27
  go_wp2
  go_ret
  exact ⟨rfl, rfl⟩

theorem rsize_any (n : Int) (w : World) (h2 : -9223372036854775807 ≤ n) :
    Calls Try.prog 27 #[.int .i64 n] w fun e w' => e = .returned (.int .i64 (n.natAbs : Int)) ∧ w = w' := by
  by_cases h : n < 0
  · rw [show (n.natAbs : Int) = -n from by omega]; exact rsize_neg n w h h2
  · rw [show (n.natAbs : Int) = n from by omega]; exact rsize_pos n w (by omega)

set_option maxHeartbeats 400000 in
theorem radd_yes (a b : Int) (w : World) (ha : -9223372036854775807 ≤ a) (hb : -9223372036854775807 ≤ b) (ha' : a ≤ 9223372036854775807) (hb' : b ≤ 9223372036854775807) (h1 : -9223372036854775807 ≤ a + b) (h2 : a + b ≤ 9223372036854775807) :
    Calls Try.prog 18 #[.int .i64 a, .int .i64 b] w fun e w' => e = .returned (.agg #[.int .i64 (a + b), .bool true]) ∧ w.alloc (.cells #[.int .i64 (a + b), .bool true] 41) = w' := by
  go_enter Try.func18, Try.ntmps18
  go_wp2
  all_goals
    refine bodyPost_ret (v := .agg #[.int .i64 (a + b), .bool true]) (by simp [results, Try.results18, go_sem]) rfl ⟨rfl, ?_⟩
    rfl

set_option maxHeartbeats 400000 in
theorem radd_no1 (a b : Int) (w : World) (ha : a < -9223372036854775807) :
    Calls Try.prog 18 #[.int .i64 a, .int .i64 b] w fun e w' => e = .returned (.agg #[.int .i64 0, .bool false]) ∧ w.alloc (.cells #[.int .i64 0, .bool false] 41) = w' := by
  have hd : decide (-9223372036854775807 ≤ a) = false := by simp; omega
  go_enter Try.func18, Try.ntmps18
  go_wp2
  all_goals
    refine bodyPost_ret (v := .agg #[.int .i64 0, .bool false]) (by simp [results, Try.results18, go_sem]) rfl ⟨rfl, ?_⟩
    rfl

set_option maxHeartbeats 400000 in
theorem radd_no2 (a b : Int) (w : World) (ha : -9223372036854775807 ≤ a) (hb : b < -9223372036854775807) :
    Calls Try.prog 18 #[.int .i64 a, .int .i64 b] w fun e w' => e = .returned (.agg #[.int .i64 0, .bool false]) ∧ w.alloc (.cells #[.int .i64 0, .bool false] 41) = w' := by
  have hd : decide (-9223372036854775807 ≤ b) = false := by simp; omega
  go_enter Try.func18, Try.ntmps18
  go_wp2
  all_goals
    refine bodyPost_ret (v := .agg #[.int .i64 0, .bool false]) (by simp [results, Try.results18, go_sem]) rfl ⟨rfl, ?_⟩
    rfl

set_option maxHeartbeats 400000 in
theorem radd_no3 (a b : Int) (w : World) (ha : -9223372036854775807 ≤ a) (hb : -9223372036854775807 ≤ b) (ha' : a ≤ 9223372036854775807) (hb' : b ≤ 9223372036854775807) (h1 : 9223372036854775807 < a + b) :
    Calls Try.prog 18 #[.int .i64 a, .int .i64 b] w fun e w' => e = .returned (.agg #[.int .i64 0, .bool false]) ∧ w.alloc (.cells #[.int .i64 0, .bool false] 41) = w' := by
  go_enter Try.func18, Try.ntmps18
  go_wp2
  all_goals
    refine bodyPost_ret (v := .agg #[.int .i64 0, .bool false]) (by simp [results, Try.results18, go_sem]) rfl ⟨rfl, ?_⟩
    rfl

set_option maxHeartbeats 400000 in
theorem radd_no4 (a b : Int) (w : World) (ha : -9223372036854775807 ≤ a) (hb : -9223372036854775807 ≤ b) (ha' : a ≤ 9223372036854775807) (hb' : b ≤ 9223372036854775807) (h1 : a + b < -9223372036854775807) :
    Calls Try.prog 18 #[.int .i64 a, .int .i64 b] w fun e w' => e = .returned (.agg #[.int .i64 0, .bool false]) ∧ w.alloc (.cells #[.int .i64 0, .bool false] 41) = w' := by
  go_enter Try.func18, Try.ntmps18
  go_wp2
  all_goals
    refine bodyPost_ret (v := .agg #[.int .i64 0, .bool false]) (by simp [results, Try.results18, go_sem]) rfl ⟨rfl, ?_⟩
    rfl

theorem radd_no (a b : Int) (w : World) (ha' : a ≤ 9223372036854775807) (hb' : b ≤ 9223372036854775807)
    (h : a < -9223372036854775807 ∨ b < -9223372036854775807 ∨ a + b < -9223372036854775807 ∨ 9223372036854775807 < a + b) :
    Calls Try.prog 18 #[.int .i64 a, .int .i64 b] w fun e w' => e = .returned (.agg #[.int .i64 0, .bool false]) ∧ w.alloc (.cells #[.int .i64 0, .bool false] 41) = w' := by
  by_cases h1 : a < -9223372036854775807
  · exact radd_no1 a b w h1
  by_cases h2 : b < -9223372036854775807
  · exact radd_no2 a b w (by omega) h2
  by_cases h3 : a + b < -9223372036854775807
  · exact radd_no4 a b w (by omega) (by omega) ha' hb' h3
  · exact radd_no3 a b w (by omega) (by omega) ha' hb' (by omega)
end Go.Proofs.Ytlpkpmpkbinfoaa.Whole
