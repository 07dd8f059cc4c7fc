/-
  Contracts of the reference's functions of layer 1: Fits, size, Add, Mul, Gcd, Split: what each returns for every argument of its kind, and the world behind it.
-/
import Derived.Test.YtpmibcdmaaagjaaDoorWA
import Derived.WalkSmall
import Derived.Deep.LoopGhost
namespace Go.Proofs.YtpmibcdmaaagjaaDoor.Whole
open Go.RowKit
set_option linter.unusedVariables false
set_option linter.unusedSimpArgs false

set_option maxHeartbeats 400000 in
theorem rfits_yes (n : Int) (w : World) (h : -9223372036854775807 ≤ n) :
    Calls Tryd.prog 42 #[.int .i64 n] w fun e w' => e = .returned (.bool true) ∧ w = w' := by
  go_enter Tryd.func42, Tryd.ntmps42
  go_wp2
  go_ret
  exact ⟨rfl, rfl⟩

set_option maxHeartbeats 400000 in
theorem rfits_no (n : Int) (w : World) (h : n < -9223372036854775807) :
    Calls Tryd.prog 42 #[.int .i64 n] w fun e w' => e = .returned (.bool false) ∧ w = w' := by
  have hb : decide (-9223372036854775807 ≤ n) = false := by simp; omega
  go_enter Tryd.func42, Tryd.ntmps42
  go_wp2
  go_ret
  exact ⟨rfl, rfl⟩

set_option maxHeartbeats 400000 in
theorem rsize_neg (n : Int) (w : World) (h : n < 0) (h2 : -9223372036854775807 ≤ n) :
    Calls Tryd.prog 59 #[.int .i64 n] w fun e w' => e = .returned (.int .i64 (-n)) ∧ w = w' := by
  go_enter Tryd.func59, Tryd.ntmps59
  go_wp2
  go_ret
  exact ⟨rfl, rfl⟩

set_option maxHeartbeats 400000 in
theorem rsize_pos (n : Int) (w : World) (h : 0 ≤ n) :
    Calls Tryd.prog 59 #[.int .i64 n] w fun e w' => e = .returned (.int .i64 n) ∧ w = w' := by
  go_enter Tryd.func59, Tryd.ntmps59
  go_wp2
  go_ret
  exact ⟨rfl, rfl⟩

theorem rsize_any (n : Int) (w : World) (h2 : -9223372036854775807 ≤ n) :
    Calls Tryd.prog 59 #[.int .i64 n] w fun e w' => e = .returned (.int .i64 (n.natAbs : Int)) ∧ w = w' := by
  by_cases h : n < 0
  · rw [show (n.natAbs : Int) = -n from by omega]; exact rsize_neg n w h h2
  · rw [show (n.natAbs : Int) = n from by omega]; exact rsize_pos n w (by omega)

end Go.Proofs.YtpmibcdmaaagjaaDoor.Whole
