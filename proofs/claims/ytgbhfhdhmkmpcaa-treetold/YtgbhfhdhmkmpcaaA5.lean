/-
  Contracts of atoms.rightTerm, rightWorth.
-/
import Derived.Test.YtgbhfhdhmkmpcaaA1X
namespace Go.Proofs.Ytgbhfhdhmkmpcaa.Atoms
open Go.RowKit
set_option linter.unusedVariables false
set_option linter.unusedSimpArgs false

def Row.c5 (r : Row) : C5 := ⟨r.c0, r.c1, r.c2, r.c3, r.c4⟩
def Pre.c5 (r : Pre) : C5 := ⟨r.c0, r.c1, r.c2, r.c3, r.c4⟩
/-- Numbers and texts that there are. -/
structure Row.Fine (r : Row) : Prop where
  codes : r.c5.Fine
  num : r.num ≤ 9223372036854775807
  den : r.den ≤ 9223372036854775807
  ts : r.ts.length ≤ 9223372036854775807

theorem worth_base {r : Row} (h : 0 ≤ r.tag ∧ r.tag ≤ 99) (hb : 0 ≤ r.base ∧ r.base < 7) : worthB r = decide (r.num = 1 ∧ r.den = 1 ∧ r.ten = 0 ∧ r.tag = 0 ∧ r.ts.length = 0) := by
  unfold worthB
  rw [if_neg (by omega), if_pos hb]

end Go.Proofs.Ytgbhfhdhmkmpcaa.Atoms
