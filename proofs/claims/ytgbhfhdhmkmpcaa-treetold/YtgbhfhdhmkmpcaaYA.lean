/-
  The styles as they lie in memory; contracts of style.Of, isSmall, ownKind, Kind.
-/
import Derived.Test.YtgbhfhdhmkmpcaaYM
import Derived.Test.YtgbhfhdhmkmpcaaChecked
import Derived.WalkKit
import Derived.WalkSpells
import Derived.Lib.Hide
import Derived.BigQuiet
import Derived.Deep.QuietTactic
import Derived.Deep.RegionWith
import Derived.Handy
namespace Go.Proofs.Ytgbhfhdhmkmpcaa.Style
open Go.RowKit
set_option linter.unusedVariables false
set_option linter.unusedSimpArgs false

/-- Which of the style's own bytes a byte is. -/
def OwnIs (s : St) (c k : Int) : Prop :=
  (c = 0 ∧ k = 0) ∨ ((c == 0) = false ∧ ((c = s.mul ∧ k = 4) ∨ ((c == s.mul) = false ∧ ((c = s.div ∧ k = 5) ∨ ((c == s.div) = false ∧ ((c = s.pow ∧ k = 6) ∨ ((c == s.pow) = false ∧ ((c = s.op ∧ k = 9) ∨ ((c == s.op) = false ∧ ((c = s.cl ∧ k = 10) ∨ ((c == s.cl) = false ∧ k = 0)))))))))))
theorem own_is (s : St) (c : Int) : OwnIs s c (ownZ s c) := by
  unfold OwnIs ownZ
  by_cases h0 : c = 0
  · exact .inl ⟨h0, by rw [if_pos h0]⟩
  rw [if_neg h0]; refine .inr ⟨by simpa using h0, ?_⟩
  by_cases h0 : c = s.mul
  · exact .inl ⟨h0, by rw [if_pos h0]⟩
  rw [if_neg h0]; refine .inr ⟨by simpa using h0, ?_⟩
  by_cases h0 : c = s.div
  · exact .inl ⟨h0, by rw [if_pos h0]⟩
  rw [if_neg h0]; refine .inr ⟨by simpa using h0, ?_⟩
  by_cases h0 : c = s.pow
  · exact .inl ⟨h0, by rw [if_pos h0]⟩
  rw [if_neg h0]; refine .inr ⟨by simpa using h0, ?_⟩
  by_cases h0 : c = s.op
  · exact .inl ⟨h0, by rw [if_pos h0]⟩
  rw [if_neg h0]; refine .inr ⟨by simpa using h0, ?_⟩
  by_cases h0 : c = s.cl
  · exact .inl ⟨h0, by rw [if_pos h0]⟩
  rw [if_neg h0]; exact .inr ⟨by simpa using h0, rfl⟩

end Go.Proofs.Ytgbhfhdhmkmpcaa.Style
