/-
  What is told, as a row: its last place, the places between, how many there are.
-/
import Derived.Test.YtpmibcdmaaagjaaH7
namespace Go.Proofs.Ytpmibcdmaaagjaa.Atoms
open Go.RowKit Go.Shelf Go.Proofs.Ytpmibcdmaaagjaa.Ranges
set_option linter.unusedVariables false
set_option linter.unusedSimpArgs false

/-- The last place that was told, -1 if none was. -/
def lastOf (l : List (Nat × List UInt8)) : Int := (l.getLast?.map fun x => (x.1 : Int)).getD (-1)
theorem lastOf_nil : lastOf [] = -1 := rfl
theorem lastOf_snoc (l : List (Nat × List UInt8)) (x : Nat × List UInt8) : lastOf (l ++ [x]) = (x.1 : Int) := by
  unfold lastOf
  rw [List.getLast?_append]
  rfl
theorem last_facts (cs : List C5) (n : Int) (i : Nat) : -1 ≤ lastOf (toldTo cs n i) ∧ lastOf (toldTo cs n i) < (i : Int) ∧ ∀ k : Nat, lastOf (toldTo cs n i) < (k : Int) → k < i → codeI cs n k = [] := by
  induction i with
  | zero => exact ⟨by rw [toldTo_zero, lastOf_nil]; omega, by rw [toldTo_zero, lastOf_nil]; omega, fun k _ h => absurd h (by omega)⟩
  | succ i ih =>
    obtain ⟨h1, h2, h3⟩ := ih
    by_cases hc : codeI cs n i = []
    · rw [toldTo_none hc]
      refine ⟨h1, by omega, fun k hk hki => ?_⟩
      by_cases e : k = i
      · rw [e]; exact hc
      · exact h3 k hk (by omega)
    · rw [toldTo_some hc, lastOf_snoc]
      exact ⟨by dsimp only; omega, by dsimp only; omega, fun k hk hki => absurd hk (by dsimp only; omega)⟩
/-- How many atoms are told: more than 30 just where there is such a notation. -/
def manyB : Bool := (List.range 5).all fun c => decide (30 < (told csA ((c : Int) + 1)).length)
theorem many_A : manyB = true := by decide +kernel
theorem many_of (n : Int) : (30 < (told csA n).length ↔ (1 ≤ n ∧ n ≤ 5)) ∧ (told csA n).length ≤ 48 := by
  have hle : ∀ k, (toldTo csA n k).length ≤ k := by
    intro k
    unfold toldTo
    have := List.length_filterMap_le (tell1 csA n) (List.range k)
    rw [List.length_range] at this
    exact this
  refine ⟨⟨fun h => ?_, fun h => ?_⟩, by have := hle csA.length; unfold told; rw [csA_len] at this ⊢; exact this⟩
  · by_cases hn : 1 ≤ n ∧ n ≤ 5
    · exact hn
    · unfold told at h
      rw [toldTo_out hn] at h
      simp at h
  · have := List.all_eq_true.1 many_A (n - 1).toNat (by simp; omega)
    rw [show (((n - 1).toNat : Nat) : Int) + 1 = n by omega] at this
    simpa using this
/-- A round that was left: there is one more. -/
theorem toldTo_len_le (cs : List C5) (n : Int) {k : Nat} (h : k ≤ cs.length) : (toldTo cs n k).length ≤ (told cs n).length := by
  obtain ⟨r, hr, _⟩ := toldTo_split cs n h
  unfold told
  rw [hr, List.length_append]; omega

end Go.Proofs.Ytpmibcdmaaagjaa.Atoms
