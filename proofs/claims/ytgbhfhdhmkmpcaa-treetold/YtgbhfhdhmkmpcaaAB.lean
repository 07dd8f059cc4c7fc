/-
  Contracts of atoms.wrongPrefix, Check.
-/
import Derived.Test.YtgbhfhdhmkmpcaaA9
namespace Go.Proofs.Ytgbhfhdhmkmpcaa.Atoms
open Go.RowKit
set_option linter.unusedVariables false
set_option linter.unusedSimpArgs false

/-- The slice s holds these prefixes. -/
def PrefsSl (w : World) (s : Value) (ps : List Pre) : Prop := SliceAt w s 6 ps.length (cellP ps)
structure FitsP (ps : List Pre) : Prop where
  len : ps.length ≤ 1000000
  fine : ∀ i, (ps.getD i default).c5.Fine
theorem pre_cells {V : World} {b n : Nat} {ps : List Pre} (hg : Grid V b 6 n (cellP ps)) (k : Nat) (hk : k < n) (r : Pre) (hr : ps.getD k default = r) :
    V.cell? ⟨b, k * 6, none⟩ = some (.string (bs r.c0)) ∧ V.cell? ⟨b, k * 6 + 1, none⟩ = some (.string (bs r.c1)) ∧ V.cell? ⟨b, k * 6 + 2, none⟩ = some (.string (bs r.c2)) ∧ V.cell? ⟨b, k * 6 + 3, none⟩ = some (.string (bs r.c3))
    ∧ V.cell? ⟨b, k * 6 + 4, none⟩ = some (.string (bs r.c4)) ∧ V.cell? ⟨b, k * 6 + 5, none⟩ = some (.int .i64 r.ten) := by
  subst hr
  exact ⟨hg.1 k hk 0 (by omega), hg.1 k hk 1 (by omega), hg.1 k hk 2 (by omega), hg.1 k hk 3 (by omega), hg.1 k hk 4 (by omega), hg.1 k hk 5 (by omega)⟩
theorem wrongP_none {ps : List Pre} {m k : Nat} {K : List (List Int)} (h : addP K (ps.getD k default).codes = none) : wrongP ps (m + 1) k K = k := by
  show (match addP K (ps.getD k default).codes with | none => (k : Int) | some K' => _) = _
  rw [h]
theorem wrongP_row {ps : List Pre} {m k : Nat} {K K' : List (List Int)} (h : addP K (ps.getD k default).codes = some K') (hr : decide (-30 ≤ (ps.getD k default).ten ∧ (ps.getD k default).ten ≤ 30) = false) : wrongP ps (m + 1) k K = k := by
  show (match addP K (ps.getD k default).codes with | none => (k : Int) | some K' => if -30 ≤ (ps.getD k default).ten ∧ (ps.getD k default).ten ≤ 30 then wrongP ps m (k + 1) K' else k) = _
  rw [h]
  simp only []
  rw [if_neg (by simpa using hr)]
theorem wrongP_next {ps : List Pre} {m k : Nat} {K K' : List (List Int)} (h : addP K (ps.getD k default).codes = some K') (hr : decide (-30 ≤ (ps.getD k default).ten ∧ (ps.getD k default).ten ≤ 30) = true) : wrongP ps (m + 1) k K = wrongP ps m (k + 1) K' := by
  show (match addP K (ps.getD k default).codes with | none => (k : Int) | some K' => if -30 ≤ (ps.getD k default).ten ∧ (ps.getD k default).ten ≤ 30 then wrongP ps m (k + 1) K' else k) = _
  rw [h]
  simp only []
  rw [if_pos (by simpa using hr)]

theorem wrongP_in (ps : List Pre) : ∀ (m i : Nat) (K : List (List Int)), -1 ≤ wrongP ps m i K ∧ wrongP ps m i K ≤ (i + m : Nat)
  | 0, i, K => by show -1 ≤ (-1 : Int) ∧ (-1 : Int) ≤ _; omega
  | m + 1, i, K => by
    cases h : addP K (ps.getD i default).codes with
    | none => rw [wrongP_none h]; omega
    | some K' =>
      by_cases hd : decide (-30 ≤ (ps.getD i default).ten ∧ (ps.getD i default).ten ≤ 30) = true
      · rw [wrongP_next h hd]
        have := wrongP_in ps m (i + 1) K'
        omega
      · rw [wrongP_row h (by simpa using hd)]; omega

end Go.Proofs.Ytgbhfhdhmkmpcaa.Atoms
