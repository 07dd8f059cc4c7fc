/-
  Contracts of tree.isSymbol, mayBe.
-/
import Derived.Test.YteakgagjacjhiaaUB
import Derived.Test.YteakgagjacjhiaaA8
namespace Go.Proofs.Yteakgagjacjhiaa.Trees
open Go.RowKit Go.Shelf
open Go.Proofs.Yteakgagjacjhiaa.Style (bs bs_size bs_at getD_at bs_of)
open Go.Proofs.Yteakgagjacjhiaa.Toks (cell_lt cell_same)
open Go.Proofs.Yteakgagjacjhiaa.Atoms (TableAt Row Pre tableRs tablePs row_cells)
set_option linter.unusedVariables false
set_option linter.unusedSimpArgs false

theorem draws_n (w : World) (m : Nat) : Below w.heap.size w (w.drewN m) := ⟨rfl, rfl, rfl, Nat.le_refl _, fun _ _ => rfl⟩
/-- Which prefix and atom may stand together. -/
def symZ (rows : List Row) (np : Nat) (pf atom : Int) : Bool :=
  decide (0 ≤ atom ∧ atom < rows.length) && (decide (pf = -1) || (decide (0 ≤ pf ∧ pf < np) && (rows.getD atom.toNat default).m))

/-- What of a table is looked at: how many atoms and prefixes there are, and which atoms are metric. -/
def TabAt (w : World) (oa : Option Addr) (ca : Nat) (rows : List Row) : Prop :=
  ∀ i, i < rows.length → ∃ b, oa = some ⟨b, 0, none⟩ ∧ w.cell? ⟨b, i * 12 + 5, none⟩ = some (.bool (rows.getD i default).m)

set_option maxRecDepth 100000 in
set_option maxHeartbeats 2000000 in
theorem sym_any (oa op : Option Addr) (ca cp : Nat) (rows : List Row) (np : Nat) (pf atom : Int) (w : World) (hl : rows.length ≤ 1000) (hc : rows.length ≤ ca) (hnp : np ≤ 1000) (hT : TabAt w oa ca rows) :
    Calls Try.prog 47 #[.agg #[.slice oa rows.length ca, .slice op np cp], .int .i64 pf, .int .i64 atom] w fun e w' => e = .returned (.bool (symZ rows np pf atom)) ∧ Below w.heap.size w w' := by
  unfold symZ
  have hli : (rows.length : Int) ≤ 1000 := by omega
  have hnpi : (np : Int) ≤ 1000 := by omega
  have hu : Below w.heap.size w (w.alloc (.cells #[.slice oa rows.length ca, .slice op np cp] 63)) := by go_grown
  have t0 : (w.alloc (.cells #[.slice oa rows.length ca, .slice op np cp] 63)).cell? ⟨w.heap.size, 0, none⟩ = some (.slice oa rows.length ca) := by simp [go_sem]
  have t1 : (w.alloc (.cells #[.slice oa rows.length ca, .slice op np cp] 63)).cell? ⟨w.heap.size, 1, none⟩ = some (.slice op np cp) := by simp [go_sem]
  by_cases h0 : atom < 0
  · have e1 : decide (0 ≤ atom ∧ atom < rows.length) = false := decide_eq_false (by omega)
    have d0 : decide (atom < 0) = true := decide_eq_true h0
    rw [e1]
    go_enter Try.func47, Try.ntmps47
    go_wp2
    go_ret
    exact ⟨by first | rfl | simp, hu⟩
  have d0 : decide (atom < 0) = false := decide_eq_false h0
  by_cases h1 : atom < rows.length
  · have e1 : decide (0 ≤ atom ∧ atom < rows.length) = true := decide_eq_true (by omega)
    rw [e1, Bool.true_and]
    have h1' : ¬ (rows.length : Int) ≤ atom := by omega
    by_cases h2 : pf = -1
    · subst h2
      clear e1
      go_enter Try.func47, Try.ntmps47
      go_wp2
      go_ret
      exact ⟨by simp, hu⟩
    rw [decide_eq_false h2, Bool.false_or]
    have h2' : (pf == -1) = false := by simpa using h2
    clear e1
    by_cases h3 : pf < 0
    · rw [decide_eq_false (by omega), Bool.false_and]
      have d3 : decide (0 ≤ pf) = false := decide_eq_false (by omega)
      go_enter Try.func47, Try.ntmps47
      go_wp2
      go_ret
      exact ⟨rfl, hu⟩
    by_cases h4 : pf < np
    · rw [decide_eq_true (by omega : 0 ≤ pf ∧ pf < np), Bool.true_and]
      have d3 : decide (0 ≤ pf) = true := decide_eq_true (by omega)
      have d4 : decide (pf < (np : Int)) = true := decide_eq_true h4
      obtain ⟨a, rfl⟩ : ∃ a : Nat, atom = (a : Int) := ⟨atom.toNat, by omega⟩
      obtain ⟨b, rfl, hm⟩ := hT a (by omega)
      rw [Int.toNat_natCast]
      have hm2 := (hu.cell (p := ⟨b, a * 12 + 5, none⟩) (cell_lt hm)).trans hm
      generalize (rows.getD a default).m = mt at *
      go_enter Try.func47, Try.ntmps47
      go_wp2
      go_ret
      exact ⟨rfl, hu⟩
    · rw [decide_eq_false (by omega : ¬ (0 ≤ pf ∧ pf < np)), Bool.false_and]
      have d3 : decide (0 ≤ pf) = true := decide_eq_true (by omega)
      have d4 : decide (pf < (np : Int)) = false := decide_eq_false h4
      go_enter Try.func47, Try.ntmps47
      go_wp2
      go_ret
      exact ⟨rfl, hu⟩
  · have e1 : decide (0 ≤ atom ∧ atom < rows.length) = false := decide_eq_false (by omega)
    have h1' : (rows.length : Int) ≤ atom := by omega
    rw [e1]
    go_enter Try.func47, Try.ntmps47
    go_wp2
    go_ret
    exact ⟨by first | rfl | simp, hu⟩

end Go.Proofs.Yteakgagjacjhiaa.Trees
