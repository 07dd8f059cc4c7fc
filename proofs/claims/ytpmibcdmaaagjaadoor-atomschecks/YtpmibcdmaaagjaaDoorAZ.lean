/-
  Contract of drachmlaw05.rest: a number's rest, from 0 on. What laws on the table share.
-/
import Derived.Test.YtpmibcdmaaagjaaDoorAY
namespace Go.Proofs.YtpmibcdmaaagjaaDoor.Atoms
open Go.RowKit Go.Shelf
set_option linter.unusedVariables false
set_option linter.unusedSimpArgs false

/-- A number's rest, from 0 on. -/
def restN (x : Int) (n : Nat) : Nat := (x % (n : Int)).toNat
theorem restN_lt (x : Int) (n : Nat) (h : 0 < n) : restN x n < n := by
  have h1 := Int.emod_lt_of_pos x (show (0 : Int) < n by omega)
  have h2 := Int.emod_nonneg x (show (n : Int) ≠ 0 by omega)
  unfold restN; omega
theorem rest_eq (x n : Int) : (x.tmod n + n) % n = x % n := by
  have h := Int.mul_tdiv_add_tmod x n
  rw [Int.add_emod_right]
  calc x.tmod n % n = (x.tmod n + n * x.tdiv n) % n := by rw [Int.add_mul_emod_self_left]
    _ = x % n := by rw [Int.add_comm, h]

set_option maxRecDepth 100000 in
theorem rest_any (x : Int) (n : Nat) (w : World) (h : 1 ≤ n) (hn : n ≤ 1000000) :
    Calls Tryd.prog 12 #[.int .i64 x, .int .i64 n] w fun e w' => e = .returned (.int .i64 (restN x n)) ∧ w = w' := by
  have hn0 : (0 : Int) < n := by omega
  have hnn : ¬ (n : Int) = 0 := by omega
  have hle : (n : Int) ≤ 1000000 := by omega
  have hl : -(n : Int) < x.tmod n := Int.lt_tmod_of_pos x hn0
  have hr : x.tmod n < n := Int.tmod_lt_of_pos x hn0
  have HE := Lib.hid (rest_eq x n)
  have HN : Hid (((restN x n : Nat) : Int) = x % (n : Int)) := by
    show _ = _
    have := Int.emod_nonneg x hnn
    unfold restN; omega
  go_enter Tryd.func12, Tryd.ntmps12
  go_wp2
  go_ret
  exact ⟨by rw [HE.out, HN.out]; rfl, rfl⟩

/-! ### What is told of the table -/

/-- An atom's place, its terms. -/
def ranksB (rows : List Row) : Bool := (List.range rows.length).all fun i =>
  let r := rows.getD i default
  if r.ts.isEmpty then decide (r.base < 0 ∨ r.base = (i : Int)) else r.ts.all fun t => decide (0 ≤ t.1 ∧ t.1 < (i : Int) ∧ (rows.getD t.1.toNat default).tag = 0 ∧ t.2 ≠ 0 ∧ r.base = -1)
theorem ranks_T : ranksB tableRs = true := by decide +kernel
theorem ranks_none (i : Nat) (hi : i < 48) (h : (tableRs.getD i default).ts = []) : (tableRs.getD i default).base < 0 ∨ (tableRs.getD i default).base = (i : Int) := by
  have := List.all_eq_true.1 ranks_T i (by rw [List.mem_range, len_T]; exact hi)
  simp only [h, List.isEmpty_nil, if_true, decide_eq_true_eq] at this
  exact this
theorem ranks_some (i : Nat) (hi : i < 48) (t : Int × Int) (h : t ∈ (tableRs.getD i default).ts) : 0 ≤ t.1 ∧ t.1 < (i : Int) ∧ (tableRs.getD t.1.toNat default).tag = 0 ∧ t.2 ≠ 0 ∧ (tableRs.getD i default).base = -1 := by
  have := List.all_eq_true.1 ranks_T i (by rw [List.mem_range, len_T]; exact hi)
  have hne : (tableRs.getD i default).ts.isEmpty = false := by
    cases hh : (tableRs.getD i default).ts with
    | nil => rw [hh] at h; cases h
    | cons a l => rfl
  simp only [hne, Bool.false_eq_true, if_false] at this
  have := List.all_eq_true.1 this t h
  simpa using this

end Go.Proofs.YtpmibcdmaaagjaaDoor.Atoms
