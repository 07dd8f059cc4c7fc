/-
  Plain mathematics for Parts: the list of the divisors up to 2^20 that are told of a number, from one on, and what is left as one more. No program in this text.
-/
import Derived.Test.YtlpkpmpkbinfoaaM
namespace Go.Proofs.Ytlpkpmpkbinfoaa.Whole
set_option linter.unusedVariables false

/-- What is left behind the last divisor that is tried. -/
def rest (left : Int) : List (Int × Int) := if 1 < left then [(left, 1)] else []
/-- The pairs that are told from the divisor d on; with fuel. -/
def pF : Nat → Int → Int → List (Int × Int)
  | 0, _, left => rest left
  | f + 1, d, left => if d * d ≤ left then (if left % d = 0 then (d, (spT left d : Int)) :: pF f (d + 1) (spL left d) else pF f (d + 1) left) else rest left
def pS (d left : Int) : List (Int × Int) := pF (1048577 - d).toNat d left

theorem pS_step (d left : Int) (hd : d ≤ 1048576) (hl : d * d ≤ left) (h : left % d = 0) : pS d left = (d, (spT left d : Int)) :: pS (d + 1) (spL left d) := by
  unfold pS
  obtain ⟨f, hf⟩ : ∃ f, (1048577 - d).toNat = f + 1 := ⟨(1048577 - d).toNat - 1, by omega⟩
  have hf' : (1048577 - (d + 1)).toNat = f := by omega
  rw [hf, hf']
  simp only [pF, if_pos hl, if_pos h]
theorem pS_skip (d left : Int) (hd : d ≤ 1048576) (hl : d * d ≤ left) (h : ¬ left % d = 0) : pS d left = pS (d + 1) left := by
  unfold pS
  obtain ⟨f, hf⟩ : ∃ f, (1048577 - d).toNat = f + 1 := ⟨(1048577 - d).toNat - 1, by omega⟩
  have hf' : (1048577 - (d + 1)).toNat = f := by omega
  rw [hf, hf']
  simp only [pF, if_pos hl, if_neg h]
theorem pS_end (d left : Int) (h : ¬ (d ≤ 1048576 ∧ d * d ≤ left)) : pS d left = rest left := by
  unfold pS
  cases hf : (1048577 - d).toNat with
  | zero => rfl
  | succ f =>
    have : ¬ d * d ≤ left := fun hl => h ⟨by omega, hl⟩
    simp only [pF, if_neg this]

theorem spT_pos (n k : Int) (hk : 2 ≤ k) (hn : n ≠ 0) (h : n % k = 0) : 1 ≤ spT n k := by
  rcases Nat.eq_zero_or_pos (spT n k) with h0 | h0
  · obtain ⟨a, b⟩ := sp_spec n k hk hn
    rw [h0] at a; simp at a; rw [a] at b; exact absurd h b
  · exact h0
theorem sp_none (n k : Int) (hk : 2 ≤ k) (hn : n ≠ 0) (h : ¬ n % k = 0) : spT n k = 0 ∧ spL n k = n := by
  obtain ⟨a, b⟩ := sp_is n k n 0 hk hn (by simp) h
  exact ⟨a.symm, b.symm⟩
theorem spL_pos (n k : Int) (hk : 2 ≤ k) (hn : 0 < n) : 1 ≤ spL n k := by
  obtain ⟨a, b⟩ := sp_spec n k hk (by omega)
  have hp : 0 < k ^ spT n k := Int.pow_pos (by omega)
  rcases Int.lt_or_le (spL n k) 1 with h | h
  · have := Int.mul_nonpos_of_nonpos_of_nonneg (show spL n k ≤ 0 by omega) (show 0 ≤ k ^ spT n k by omega)
    omega
  · exact h

/-- Of at most so many numbers something comes. -/
theorem pS_short (d left : Int) (h2 : 2 ≤ d) (hl : 0 < left) (hb : left ≤ 9223372036854775807) : (pS d left).length ≤ 1048577 := by
  have key : ∀ (f : Nat) (d left : Int), (pF f d left).length ≤ f + 1 := by
    intro f
    induction f with
    | zero => intro d left; simp only [pF, rest]; split <;> simp
    | succ f ih =>
      intro d left
      simp only [pF]
      split
      · split
        · have := ih (d + 1) (spL left d); simp; omega
        · have := ih (d + 1) left; omega
      · simp only [rest]; split <;> simp
  have := key (1048577 - d).toNat d left
  unfold pS; omega
end Go.Proofs.Ytlpkpmpkbinfoaa.Whole
