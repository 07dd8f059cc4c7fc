/-
  Contracts of atoms.within, letter, codeOf.
-/
import Derived.Test.YtpmibcdmaaagjaaDoorAN
import Derived.Deep.Cut
namespace Go.Proofs.YtpmibcdmaaagjaaDoor.Atoms
open Go.RowKit
set_option linter.unusedVariables false
set_option linter.unusedSimpArgs false

set_option maxRecDepth 100000 in
theorem within_any (n k : Int) (w : World) (hk : 0 ≤ k) (hk' : k ≤ 100) :
    Calls Tryd.prog 33 #[.int .i64 n, .int .i64 k] w fun e w' => e = .returned (.bool (decide (-k ≤ n ∧ n ≤ k))) ∧ w = w' := by
  by_cases h1 : -k ≤ n
  · by_cases h2 : n ≤ k
    · have e : decide (-k ≤ n ∧ n ≤ k) = true := by simp [h1, h2]
      rw [e]; clear e
      go_enter Tryd.func33, Tryd.ntmps33
      go_wp2
      go_ret
      exact ⟨by simp, rfl⟩
    · have e : decide (-k ≤ n ∧ n ≤ k) = false := by simp [h2]
      rw [e]; clear e
      go_enter Tryd.func33, Tryd.ntmps33
      go_wp2
      go_ret
      exact ⟨by simp [h2], rfl⟩
  · have e : decide (-k ≤ n ∧ n ≤ k) = false := by simp [h1]
    rw [e]; clear e
    go_enter Tryd.func33, Tryd.ntmps33
    go_wp2
    go_ret
    exact ⟨by simp [h1], rfl⟩

set_option maxRecDepth 100000 in
set_option maxHeartbeats 1000000 in
theorem letter_is (n b : Int) (v : Bool) (w : World) (h0 : 0 ≤ b) (h1 : b ≤ 255)
    (h : (97 ≤ b ∧ b ≤ 122 ∧ n = 2 ∧ v = false) ∨ (97 ≤ b ∧ b ≤ 122 ∧ n = 4 ∧ v = false) ∨ (97 ≤ b ∧ b ≤ 122 ∧ (n != 2) = true ∧ (n != 4) = true ∧ v = true) ∨ (65 ≤ b ∧ b ≤ 90 ∧ v = true)
      ∨ (b = 37 ∧ v = true) ∨ (b = 39 ∧ v = true) ∨ (b = 95 ∧ v = true) ∨ (b = 91 ∧ v = true) ∨ (b = 93 ∧ v = true)
      ∨ (b < 65 ∧ (b == 37) = false ∧ (b == 39) = false ∧ (b == 95) = false ∧ (b == 91) = false ∧ (b == 93) = false ∧ v = false)
      ∨ (90 < b ∧ b < 97 ∧ (b == 37) = false ∧ (b == 39) = false ∧ (b == 95) = false ∧ (b == 91) = false ∧ (b == 93) = false ∧ v = false)
      ∨ (122 < b ∧ (b == 37) = false ∧ (b == 39) = false ∧ (b == 95) = false ∧ (b == 91) = false ∧ (b == 93) = false ∧ v = false)) :
    Calls Tryd.prog 45 #[.int .i64 n, .int .u8 b] w fun e w' => e = .returned (.bool v) ∧ w = w' := by
  rcases h with ⟨a, c, rfl, rfl⟩ | ⟨a, c, rfl, rfl⟩ | ⟨a, c, d, e, rfl⟩ | ⟨a, c, rfl⟩ | ⟨rfl, rfl⟩ | ⟨rfl, rfl⟩ | ⟨rfl, rfl⟩ | ⟨rfl, rfl⟩ | ⟨rfl, rfl⟩ | ⟨a, e1, e2, e3, e4, e5, rfl⟩ | ⟨a, c, e1, e2, e3, e4, e5, rfl⟩ | ⟨a, e1, e2, e3, e4, e5, rfl⟩
  all_goals (go_enter Tryd.func45, Tryd.ntmps45; go_wp2; go_ret; exact ⟨rfl, rfl⟩)

theorem letter_any (n b : Int) (w : World) (h0 : 0 ≤ b) (h1 : b ≤ 255) :
    Calls Tryd.prog 45 #[.int .i64 n, .int .u8 b] w fun e w' => e = .returned (.bool (letterZ n b)) ∧ w = w' := by
  refine letter_is n b _ w h0 h1 ?_
  unfold letterZ
  by_cases s : 97 ≤ b ∧ b ≤ 122
  · rw [if_pos s]
    by_cases n2 : n = 2
    · exact .inl ⟨s.1, s.2, n2, by simp [n2]⟩
    · by_cases n4 : n = 4
      · exact .inr (.inl ⟨s.1, s.2, n4, by simp [n4]⟩)
      · exact .inr (.inr (.inl ⟨s.1, s.2, by simpa using n2, by simpa using n4, by simp [n2, n4]⟩))
  rw [if_neg s]
  by_cases g : 65 ≤ b ∧ b ≤ 90
  · rw [if_pos g]; simp [g]
  rw [if_neg g]
  by_cases h37 : b = 37
  · simp [h37]
  by_cases h39 : b = 39
  · simp [h39]
  by_cases h95 : b = 95
  · simp [h95]
  by_cases h91 : b = 91
  · simp [h91]
  by_cases h93 : b = 93
  · simp [h93]
  simp only [h37, h39, h95, h91, h93]
  simp
  omega

end Go.Proofs.YtpmibcdmaaagjaaDoor.Atoms
