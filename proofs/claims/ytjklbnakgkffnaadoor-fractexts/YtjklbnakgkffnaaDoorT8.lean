/-
  Plain mathematics: the document's reader answers as the program's. No program in this text.
-/
import Derived.Test.YtjklbnakgkffnaaDoorT5
namespace Go.Proofs.YtjklbnakgkffnaaDoor.Texts
open Go.RowKit
open Go.Proofs.YtjklbnakgkffnaaDoor.Whole
open Go.Proofs.YtjklbnakgkffnaaDoor.Frac
set_option linter.unusedVariables false
set_option linter.unusedSimpArgs false

/-- What the document's Read answers. -/
def readR (s : List UInt8) : Got := if (candR s).r = some [] ∧ s ≠ [] ∧ textF (candR s).n (candR s).d (candR s).t = s then ⟨(candR s).n, (candR s).d, (candR s).t, 0⟩ else ⟨0, 0, 0, 20⟩

theorem digRun_le : ∀ (l r : List UInt8) (acc n : Nat), acc ≤ 9223372036854775807 → digRun acc l = some (n, r) → n ≤ 9223372036854775807
  | [], r, acc, n, ha, h => by
    simp only [digRun, Option.some.injEq, Prod.mk.injEq] at h; omega
  | c :: l, r, acc, n, ha, h => by
    simp only [digRun] at h
    split at h
    · split at h
      · simp at h
      · exact digRun_le l r _ n (by omega) h
    · simp only [Option.some.injEq, Prod.mk.injEq] at h; omega

theorem readA_le (l : List UInt8) : (readA l).n ≤ 9223372036854775807 := by
  unfold readA readL
  cases h : digRun 0 (unsign l).2 with
  | none => simp
  | some p =>
    obtain ⟨n, r⟩ := p
    have hn := digRun_le _ r 0 n (by omega) h
    have hs : (unsign l).1 = 1 ∨ (unsign l).1 = -1 := by
      unfold unsign
      split
      · exact Or.inl rfl
      · split
        · exact Or.inr rfl
        · exact Or.inl rfl
    simp only
    by_cases hl : r.length = (unsign l).2.length
    · rw [if_pos hl]; simp
    · rw [if_neg hl]
      simp only
      rcases hs with hs | hs <;> rw [hs] <;> omega

theorem stepA_le (c : UInt8) (x : At) (old : Int) (h : old ≤ 9223372036854775807) : (stepA c x old).1 ≤ 9223372036854775807 := by
  unfold stepA
  split
  · split
    · exact readA_le _
    · exact h
  · exact h

theorem textF_some {n d t : Int} (h : textF n d t ≠ []) : rightB n d t = true ∧ textF n d t = textL n d t := by
  unfold textF at h ⊢
  by_cases hr : rightB n d t = true
  · exact ⟨hr, by rw [if_pos hr]⟩
  · rw [if_neg hr] at h; exact absurd rfl h

theorem textF_zero : textF 0 1 0 = [48] := by
  have hr : rightB 0 1 0 = true := by kernel_rfl
  unfold textF textL
  rw [if_pos hr, if_pos rfl, if_pos rfl, itoa_zero]; rfl

theorem cand_nil : cand [] = (0, 1, 0) := by
  have h1 : numI [] = 0 := by unfold numI; rfl
  have h2 : numI [49] = 1 := by rw [← itoa_one]; exact numI_itoa 1 (by omega) (by omega)
  have h3 : numA [48] = 0 := by rw [← itoa_zero]; exact numA_itoa 0 (by omega) (by omega)
  have hq : quoL [] = [] := rfl
  have hn : numL [] = [] := rfl
  have hd : denL [] = [49] := rfl
  have ht : tenL [] = [48] := rfl
  unfold cand
  rw [hq, hn, hd, ht, h1, h2, h3]

/-- What is told of a right frac is read to it, by both. -/
theorem read_right (n d t : Int) (h1 : n ≤ 9223372036854775807) (h2 : d ≤ 9223372036854775807) (r : rightB n d t = true) : readG (textL n d t) = ⟨n, d, t, 0⟩ ∧ readR (textL n d t) = ⟨n, d, t, 0⟩ := by
  obtain ⟨x1, x2, x3, x4, x5⟩ := right_fine h1 h2 r
  have hF : textF n d t = textL n d t := by unfold textF; rw [if_pos r]
  have hc := cand_text n d t ⟨by omega, h1⟩ ⟨by omega, h2⟩ ⟨by omega, by omega⟩
  have hR := candR_text n d t ⟨by omega, h1⟩ ⟨by omega, h2⟩ ⟨by omega, by omega⟩
  constructor
  · unfold readG; rw [hc]; simp only; rw [if_pos hF]
  · unfold readR; rw [hR]; simp only; rw [if_pos ⟨trivial, text_ne n d t, hF⟩]

/-- Both readers answer alike. -/
theorem readR_eq (s : List UInt8) : readR s = readG s := by
  by_cases hG : textF (cand s).1 (cand s).2.1 (cand s).2.2 = s
  · by_cases hs : s = []
    · subst hs
      rw [cand_nil] at hG
      simp only [textF_zero] at hG
      exact absurd hG (by simp)
    · obtain ⟨hr, ht⟩ := textF_some (n := (cand s).1) (d := (cand s).2.1) (t := (cand s).2.2) (by rw [hG]; exact hs)
      have hb := read_right (cand s).1 (cand s).2.1 (cand s).2.2 (numI_le _) (numI_le _) hr
      rw [← ht, hG] at hb
      rw [hb.1, hb.2]
  · have e1 : readG s = ⟨0, 0, 0, 20⟩ := by unfold readG; rw [if_neg hG]
    by_cases hR : (candR s).r = some [] ∧ s ≠ [] ∧ textF (candR s).n (candR s).d (candR s).t = s
    · obtain ⟨_, hs, hR⟩ := hR
      obtain ⟨hr, ht⟩ := textF_some (n := (candR s).n) (d := (candR s).d) (t := (candR s).t) (by rw [hR]; exact hs)
      have hb := read_right (candR s).n (candR s).d (candR s).t (readA_le _) (stepA_le _ _ _ (by omega)) hr
      rw [← ht, hR] at hb
      rw [hb.1, hb.2]
    · rw [e1]; unfold readR; rw [if_neg hR]

end Go.Proofs.YtjklbnakgkffnaaDoor.Texts
