/-
  Tokens of letters alone, and of notes: plain mathematics.
-/
import Derived.Test.YtmcmmbacehldbaaDoorX6
namespace Go.Proofs.YtmcmmbacehldbaaDoor.Toks
open Go.Proofs.YtmcmmbacehldbaaDoor.Style
set_option linter.unusedVariables false
set_option linter.unusedSimpArgs false

theorem k_isN (r : Nat) (h : r < 5) : isN (1 + (r : Int)) = true := by unfold isN; exact decide_eq_true (by omega)
theorem kd_letter {n : Int} (h : isN n = true) : kd n 77 = 1 ∧ kd n 109 = 1 := by
  unfold kd kindZ
  rw [h]
  exact ⟨rfl, rfl⟩
theorem long_next {n : Int} (h : isN n = true) (m : Nat) : nextT n (List.replicate (m + 1) 77) = some ⟨1, upL (stZ n).fold (List.replicate (m + 1) 77), 0, m + 1⟩ := by
  have hk := (kd_letter h).1
  have hg : goL n 1 (List.replicate (m + 1) 77) = m + 1 := by
    have := run_app (isK n 1) (List.replicate (m + 1) 77) [] (fun c hc => by rw [List.eq_of_mem_replicate hc]; exact isK_yes hk) (fun c J' h => by cases h)
    rw [List.append_nil, List.length_replicate] at this
    exact this
  show nextT n (77 :: List.replicate m 77) = _
  simp only [nextT]
  rw [if_neg (by omega), if_pos hk]
  rw [show (77 :: List.replicate m 77) = List.replicate (m + 1) (77 : UInt8) from rfl, hg, List.take_of_length_le (by rw [List.length_replicate]; omega)]
theorem long_all {n : Int} (h : isN n = true) (m : Nat) (hm : m ≤ 255) : lexErr n (List.replicate m 77) = 0 ∧ lexAt n (List.replicate m 77) = m ∧ (lexToks n (List.replicate m 77)).length = min m 1 := by
  cases m with
  | zero =>
    have e : lexL n 0 [] = [] := rfl
    have e1 : lexErr n [] = 0 := by unfold lexErr; rw [if_neg (by rw [h]; simp)]; rfl
    refine ⟨e1, ?_, ?_⟩
    · show lexAt n [] = 0
      unfold lexAt; rw [if_neg (by rw [h]; simp)]; rfl
    · show (lexToks n []).length = 0
      unfold lexToks; rw [e1]; rfl
  | succ m =>
    have hn := long_next h m
    have e : lexL n 0 (List.replicate (m + 1) 77) = [(⟨1, 0, upL (stZ n).fold (List.replicate (m + 1) 77), 0⟩, 0 + (m + 1))] := by
      rw [lexL_some hn]
      simp only
      rw [List.drop_of_length_le (by rw [List.length_replicate]; omega)]
      rfl
    have e0 : endL 0 (lexL n 0 (List.replicate (m + 1) 77)) = m + 1 := by rw [e]; show 0 + (m + 1) = m + 1; omega
    have e1 : lexErr n (List.replicate (m + 1) 77) = 0 := by
      unfold lexErr; rw [if_neg (by rw [h]; simp), if_neg (by rw [List.length_replicate]; omega), e0, if_neg (by rw [List.length_replicate]; omega)]
    refine ⟨e1, ?_, ?_⟩
    · unfold lexAt; rw [if_neg (by rw [h, List.length_replicate]; simp; omega), e0]
    · unfold lexToks; rw [e1, if_pos rfl]; unfold toks; rw [e]; simp
theorem long_over {n : Int} (h : isN n = true) (m : Nat) (hm : 255 < m) : lexErr n (List.replicate m 77) = 12 ∧ lexAt n (List.replicate m 77) = 0 ∧ (lexToks n (List.replicate m 77)).length = 0 := by
  have e1 : lexErr n (List.replicate m 77) = 12 := by unfold lexErr; rw [if_neg (by rw [h]; simp), if_pos (by rw [List.length_replicate]; exact hm)]
  refine ⟨e1, ?_, ?_⟩
  · unfold lexAt; rw [if_pos (.inr (by rw [List.length_replicate]; exact hm))]
  · unfold lexToks; rw [e1]; rfl

/-! ### Notes -/

def opB (n : Int) : UInt8 := UInt8.ofNat (stZ n).op.toNat
def clB (n : Int) : UInt8 := UInt8.ofNat (stZ n).cl.toNat
def divB (n : Int) : UInt8 := UInt8.ofNat (stZ n).div.toNat
theorem kd_marks {n : Int} (h : isN n = true) : ((stZ n).op = 0 → kd n (opB n) = 0 ∧ opB n = 0) ∧ ((stZ n).op ≠ 0 → kd n (opB n) = 9 ∧ kd n (clB n) = 10) ∧ kd n (divB n) = 5 := by
  rcases st_cases n with (rfl | rfl | rfl | rfl | rfl) | ⟨_, _, e⟩
  · decide
  · decide
  · decide
  · decide
  · decide
  · rw [e] at h; cases h
/-- The text of the law. -/
def noteText (n : Int) (s : List UInt8) : List UInt8 := 109 :: opB n :: (s ++ [clB n])
theorem note_first {n : Int} (h : isN n = true) (s : List UInt8) : nextT n (noteText n s) = some ⟨1, upL (stZ n).fold [109], 0, 1⟩ := by
  have hk := (kd_letter h).2
  have hm := kd_marks h
  have ho : kd n (opB n) ≠ 1 := by
    by_cases h0 : (stZ n).op = 0
    · rw [(hm.1 h0).1]; omega
    · rw [(hm.2.1 h0).1]; omega
  have hg : goL n 1 (noteText n s) = 1 := by
    show runL _ (109 :: opB n :: _) = 1
    rw [run_yes _ (isK_yes hk), run_no _ (isK_ne ho)]
  unfold noteText at hg ⊢
  simp only [nextT]
  rw [if_neg (by omega), if_pos hk, hg]
  rfl
theorem note_rest {n : Int} (h : isN n = true) (s : List UInt8) : lexL n 0 (noteText n s) = (⟨1, 0, upL (stZ n).fold [109], 0⟩, 1) :: lexL n 1 (opB n :: (s ++ [clB n])) := by
  rw [lexL_some (note_first h s)]
  rfl
theorem note_len (n : Int) (s : List UInt8) : (noteText n s).length = s.length + 3 := by unfold noteText; simp
/-- A text that may be a note's. -/
theorem note_yes {n : Int} (h : isN n = true) (s : List UInt8) (hs : s.length ≤ 100) (hp : plainL (stZ n) s = true) : lexErr n (noteText n s) = 0 ∧ lexToks n (noteText n s) = [⟨1, 0, upL (stZ n).fold [109], 0⟩, ⟨9, 1, s, 0⟩] := by
  have hm := kd_marks h
  have hp' := hp
  unfold plainL at hp
  simp only [Bool.and_eq_true, Bool.not_eq_true', beq_eq_false_iff_ne] at hp
  obtain ⟨h0, hf⟩ := hp
  obtain ⟨k9, k10⟩ := hm.2.1 h0
  have hno : ∀ c ∈ s, noC n c = true := by
    intro c hc
    have := List.all_eq_true.1 hf c hc
    unfold fineZ at this
    simp only [Bool.and_eq_true, Bool.not_eq_true', beq_eq_false_iff_ne] at this
    unfold noC
    simp only [Bool.not_eq_true', beq_eq_false_iff_ne]
    intro e
    exact this.2.2 (kd_cl e)
  have ho : offL n (s ++ [clB n]) = s.length := run_app (noC n) s [clB n] hno (fun c J' e => by
    injection e with e1 e2
    subst e1
    unfold noC; rw [k10]; rfl)
  have hnx : nextT n (opB n :: (s ++ [clB n])) = some ⟨9, s, 0, s.length + 2⟩ := by
    simp only [nextT]
    rw [if_neg (by omega), if_neg (by omega), if_neg (by omega), if_pos k9, ho, if_pos ⟨by simp, by rw [List.take_left']; exact hp'; rfl⟩, List.take_left']
    rfl
  have e : lexL n 0 (noteText n s) = [(⟨1, 0, upL (stZ n).fold [109], 0⟩, 1), (⟨9, 1, s, 0⟩, 1 + (s.length + 2))] := by
    rw [note_rest h, lexL_some hnx]
    simp only
    rw [List.drop_of_length_le (by simp)]
    rfl
  have e0 : endL 0 (lexL n 0 (noteText n s)) = s.length + 3 := by rw [e]; show 1 + (s.length + 2) = _; omega
  have e1 : lexErr n (noteText n s) = 0 := by
    unfold lexErr; rw [if_neg (by rw [h]; simp), if_neg (by rw [note_len]; omega), e0, if_neg (by rw [note_len]; omega)]
  refine ⟨e1, ?_⟩
  unfold lexToks; rw [e1, if_pos rfl]; unfold toks; rw [e]; rfl
/-- A notation without notes. -/
theorem note_none {n : Int} (h : isN n = true) (s : List UInt8) (hs : s.length ≤ 100) (h0 : (stZ n).op = 0) : lexErr n (noteText n s) = 14 ∧ lexAt n (noteText n s) = 1 ∧ lexToks n (noteText n s) = [] := by
  have hm := (kd_marks h).1 h0
  have hnx : nextT n (opB n :: (s ++ [clB n])) = none := by
    simp only [nextT]
    rw [if_pos (.inl hm.1)]
  have e : lexL n 0 (noteText n s) = [(⟨1, 0, upL (stZ n).fold [109], 0⟩, 1)] := by rw [note_rest h, lexL_none hnx]
  have e0 : endL 0 (lexL n 0 (noteText n s)) = 1 := by rw [e]; rfl
  have e1 : lexErr n (noteText n s) = 14 := by
    unfold lexErr; rw [if_neg (by rw [h]; simp), if_neg (by rw [note_len]; omega), e0, if_pos (by rw [note_len]; omega)]
  refine ⟨e1, ?_, ?_⟩
  · unfold lexAt; rw [if_neg (by rw [h, note_len]; simp; omega), e0]
  · unfold lexToks; rw [e1]; rfl
/-- A text that may not. -/
theorem note_not {n : Int} (h : isN n = true) (s : List UInt8) (hp : plainL (stZ n) s = false) (h0 : (stZ n).op ≠ 0) (h2 : (lexToks n (noteText n s)).length = 2) : ((lexToks n (noteText n s)).getD 1 default).text ≠ s := by
  intro he
  have k9 := ((kd_marks h).2.1 h0).1
  unfold lexToks at h2 he
  split at h2
  · rename_i e0
    rw [if_pos e0] at he
    unfold toks at h2 he
    rw [note_rest h] at h2 he
    cases hn : nextT n (opB n :: (s ++ [clB n])) with
    | none => rw [lexL_none hn] at h2; simp at h2
    | some g =>
      rw [lexL_some hn] at he
      have het : g.text = s := he
      rcases next_cases hn with ⟨hk, rfl⟩ | ⟨hk, _, rfl⟩ | ⟨hk, ⟨_, hpp⟩, rfl⟩ | ⟨hk, rfl⟩
      · omega
      · omega
      · simp only at het
        rw [het, hp] at hpp
        cases hpp
      · omega
  · simp at h2

end Go.Proofs.YtmcmmbacehldbaaDoor.Toks
