/-
  Plain mathematics of worths' texts: a text tells all of a worth. No program in this text.
-/
import Derived.Test.YtndinbefljajcaaDoorVB
namespace Go.Proofs.YtndinbefljajcaaDoor.Worth
open Go.Proofs.YtndinbefljajcaaDoor.Dims (D7 dZero dOf get_of)
open Go.Lib (itoa)
set_option linter.unusedVariables false
set_option linter.unusedSimpArgs false

/-- Nothing, or something that begins with x. -/
def Starts (x : UInt8) (r : List UInt8) : Prop := r = [] ∨ ∃ t, r = x :: t
theorem split_at (x : UInt8) : ∀ (a b r s : List UInt8), (∀ c ∈ a, c ≠ x) → (∀ c ∈ b, c ≠ x) → Starts x r → Starts x s → a ++ r = b ++ s → a = b ∧ r = s
  | [], [], r, s, _, _, _, _, h => ⟨rfl, h⟩
  | [], c :: b, r, s, _, hb, hr, _, h => by
    simp only [List.nil_append, List.cons_append] at h
    rcases hr with hr | ⟨t, hr⟩
    · rw [hr] at h; cases h
    · rw [hr] at h
      injection h with h1 _
      exact absurd h1.symm (hb c (by simp))
  | c :: a, [], r, s, ha, _, _, hs, h => by
    simp only [List.nil_append, List.cons_append] at h
    rcases hs with hs | ⟨t, hs⟩
    · rw [hs] at h; cases h
    · rw [hs] at h
      injection h with h1 _
      exact absurd h1 (ha c (by simp))
  | c :: a, d :: b, r, s, ha, hb, hr, hs, h => by
    simp only [List.cons_append] at h
    injection h with h1 h2
    obtain ⟨e1, e2⟩ := split_at x a b r s (fun c h => ha c (by simp [h])) (fun c h => hb c (by simp [h])) hr hs h2
    exact ⟨by rw [h1, e1], e2⟩

theorem frac_bytes (n d t : Int) : ∀ c ∈ Texts.textL n d t, c ≠ 32 := by
  have hi : ∀ v : Int, ∀ c ∈ itoa v, c ≠ (32 : UInt8) := fun v => Texts.itoa_ne v 32 (by decide) (by unfold Texts.isDig; decide)
  intro c hc
  unfold Texts.textL at hc
  simp only [List.mem_append] at hc
  rcases hc with hc | hc | hc
  · exact hi _ c hc
  · split at hc
    · simp at hc
    · simp only [List.mem_cons] at hc
      rcases hc with hc | hc
      · subst hc; decide
      · exact hi _ c hc
  · split at hc
    · simp at hc
    · simp only [List.mem_cons] at hc
      rcases hc with hc | hc
      · subst hc; decide
      · exact hi _ c hc
theorem letter_ne32 : ∀ i, i < 7 → Dims.letter i ≠ 32 ∧ Dims.letter i ≠ 35 := Dims.seven (by decide) (by decide) (by decide) (by decide) (by decide) (by decide) (by decide)
theorem item_bytes (i : Nat) (hi : i < 7) (x : Int) : ∀ c ∈ Dims.itemO i x, c ≠ 32 := by
  have hv : ∀ v : Int, ∀ c ∈ itoa v, c ≠ (32 : UInt8) := fun v => Texts.itoa_ne v 32 (by decide) (by unfold Texts.isDig; decide)
  intro c hc
  unfold Dims.itemO Dims.item at hc
  split at hc
  · simp at hc
  · simp only [List.mem_cons] at hc
    rcases hc with hc | hc
    · subst hc; exact (letter_ne32 i hi).1
    · exact hv _ c hc
theorem tail_bytes (a : D7) : ∀ n k, k + n = 7 → ∀ c ∈ Dims.tailL a k, c ≠ 32
  | 0, k, hk, c, hc => by
    have e : k = 7 := by omega
    subst e
    simp [Dims.tailL] at hc
  | n + 1, k, hk, c, hc => by
    rw [Dims.tail_step a k (by omega), List.mem_append] at hc
    rcases hc with hc | hc
    · exact item_bytes k (by omega) _ c hc
    · exact tail_bytes a n (k + 1) (by omega) c hc
theorem dims_bytes (a : D7) : ∀ c ∈ Dims.textL a, c ≠ 32 := tail_bytes a 7 0 rfl
/-- The text of dims begins with a letter. -/
theorem dims_head (a : D7) (c : UInt8) (r : List UInt8) (h : Dims.textL a = c :: r) : c ≠ 35 := by
  obtain ⟨j, _, h2, h3⟩ := Dims.tail_head a 7 0 rfl c (by show (Dims.textL a).head? = _; rw [h]; rfl)
  rw [h3]
  exact (letter_ne32 j h2).2
theorem dims_inj {a b : D7} (ha : Dims.Right a) (hb : Dims.Right b) (h : Dims.textL a = Dims.textL b) : a = b := by
  rw [← Dims.cand_text a ha.fine, ← Dims.cand_text b hb.fine, h]
theorem frac_inj {n d t n' d' t' : Int} (h1 : Texts.i64 n) (h2 : Texts.i64 d) (h3 : Texts.i64 t) (k1 : Texts.i64 n') (k2 : Texts.i64 d') (k3 : Texts.i64 t') (h : Texts.textL n d t = Texts.textL n' d' t') : n = n' ∧ d = d' ∧ t = t' := by
  have e1 := Texts.cand_text n d t h1 h2 h3
  have e2 := Texts.cand_text n' d' t' k1 k2 k3
  rw [h, e2] at e1
  injection e1 with e1 e3
  injection e3 with e3 e4
  exact ⟨e1.symm, e3.symm, e4.symm⟩
theorem tag_inj {g k : Int} (g0 : 0 ≤ g) (g1 : g ≤ 99) (k0 : 0 ≤ k) (k1 : k ≤ 99) (h : tagL g = tagL k) : g = k := by
  unfold tagL at h
  by_cases hg : g = 0
  · by_cases hk : k = 0
    · omega
    · rw [if_pos hg, if_neg hk] at h; cases h
  · by_cases hk : k = 0
    · rw [if_neg hg, if_pos hk] at h; cases h
    · rw [if_neg hg, if_neg hk] at h
      injection h with _ h
      injection h with _ h
      have e1 := Texts.numA_itoa g (by omega) (by omega)
      have e2 := Texts.numA_itoa k (by omega) (by omega)
      rw [h, e2] at e1
      exact e1.symm
theorem tag_starts (g : Int) : Starts 32 (tagL g) := by
  unfold tagL
  split
  · exact .inl rfl
  · exact .inr ⟨_, rfl⟩
theorem rest_starts (p : List UInt8) (g : Int) : Starts 32 (dimL p ++ tagL g) := by
  unfold dimL
  split
  · exact tag_starts g
  · exact .inr ⟨_, rfl⟩

theorem rest_inj {a b : D7} {g k : Int} (ha : Dims.Right a) (hb : Dims.Right b) (g0 : 0 ≤ g) (g1 : g ≤ 99) (k0 : 0 ≤ k) (k1 : k ≤ 99) (h : dimL (Dims.textL a) ++ tagL g = dimL (Dims.textL b) ++ tagL k) : a = b ∧ g = k := by
  have na := dims_head a
  have nb := dims_head b
  have inj := dims_inj ha hb
  have ba := dims_bytes a
  have bb := dims_bytes b
  generalize Dims.textL a = p at *
  generalize Dims.textL b = q at *
  cases p with
  | nil =>
    cases q with
    | nil => exact ⟨inj rfl, tag_inj g0 g1 k0 k1 (by simpa [dimL] using h)⟩
    | cons c q =>
      exfalso
      simp only [dimL, if_true, List.nil_append, reduceCtorEq, if_false, List.cons_append] at h
      unfold tagL at h
      split at h
      · cases h
      · injection h with _ h
        injection h with h _
        exact nb c q rfl h.symm
  | cons c p =>
    cases q with
    | nil =>
      exfalso
      simp only [dimL, if_true, List.nil_append, reduceCtorEq, if_false, List.cons_append] at h
      unfold tagL at h
      split at h
      · rename_i hz
        by_cases hk : k = 0
        · rw [if_pos hk] at h; cases h
        · rw [if_neg hk] at h
          injection h with _ h
          simp only [List.append_nil] at h
          injection h with h _
          exact na c p rfl h
      · by_cases hk : k = 0
        · rw [if_pos hk] at h; cases h
        · rw [if_neg hk] at h
          injection h with _ h
          injection h with h _
          exact na c p rfl h
    | cons d q =>
      simp only [dimL, reduceCtorEq, if_false, List.cons_append] at h
      injection h with _ h
      obtain ⟨e1, e2⟩ := split_at 32 (c :: p) (d :: q) (tagL g) (tagL k) ba bb (tag_starts g) (tag_starts k) h
      exact ⟨inj e1, tag_inj g0 g1 k0 k1 e2⟩

/-- Two right worths that have one text are one. -/
theorem text_inj {a b : Wo} (fa : a.Fine) (fb : b.Fine) (ra : rightW a = true) (rb : rightW b = true) (h : textW a = textW b) : a = b := by
  unfold textW at h
  rw [if_pos ra, if_pos rb] at h
  unfold textR at h
  obtain ⟨e1, e2⟩ := split_at 32 _ _ _ _ (frac_bytes a.n a.d a.t) (frac_bytes b.n b.d b.t) (rest_starts _ _) (rest_starts _ _) h
  obtain ⟨ra1, ra2, ra3, ra4⟩ := (rightW_iff a).1 ra
  obtain ⟨rb1, rb2, rb3, rb4⟩ := (rightW_iff b).1 rb
  have x := Frac.right_fine fa.n fa.d ra1
  have y := Frac.right_fine fb.n fb.d rb1
  obtain ⟨q1, q2, q3⟩ := frac_inj (by constructor <;> omega) (by constructor <;> omega) (by constructor <;> omega) (by constructor <;> omega) (by constructor <;> omega) (by constructor <;> omega) e1
  obtain ⟨q4, q5⟩ := rest_inj ra2 rb2 ra3 ra4 rb3 rb4 e2
  obtain ⟨a0, a1, a2, a3, a4⟩ := a
  obtain ⟨b0, b1, b2, b3, b4⟩ := b
  simp only at q1 q2 q3 q4 q5
  subst q1 q2 q3 q4 q5
  rfl
theorem text_len (a : Wo) (fa : a.Fine) (ra : rightW a = true) : (textW a).length ≤ 400 := by
  unfold textW
  rw [if_pos ra]
  obtain ⟨ra1, ra2, ra3, ra4⟩ := (rightW_iff a).1 ra
  obtain ⟨x1, x2, x3, x4, x5⟩ := Frac.right_fine fa.n fa.d ra1
  have l1 := fracText_len a.n a.d a.t x1 x2 x3 x4 x5
  have l2 := Dims.text_len a.D fa.D
  have l3 := Lib.itoa_length_le a.g fa.g0 fa.g1
  unfold textR dimL tagL
  simp only [List.length_append]
  have q1 : (if Dims.textL a.D = [] then [] else (32 :: Dims.textL a.D : List UInt8)).length ≤ 155 := by split <;> simp <;> omega
  have q2 : (if a.g = 0 then [] else (32 :: 35 :: itoa a.g : List UInt8)).length ≤ 24 := by split <;> simp <;> omega
  omega

end Go.Proofs.YtndinbefljajcaaDoor.Worth
