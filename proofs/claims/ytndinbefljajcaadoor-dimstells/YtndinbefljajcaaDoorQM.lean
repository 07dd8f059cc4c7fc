/-
  Plain mathematics of dims: what the document's reader takes a text for, byte by byte; it answers as the program's. No program in this text.
-/
import Derived.Test.YtndinbefljajcaaDoorDM
namespace Go.Proofs.YtndinbefljajcaaDoor.Dims
open Go.Lib
open Go.Proofs.YtndinbefljajcaaDoor.Texts
set_option linter.unusedVariables false
set_option linter.unusedSimpArgs false

/-- What the document's reader holds: dims, a base, a sign. -/
structure RS where
  D : D7
  base : Nat
  sign : Int

def setP (a : D7) (i : Nat) (x : Int) : D7 := dOf (fun j => if j = i then x else a.get j)
theorem setP_get (a : D7) (i : Nat) (x : Int) (j : Nat) (hj : j < 7) : (setP a i x).get j = if j = i then x else a.get j := by
  unfold setP; rw [get_of _ j hj]
/-- Which of the first k letters a byte is; whether it is one. -/
def fk (c b : Nat) : Nat → Bool × Nat
  | 0 => (false, b)
  | k + 1 => if (letter k).toNat = c then (true, k) else fk c b k
def stepS (s : RS) (c : Nat) : Option RS :=
  if c = 45 then some ⟨s.D, s.base, -1⟩
  else if 48 ≤ c ∧ c ≤ 57 then
    if s.D.get s.base < -99 ∨ 99 < s.D.get s.base then none else some ⟨setP s.D s.base (s.D.get s.base * 10 + s.sign * ((c : Int) - 48)), s.base, s.sign⟩
  else if (fk c s.base 7).1 = true then some ⟨s.D, (fk c s.base 7).2, 1⟩ else none
def foldS (o : Option RS) (l : List UInt8) : Option RS := l.foldl (fun o c => o.bind (fun s => stepS s c.toNat)) o
theorem foldS_nil (o : Option RS) : foldS o [] = o := by unfold foldS; rw [List.foldl_nil]
theorem foldS_cons (s : RS) (c : UInt8) (r : List UInt8) : foldS (some s) (c :: r) = foldS (stepS s c.toNat) r := by unfold foldS; rw [List.foldl_cons]; rfl
theorem foldS_none : ∀ l : List UInt8, foldS none l = none
  | [] => by rw [foldS_nil]
  | c :: r => by
    have := foldS_none r
    unfold foldS at this ⊢
    rw [List.foldl_cons]
    exact this
theorem foldS_app (o : Option RS) (a b : List UInt8) : foldS o (a ++ b) = foldS (foldS o a) b := by unfold foldS; rw [List.foldl_append]
attribute [irreducible] foldS
def rs0 : RS := ⟨dZero, 0, 1⟩
open Classical in
/-- What the document's Read answers. -/
noncomputable def readD (s : List UInt8) : D7 × Bool := match foldS (some rs0) s with
  | none => (dZero, false)
  | some r => if Right r.D ∧ textD r.D = s then (r.D, true) else (dZero, false)

/-- What the reader keeps. -/
structure RS.Ok (s : RS) : Prop where
  base : s.base < 7
  sign : s.sign = 1 ∨ s.sign = -1
  D : ∀ i, i < 7 → -999 ≤ s.D.get i ∧ s.D.get i ≤ 999
theorem rs0_ok : rs0.Ok := ⟨by decide, .inl rfl, fun i hi => by simp only [rs0]; rw [zero_get]; omega⟩
theorem fk_lt (c b : Nat) (hb : b < 7) : ∀ k, k ≤ 7 → (fk c b k).2 < 7
  | 0, _ => hb
  | k + 1, h => by
    unfold fk
    split
    · show k < 7; omega
    · exact fk_lt c b hb k (by omega)
theorem step_ok {s s' : RS} {c : Nat} (h : s.Ok) (hs : stepS s c = some s') : s'.Ok := by
  unfold stepS at hs
  split at hs
  · injection hs with hs; subst hs; exact ⟨h.base, .inr rfl, h.D⟩
  · split at hs
    · split at hs
      · cases hs
      · rename_i h1 h2 h3
        injection hs with hs; subst hs
        refine ⟨h.base, h.sign, fun i hi => ?_⟩
        simp only
        rw [setP_get _ _ _ i hi]
        split
        · rcases h.sign with e | e <;> rw [e] <;> omega
        · exact h.D i hi
    · split at hs
      · injection hs with hs; subst hs; exact ⟨fk_lt c s.base h.base 7 (by omega), .inl rfl, h.D⟩
      · cases hs

/-! ### A text that was told is taken for what it was told of -/

theorem fk_letter (b : Nat) : ∀ i, i < 7 → fk (letter i).toNat b 7 = (true, i) := by
  refine seven ?_ ?_ ?_ ?_ ?_ ?_ ?_ <;> simp [fk, letter]
theorem step_letter (s : RS) (i : Nat) (hi : i < 7) : stepS s (letter i).toNat = some ⟨s.D, i, 1⟩ := by
  have h1 : (letter i).toNat ≠ 45 := seven (p := fun i => (letter i).toNat ≠ 45) (by decide) (by decide) (by decide) (by decide) (by decide) (by decide) (by decide) i hi
  have h2 : ¬ (48 ≤ (letter i).toNat ∧ (letter i).toNat ≤ 57) := seven (p := fun i => ¬ (48 ≤ (letter i).toNat ∧ (letter i).toNat ≤ 57)) (by decide) (by decide) (by decide) (by decide) (by decide) (by decide) (by decide) i hi
  unfold stepS
  rw [if_neg h1, if_neg h2, fk_letter s.base i hi]
  rfl
theorem step_minus (s : RS) : stepS s 45 = some ⟨s.D, s.base, -1⟩ := by unfold stepS; rw [if_pos rfl]
theorem step_dig (s : RS) (d : Nat) (hd : d < 10) (h0 : -99 ≤ s.D.get s.base) (h1 : s.D.get s.base ≤ 99) : stepS s (UInt8.ofNat (48 + d)).toNat = some ⟨setP s.D s.base (s.D.get s.base * 10 + s.sign * d), s.base, s.sign⟩ := by
  rw [digOf d hd]
  unfold stepS
  rw [if_neg (by omega), if_pos (by omega), if_neg (by omega), show ((48 + d : Nat) : Int) - 48 = d from by omega]
theorem setP_twice (a : D7) (i : Nat) (x y : Int) : setP (setP a i x) i y = setP a i y := by
  refine d_ext fun j hj => ?_
  rw [setP_get _ _ _ j hj, setP_get _ _ _ j hj, setP_get _ _ _ j hj]
  split <;> rfl

theorem dec2 (n : Nat) (h0 : 10 ≤ n) (h1 : n ≤ 99) : decDigits n = [UInt8.ofNat (48 + n / 10), UInt8.ofNat (48 + n % 10)] := by
  rw [decDigits, dif_neg (by omega), decDigits_one (by omega)]
  rfl

/-- The digits of a number to 99 behind a sign. -/
theorem fold_dec (s : RS) (n : Nat) (hn : n ≤ 99) (hb : s.base < 7) (hs : s.sign = 1 ∨ s.sign = -1) (hz : s.D.get s.base = 0) : foldS (some s) (decDigits n) = some ⟨setP s.D s.base (s.sign * n), s.base, s.sign⟩ := by
  by_cases h : n < 10
  · rw [decDigits_one h, foldS_cons, step_dig s n h (by omega) (by omega), foldS_nil, hz]
    simp
  · rw [dec2 n (by omega) hn, foldS_cons, step_dig s (n / 10) (by omega) (by omega) (by omega), foldS_cons, step_dig _ (n % 10) (by omega) ?_ ?_, foldS_nil, hz]
    · simp only
      rw [setP_get _ _ _ _ hb, if_pos rfl, setP_twice]
      congr 3
      rcases hs with e | e <;> rw [e] <;> omega
    all_goals
      simp only
      rw [setP_get _ _ _ _ hb, if_pos rfl, hz]
      rcases hs with e | e <;> rw [e] <;> omega
theorem fold_itoa (s : RS) (x : Int) (h0 : -99 ≤ x) (h1 : x ≤ 99) (hb : s.base < 7) (hs : s.sign = 1) (hz : s.D.get s.base = 0) : ∃ g, foldS (some s) (itoa x) = some ⟨setP s.D s.base x, s.base, g⟩ := by
  unfold itoa
  by_cases hx : x < 0
  · rw [if_pos hx]
    refine ⟨-1, ?_⟩
    rw [foldS_cons, show (45 : UInt8).toNat = 45 from rfl, step_minus, fold_dec ⟨s.D, s.base, -1⟩ x.natAbs (by omega) hb (.inr rfl) hz]
    congr 3
    simp only
    omega
  · rw [if_neg hx]
    refine ⟨1, ?_⟩
    rw [fold_dec s _ (by omega) hb (.inl hs) hz, hs]
    congr 3
    omega
/-- The dims from place k on, nothing ahead. -/
def headD (a : D7) (k : Nat) : D7 := dOf (fun j => if j < k then a.get j else 0)
theorem fold_tail (a : D7) (hr : Right a) : ∀ n k, k + n = 7 → ∀ s : RS, s.D = headD a k → ∃ r, foldS (some s) (tailL a k) = some r ∧ r.D = a
  | 0, k, hk, s, hs => by
    have e : k = 7 := by omega
    subst e
    refine ⟨s, ?_, ?_⟩
    · simp only [tailL]; rw [foldS_nil]
    · rw [hs]
      refine d_ext fun j hj => ?_
      unfold headD
      rw [get_of _ j hj, if_pos hj]
  | n + 1, k, hk, s, hs => by
    rw [tail_step a k (by omega)]
    by_cases hz : a.get k = 0
    · rw [hz]
      simp only [itemO, if_true, List.nil_append]
      refine fold_tail a hr n (k + 1) (by omega) s ?_
      rw [hs]
      refine of_congr fun j hj => ?_
      by_cases h : j < k
      · rw [if_pos h, if_pos (by omega)]
      · rw [if_neg h]
        by_cases h2 : j < k + 1
        · rw [if_pos h2, show j = k from by omega, hz]
        · rw [if_neg h2]
    · simp only [itemO, if_neg hz, item, List.cons_append]
      rw [foldS_cons, step_letter s k (by omega), foldS_app]
      have hk0 : s.D.get k = 0 := by rw [hs]; unfold headD; rw [get_of _ k (by omega), if_neg (by omega)]
      obtain ⟨g, hg⟩ := fold_itoa ⟨s.D, k, 1⟩ (a.get k) (hr k (by omega)).1 (hr k (by omega)).2 (by show k < 7; omega) rfl hk0
      rw [hg]
      refine fold_tail a hr n (k + 1) (by omega) _ ?_
      simp only
      refine d_ext fun j hj => ?_
      rw [setP_get _ _ _ j hj, hs]
      unfold headD
      rw [get_of _ j hj, get_of _ j hj]
      by_cases h : j = k
      · subst h; rw [if_pos rfl, if_pos (by omega)]
      · rw [if_neg h]
        by_cases h2 : j < k
        · rw [if_pos h2, if_pos (by omega)]
        · rw [if_neg h2, if_neg (by omega)]

theorem readD_text (a : D7) (h : Right a) : readD (textL a) = (a, true) := by
  obtain ⟨r, hr, he⟩ := fold_tail a h 7 0 rfl rs0 (by simp only [rs0]; exact d_ext fun j hj => by unfold headD; rw [get_of _ j hj, zero_get]; simp)
  unfold readD
  rw [show textL a = tailL a 0 from rfl, hr]
  simp only
  rw [he, if_pos ⟨h, text_right h⟩]

/-- Both readers answer alike. -/
theorem readD_eq (s : List UInt8) : readD s = readG s := by
  cases hG : (readG s).2 with
  | true =>
    obtain ⟨hr, ht⟩ := read_yes s hG
    have h1 : readD s = ((readG s).1, true) := by
      have := readD_text _ hr
      rw [ht] at this
      exact this
    rw [h1]
    exact Prod.ext rfl hG.symm
  | false =>
    have hz := read_no s hG
    have h2 : readG s = (dZero, false) := Prod.ext hz hG
    rw [h2]
    unfold readD
    cases hf : foldS (some rs0) s with
    | none => rfl
    | some r =>
      simp only
      by_cases hc : Right r.D ∧ textD r.D = s
      · obtain ⟨h3, h4⟩ := hc
        rw [text_right h3] at h4
        have h5 := read_text r.D h3
        rw [h4] at h5
        rw [h5] at hG
        cases hG
      · rw [if_neg hc]

end Go.Proofs.YtndinbefljajcaaDoor.Dims
