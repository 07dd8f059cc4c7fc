/-
  Tokens as plain functions. No program in this text.
-/
import Derived.Test.YthofogokpolhdaaGreatDoorYM
import Derived.Test.YthofogokpolhdaaGreatDoorTM
namespace Go.Proofs.YthofogokpolhdaaGreatDoor.Toks
open Go.Proofs.YthofogokpolhdaaGreatDoor.Style
open Go.Proofs.YthofogokpolhdaaGreatDoor.Texts (val isDig)
set_option linter.unusedVariables false
set_option linter.unusedSimpArgs false

/-- A token. -/
structure Tok where
  kind : Int
  pos : Nat
  text : List UInt8
  num : Int
  deriving DecidableEq, Inhabited
/-- A token without its place, and how many bytes it has. -/
structure Got where
  kind : Int
  text : List UInt8
  num : Int
  len : Nat

def kd (n : Int) (c : UInt8) : Int := kindZ n (c.toNat : Int)
def runL (p : UInt8 → Bool) (r : List UInt8) : Nat := (r.takeWhile p).length
def isK (n k : Int) (c : UInt8) : Bool := kd n c == k
def noC (n : Int) (c : UInt8) : Bool := !(kd n c == 10)
def goL (n k : Int) (r : List UInt8) : Nat := runL (isK n k) r
def offL (n : Int) (r : List UInt8) : Nat := runL (noC n) r

/-- P8.1: the token at a text's beginning. -/
def nextT (n : Int) : List UInt8 → Option Got
  | [] => none
  | c :: r =>
    if kd n c = 0 ∨ kd n c = 10 then none
    else if kd n c = 1 then some ⟨1, upL (stZ n).fold ((c :: r).take (goL n 1 (c :: r))), 0, goL n 1 (c :: r)⟩
    else if kd n c = 2 then (if val 0 ((c :: r).take (goL n 2 (c :: r))) ≤ 9223372036854775807 then some ⟨2, (c :: r).take (goL n 2 (c :: r)), (val 0 ((c :: r).take (goL n 2 (c :: r))) : Int), goL n 2 (c :: r)⟩ else none)
    else if kd n c = 9 then (if offL n r < r.length ∧ plainL (stZ n) (r.take (offL n r)) = true then some ⟨9, r.take (offL n r), 0, offL n r + 2⟩ else none)
    else some ⟨kd n c, [c], 0, 1⟩

/-! ### Runs -/

theorem run_le (p : UInt8 → Bool) : ∀ r, runL p r ≤ r.length := fun r => (List.takeWhile_prefix p).length_le
theorem run_yes {p : UInt8 → Bool} {c : UInt8} (r : List UInt8) (h : p c = true) : runL p (c :: r) = runL p r + 1 := by simp [runL, List.takeWhile_cons, h]
theorem run_no {p : UInt8 → Bool} {c : UInt8} (r : List UInt8) (h : p c = false) : runL p (c :: r) = 0 := by simp [runL, List.takeWhile_cons, h]
theorem run_take (p : UInt8 → Bool) : ∀ r : List UInt8, r.take (runL p r) = r.takeWhile p
  | [] => rfl
  | c :: r => by
    cases h : p c with
    | true => rw [run_yes r h, List.take_succ_cons, run_take p r]; simp [List.takeWhile_cons, h]
    | false => rw [run_no r h]; simp [List.takeWhile_cons, h]
theorem run_all (p : UInt8 → Bool) (r : List UInt8) : ∀ c ∈ r.take (runL p r), p c = true := by
  rw [run_take]
  intro c hc
  exact List.all_eq_true.1 List.all_takeWhile c hc
/-- What stands behind a run is of another kind. -/
theorem run_stop (p : UInt8 → Bool) : ∀ (r : List UInt8) (c : UInt8) (r' : List UInt8), r.drop (runL p r) = c :: r' → p c = false
  | [], c, r', h => by cases h
  | a :: r, c, r', h => by
    cases ha : p a with
    | true =>
      rw [run_yes r ha, List.drop_succ_cons] at h
      exact run_stop p r c r' h
    | false =>
      rw [run_no r ha] at h
      injection h with h1 h2
      rw [← h1]; exact ha
/-- A run of bytes that all are of the kind, and no more behind. -/
theorem run_app (p : UInt8 → Bool) : ∀ (a J : List UInt8), (∀ c ∈ a, p c = true) → (∀ c J', J = c :: J' → p c = false) → runL p (a ++ J) = a.length
  | [], J, _, h => by
    cases J with
    | nil => rfl
    | cons c J' => exact run_no J' (h c J' rfl)
  | c :: a, J, hc, h => by
    rw [List.cons_append, run_yes _ (hc c (by simp)), run_app p a J (fun x hx => hc x (by simp [hx])) h]; rfl
/-- With more behind: the run ends where it ended. -/
theorem run_more (p : UInt8 → Bool) (t : List UInt8) : ∀ r : List UInt8, (runL p r < r.length ∨ ∀ c t', t = c :: t' → p c = false) → runL p (r ++ t) = runL p r
  | [], h => by
    rcases h with h | h
    · exact absurd h (by simp)
    · exact run_app p [] t (fun c hc => by cases hc) h
  | c :: r, h => by
    rw [List.cons_append]
    cases hc : p c with
    | true =>
      rw [run_yes _ hc, run_yes _ hc, run_more p t r]
      rcases h with h | h
      · left; rw [run_yes _ hc] at h; simp only [List.length_cons] at h; omega
      · exact .inr h
    | false => rw [run_no _ hc, run_no _ hc]
theorem run_succ (p : UInt8 → Bool) (r : List UInt8) (k : Nat) (h : k ≤ runL p r) (hk : k < r.length) : (p (r.getD k 0) = true ↔ k < runL p r) := by
  constructor
  · intro hp
    rcases Nat.lt_or_ge k (runL p r) with h1 | h1
    · exact h1
    · have he : k = runL p r := by omega
      have hd : r.drop (runL p r) = r.getD k 0 :: r.drop (runL p r + 1) := by
        rw [← he, getD_at r k hk]
        exact (List.drop_eq_getElem_cons hk)
      have := run_stop p r _ _ hd
      rw [this] at hp; cases hp
  · intro h1
    have := run_all p r (r.getD k 0) (by
      rw [getD_at r k hk, List.mem_take_iff_getElem]
      exact ⟨k, by omega, rfl⟩)
    exact this

/-! ### Kinds -/

theorem all_vals (c : Int) : allZ c = 0 ∨ allZ c = 1 ∨ allZ c = 2 ∨ allZ c = 3 ∨ allZ c = 7 ∨ allZ c = 8 := by
  unfold allZ; repeat' split
  all_goals omega
theorem own_vals (s : St) (c : Int) : ownZ s c = 0 ∨ ownZ s c = 4 ∨ ownZ s c = 5 ∨ ownZ s c = 6 ∨ ownZ s c = 9 ∨ ownZ s c = 10 := by
  unfold ownZ; repeat' split
  all_goals omega
theorem kd_vals (n : Int) (c : UInt8) : 0 ≤ kd n c ∧ kd n c ≤ 10 := by
  unfold kd kindZ
  have h1 := all_vals (c.toNat : Int)
  have h2 := own_vals (stZ n) (c.toNat : Int)
  split
  · split <;> omega
  · omega
theorem kd_isN {n : Int} {c : UInt8} (h : kd n c ≠ 0) : isN n = true := by
  unfold kd kindZ at h
  cases e : isN n with
  | true => rfl
  | false => rw [e] at h; exact absurd rfl h
/-- Open, and Close. -/
theorem kd_op {n : Int} {c : UInt8} (h : kd n c = 9) : (c.toNat : Int) = (stZ n).op ∧ (stZ n).op ≠ 0 := by
  have hn := kd_isN (n := n) (c := c) (by omega)
  unfold kd kindZ at h
  rw [hn] at h
  have h1 := all_vals (c.toNat : Int)
  simp only [if_true] at h
  split at h
  · unfold ownZ at h
    repeat' split at h
    all_goals first | omega | skip
  · omega
theorem kd_cl {n : Int} {c : UInt8} (h : kd n c = 10) : (c.toNat : Int) = (stZ n).cl := by
  have hn := kd_isN (n := n) (c := c) (by omega)
  unfold kd kindZ at h
  rw [hn] at h
  have h1 := all_vals (c.toNat : Int)
  simp only [if_true] at h
  split at h
  · unfold ownZ at h
    repeat' split at h
    all_goals first | omega | skip
  · omega
theorem st_notes {n : Int} (h : (stZ n).op ≠ 0) : ((n = 1 ∨ n = 2) ∧ (stZ n).op = 123 ∧ (stZ n).cl = 125) ∨ (n = 3 ∧ (stZ n).op = 60 ∧ (stZ n).cl = 62) := by
  rcases st_cases n with (rfl | rfl | rfl | rfl | rfl) | ⟨_, e, _⟩
  · exact .inl ⟨by omega, rfl, rfl⟩
  · exact .inl ⟨by omega, rfl, rfl⟩
  · exact .inr ⟨rfl, rfl, rfl⟩
  · exact absurd rfl h
  · exact absurd rfl h
  · rw [e] at h; exact absurd rfl h
/-- Where notes are, the byte Close alone is of its kind. -/
theorem cl_kd {n : Int} (h : (stZ n).op ≠ 0) (c : UInt8) : (kd n c = 10 ↔ (c.toNat : Int) = (stZ n).cl) := by
  refine ⟨kd_cl, fun hc => ?_⟩
  have h1 : c = UInt8.ofNat c.toNat := (UInt8.ofNat_toNat).symm
  rcases st_notes h with ⟨hn, h2, h3⟩ | ⟨rfl, h2, h3⟩
  · rw [h3] at hc
    have : c.toNat = 125 := by omega
    rw [h1, this]
    rcases hn with rfl | rfl <;> rfl
  · rw [h3] at hc
    have : c.toNat = 62 := by omega
    rw [h1, this]
    rfl
theorem kd_up1 (f : Bool) (n : Int) (c : UInt8) : kd n (up1 f c) = kd n c := kind_up1 f n c
theorem dig_of {n : Int} {c : UInt8} (h : kd n c = 2) : isDig c := by
  have hn := kd_isN (n := n) (c := c) (by omega)
  unfold kd kindZ at h
  rw [hn] at h
  simp only [if_true] at h
  have h1 := own_vals (stZ n) (c.toNat : Int)
  split at h
  · omega
  · unfold allZ at h
    unfold isDig
    repeat' split at h
    all_goals omega

/-! ### One token -/

theorem next_cases {n : Int} {c : UInt8} {r : List UInt8} {g : Got} (h : nextT n (c :: r) = some g) :
    (kd n c = 1 ∧ g = ⟨1, upL (stZ n).fold ((c :: r).take (goL n 1 (c :: r))), 0, goL n 1 (c :: r)⟩)
    ∨ (kd n c = 2 ∧ val 0 ((c :: r).take (goL n 2 (c :: r))) ≤ 9223372036854775807 ∧ g = ⟨2, (c :: r).take (goL n 2 (c :: r)), (val 0 ((c :: r).take (goL n 2 (c :: r))) : Int), goL n 2 (c :: r)⟩)
    ∨ (kd n c = 9 ∧ (offL n r < r.length ∧ plainL (stZ n) (r.take (offL n r)) = true) ∧ g = ⟨9, r.take (offL n r), 0, offL n r + 2⟩)
    ∨ ((kd n c ≠ 0 ∧ kd n c ≠ 10 ∧ kd n c ≠ 1 ∧ kd n c ≠ 2 ∧ kd n c ≠ 9) ∧ g = ⟨kd n c, [c], 0, 1⟩) := by
  simp only [nextT] at h
  split at h
  · cases h
  · split at h
    · injection h with h; exact .inl ⟨by assumption, h.symm⟩
    · split at h
      · split at h
        · injection h with h; exact .inr (.inl ⟨by assumption, by assumption, h.symm⟩)
        · cases h
      · split at h
        · split at h
          · injection h with h; exact .inr (.inr (.inl ⟨by assumption, by assumption, h.symm⟩))
          · cases h
        · injection h with h; exact .inr (.inr (.inr ⟨by omega, h.symm⟩))
theorem next_cons {n : Int} {r : List UInt8} {g : Got} (h : nextT n r = some g) : ∃ c r', r = c :: r' := by
  cases r with
  | nil => cases h
  | cons c r => exact ⟨c, r, rfl⟩
theorem isK_yes {n k : Int} {c : UInt8} (h : kd n c = k) : isK n k c = true := by unfold isK; rw [h]; simp
theorem isK_of {n k : Int} {c : UInt8} (h : isK n k c = true) : kd n c = k := by unfold isK at h; simpa using h
theorem isK_no {n k : Int} {c : UInt8} (h : isK n k c = false) : kd n c ≠ k := by unfold isK at h; simpa using h
theorem isK_ne {n k : Int} {c : UInt8} (h : kd n c ≠ k) : isK n k c = false := by unfold isK; simpa using h
theorem next_len {n : Int} {r : List UInt8} {g : Got} (h : nextT n r = some g) : 1 ≤ g.len ∧ g.len ≤ r.length := by
  obtain ⟨c, r, rfl⟩ := next_cons h
  rcases next_cases h with ⟨hk, rfl⟩ | ⟨hk, _, rfl⟩ | ⟨hk, ⟨h1, _⟩, rfl⟩ | ⟨_, rfl⟩
  · exact ⟨by show 1 ≤ runL _ _; rw [run_yes r (isK_yes hk)]; omega, run_le _ _⟩
  · exact ⟨by show 1 ≤ runL _ _; rw [run_yes r (isK_yes hk)]; omega, run_le _ _⟩
  · simp only [List.length_cons]; omega
  · simp only [List.length_cons]; omega
theorem next_kind {n : Int} {c : UInt8} {r : List UInt8} {g : Got} (h : nextT n (c :: r) = some g) : g.kind = kd n c := by
  rcases next_cases h with ⟨hk, rfl⟩ | ⟨hk, _, rfl⟩ | ⟨hk, _, rfl⟩ | ⟨_, rfl⟩
  · exact hk.symm
  · exact hk.symm
  · exact hk.symm
  · rfl
theorem next_bounds {n : Int} {r : List UInt8} {g : Got} (h : nextT n r = some g) : (1 ≤ g.kind ∧ g.kind ≤ 9) ∧ (0 ≤ g.num ∧ g.num ≤ 9223372036854775807) ∧ (g.kind ≠ 2 → g.num = 0) := by
  obtain ⟨c, r, rfl⟩ := next_cons h
  have hv := kd_vals n c
  rcases next_cases h with ⟨hk, rfl⟩ | ⟨hk, hb, rfl⟩ | ⟨hk, _, rfl⟩ | ⟨_, rfl⟩
  · simp
  · refine ⟨by simp, ⟨?_, ?_⟩, ?_⟩
    · show (0 : Int) ≤ (val 0 _ : Nat); omega
    · show ((val 0 _ : Nat) : Int) ≤ _; omega
    · intro h; exact absurd rfl h
  · simp
  · refine ⟨?_, by simp, by simp⟩
    show 1 ≤ kd n c ∧ kd n c ≤ 9
    omega
/-- How long its text says that it is. -/
theorem next_more {n : Int} {r : List UInt8} {g : Got} (h : nextT n r = some g) : g.text.length + (if g.kind = 9 then 2 else 0) = g.len := by
  obtain ⟨c, r, rfl⟩ := next_cons h
  rcases next_cases h with ⟨hk, rfl⟩ | ⟨hk, _, rfl⟩ | ⟨hk, ⟨h1, _⟩, rfl⟩ | ⟨⟨_, _, _, _, h9⟩, rfl⟩
  · simp only [upL_length, List.length_take]
    have := run_le (isK n 1) (c :: r)
    show min (runL _ _) _ + _ = runL _ _
    rw [if_neg (by omega)]; omega
  · simp only [List.length_take]
    have := run_le (isK n 2) (c :: r)
    show min (runL _ _) _ + _ = runL _ _
    rw [if_neg (by omega)]; omega
  · simp only [List.length_take, if_true]
    omega
  · show 1 + (if kd n c = 9 then 2 else 0) = 1
    rw [if_neg h9]
/-- Behind a symbol, or a number, stands nothing of its kind. -/
theorem next_stop {n : Int} {r : List UInt8} {g : Got} (h : nextT n r = some g) (hk : g.kind ≤ 2) (c : UInt8) (r' : List UInt8) (hd : r.drop g.len = c :: r') : kd n c ≠ g.kind := by
  have hb := (next_bounds h).1
  obtain ⟨c0, r, rfl⟩ := next_cons h
  rcases next_cases h with ⟨_, rfl⟩ | ⟨_, _, rfl⟩ | ⟨_, _, rfl⟩ | ⟨h5, rfl⟩
  · exact isK_no (run_stop _ _ _ _ hd)
  · exact isK_no (run_stop _ _ _ _ hd)
  · simp at hk
  · simp only at hk hb; omega

/-! ### All tokens -/

def lexF (n : Int) : Nat → Nat → List UInt8 → List (Tok × Nat)
  | 0, _, _ => []
  | f + 1, p, r => match nextT n r with
    | none => []
    | some g => (⟨g.kind, p, g.text, g.num⟩, p + g.len) :: lexF n f (p + g.len) (r.drop g.len)
theorem lexF_nil (n : Int) (f p : Nat) : lexF n f p [] = [] := by cases f <;> rfl
theorem lexF_more (n : Int) : ∀ (f f' p : Nat) (r : List UInt8), r.length ≤ f → r.length ≤ f' → lexF n f p r = lexF n f' p r
  | 0, f', p, r, h, _ => by
    have : r = [] := List.length_eq_zero_iff.1 (by omega)
    rw [this, lexF_nil, lexF_nil]
  | f + 1, 0, p, r, _, h => by
    have : r = [] := List.length_eq_zero_iff.1 (by omega)
    rw [this, lexF_nil, lexF_nil]
  | f + 1, f' + 1, p, r, h, h' => by
    unfold lexF
    cases e : nextT n r with
    | none => rfl
    | some g =>
      have := next_len e
      simp only
      rw [lexF_more n f f' _ _ (by rw [List.length_drop]; omega) (by rw [List.length_drop]; omega)]
/-- The tokens from a place on, each with where it ends. -/
def lexL (n : Int) (p : Nat) (r : List UInt8) : List (Tok × Nat) := lexF n r.length p r
theorem lexL_none {n : Int} {p : Nat} {r : List UInt8} (h : nextT n r = none) : lexL n p r = [] := by
  unfold lexL
  cases r with
  | nil => rfl
  | cons c r => show lexF n (r.length + 1) p (c :: r) = []; unfold lexF; rw [h]
theorem lexF_some {n : Int} {f p : Nat} {r : List UInt8} {g : Got} (h : nextT n r = some g) : lexF n (f + 1) p r = (⟨g.kind, p, g.text, g.num⟩, p + g.len) :: lexF n f (p + g.len) (r.drop g.len) := by simp only [lexF, h]
theorem lexL_some {n : Int} {p : Nat} {r : List UInt8} {g : Got} (h : nextT n r = some g) : lexL n p r = (⟨g.kind, p, g.text, g.num⟩, p + g.len) :: lexL n (p + g.len) (r.drop g.len) := by
  have hl := next_len h
  obtain ⟨c, r', rfl⟩ := next_cons h
  have e : lexL n p (c :: r') = lexF n (r'.length + 1) p (c :: r') := rfl
  rw [e, lexF_some h, lexF_more n r'.length (((c :: r').drop g.len).length) _ _ (by rw [List.length_drop]; simp only [List.length_cons] at hl ⊢; omega) (Nat.le_refl _)]
  rfl
def endL (p : Nat) (L : List (Tok × Nat)) : Nat := (L.getLast?.map Prod.snd).getD p
theorem endL_cons (p : Nat) (x : Tok × Nat) (L : List (Tok × Nat)) : endL p (x :: L) = endL x.2 L := by
  unfold endL
  cases L with
  | nil => rfl
  | cons y L => rw [List.getLast?_cons_cons]; cases h : (y :: L).getLast? with
    | none => simp at h
    | some z => rfl
theorem endL_app (p : Nat) (L : List (Tok × Nat)) (x : Tok × Nat) : endL p (L ++ [x]) = x.2 := by
  unfold endL; simp
/-- How far tokens have been told. -/
structure At (n : Int) (s : List UInt8) (pre : List (Tok × Nat)) (p : Nat) : Prop where
  eq : lexL n 0 s = pre ++ lexL n p (s.drop p)
  le : p ≤ s.length
  fin : endL 0 pre = p
  many : pre.length ≤ p
theorem At.start (n : Int) (s : List UInt8) : At n s [] 0 := ⟨by rw [List.drop_zero]; rfl, by omega, rfl, by simp⟩
theorem At.step {n : Int} {s : List UInt8} {pre : List (Tok × Nat)} {p : Nat} {g : Got} (h : At n s pre p) (hg : nextT n (s.drop p) = some g) : At n s (pre ++ [(⟨g.kind, p, g.text, g.num⟩, p + g.len)]) (p + g.len) := by
  have hl := next_len hg
  rw [List.length_drop] at hl
  refine ⟨?_, by have := h.le; omega, endL_app _ _ _, by rw [List.length_append]; have := h.many; simp; omega⟩
  rw [h.eq, lexL_some hg, List.append_assoc, List.drop_drop]; rfl
theorem At.stop {n : Int} {s : List UInt8} {pre : List (Tok × Nat)} {p : Nat} (h : At n s pre p) (hg : nextT n (s.drop p) = none) : lexL n 0 s = pre := by
  rw [h.eq, lexL_none hg, List.append_nil]
theorem At.done {n : Int} {s : List UInt8} {pre : List (Tok × Nat)} (h : At n s pre s.length) : lexL n 0 s = pre := by
  refine h.stop ?_
  rw [List.drop_length]; rfl
/-- What comes next. -/
theorem At.next {n : Int} {s : List UInt8} {pre post : List (Tok × Nat)} {p : Nat} {x : Tok × Nat} (h : At n s pre p) (e : lexL n 0 s = pre ++ x :: post) : ∃ g, nextT n (s.drop p) = some g ∧ x = (⟨g.kind, p, g.text, g.num⟩, p + g.len) := by
  have e1 := h.eq.symm.trans e
  have e2 := List.append_cancel_left e1
  cases hg : nextT n (s.drop p) with
  | none => rw [lexL_none hg] at e2; cases e2
  | some g =>
    rw [lexL_some hg] at e2
    injection e2 with e2 _
    exact ⟨g, rfl, e2.symm⟩
theorem lexL_length (n : Int) : ∀ (k p : Nat) (r : List UInt8), r.length ≤ k → (lexL n p r).length ≤ r.length
  | 0, p, r, h => by
    have : r = [] := List.length_eq_zero_iff.1 (by omega)
    rw [this]; exact Nat.le_refl _
  | k + 1, p, r, h => by
    cases e : nextT n r with
    | none => rw [lexL_none e]; simp
    | some g =>
      have hl := next_len e
      rw [lexL_some e, List.length_cons]
      have := lexL_length n k (p + g.len) (r.drop g.len) (by rw [List.length_drop]; omega)
      rw [List.length_drop] at this
      omega
theorem lex_len (n : Int) (s : List UInt8) : (lexL n 0 s).length ≤ s.length := lexL_length n s.length 0 s (Nat.le_refl _)
/-- Every beginning of what is told has its place. -/
theorem At.of {n : Int} {s : List UInt8} : ∀ (k : Nat), k ≤ (lexL n 0 s).length → ∃ p, At n s ((lexL n 0 s).take k) p
  | 0, _ => ⟨0, by rw [List.take_zero]; exact At.start n s⟩
  | k + 1, hk => by
    obtain ⟨p, hp⟩ := At.of (n := n) (s := s) k (by omega)
    have hx : lexL n 0 s = (lexL n 0 s).take k ++ (lexL n 0 s)[k] :: (lexL n 0 s).drop (k + 1) := by
      rw [← List.drop_eq_getElem_cons (by omega), List.take_append_drop]
    obtain ⟨g, hg, he⟩ := hp.next hx
    refine ⟨p + g.len, ?_⟩
    rw [List.take_succ_eq_append_getElem (by omega), he]
    exact hp.step hg
theorem lex_end (n : Int) (s : List UInt8) : endL 0 (lexL n 0 s) ≤ s.length := by
  obtain ⟨p, hp⟩ := At.of (n := n) (s := s) (lexL n 0 s).length (Nat.le_refl _)
  rw [List.take_length] at hp
  rw [hp.fin]; exact hp.le

end Go.Proofs.YthofogokpolhdaaGreatDoor.Toks
