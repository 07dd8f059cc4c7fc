/-
  Styles, kinds of bytes, raised letters and notes' texts as plain functions. No program in this text.
-/
namespace Go.Proofs.YthofogokpolhdaaGreatDoor.Style
set_option linter.unusedVariables false
set_option linter.unusedSimpArgs false

/-- A style. -/
structure St where
  fold : Bool
  mul : Int
  div : Int
  pow : Int
  op : Int
  cl : Int

/-- P7.1. -/
def stZ (n : Int) : St :=
  if n = 1 then ⟨false, 46, 47, 0, 123, 125⟩ else if n = 2 then ⟨true, 46, 47, 0, 123, 125⟩ else if n = 3 then ⟨false, 42, 47, 94, 60, 62⟩
  else if n = 4 then ⟨true, 46, 47, 0, 0, 0⟩ else if n = 5 then ⟨false, 46, 47, 94, 0, 0⟩ else ⟨false, 0, 0, 0, 0, 0⟩
def isN (n : Int) : Bool := decide (1 ≤ n ∧ n ≤ 5)
/-- All that a style of a notation may be, or of none. -/
theorem st_cases (n : Int) : (n = 1 ∨ n = 2 ∨ n = 3 ∨ n = 4 ∨ n = 5) ∨ ((n < 1 ∨ 5 < n) ∧ stZ n = ⟨false, 0, 0, 0, 0, 0⟩ ∧ isN n = false) := by
  by_cases h : 1 ≤ n ∧ n ≤ 5
  · left; omega
  · right
    refine ⟨by omega, ?_, by unfold isN; exact decide_eq_false h⟩
    unfold stZ
    rw [if_neg (by omega), if_neg (by omega), if_neg (by omega), if_neg (by omega), if_neg (by omega)]

def smallZ (c : Int) : Bool := decide (97 ≤ c ∧ c ≤ 122)
/-- What a byte is by the style alone. -/
def ownZ (s : St) (c : Int) : Int :=
  if c = 0 then 0 else if c = s.mul then 4 else if c = s.div then 5 else if c = s.pow then 6 else if c = s.op then 9 else if c = s.cl then 10 else 0
/-- What a byte is in every notation; 0: that hangs on the style. -/
def allZ (c : Int) : Int :=
  if (65 ≤ c ∧ c ≤ 90) ∨ (97 ≤ c ∧ c ≤ 122) ∨ c = 37 ∨ c = 39 ∨ c = 95 ∨ c = 91 ∨ c = 93 then 1 else if 48 ≤ c ∧ c ≤ 57 then 2 else if c = 43 ∨ c = 45 then 3 else if c = 40 then 7 else if c = 41 then 8 else 0
/-- P7.2. -/
def kindZ (n c : Int) : Int := if isN n then (if allZ c = 0 then ownZ (stZ n) c else allZ c) else 0

/-- A byte, raised. -/
def up1 (f : Bool) (c : UInt8) : UInt8 := if f && smallZ (c.toNat : Int) then c - 32 else c
/-- P7.3. -/
def upL (f : Bool) (s : List UInt8) : List UInt8 := s.map (up1 f)
def fineZ (x : St) (c : Int) : Bool := decide (32 ≤ c ∧ c ≤ 126) && (!(c == x.op) && !(c == x.cl))
def fineL (x : St) (s : List UInt8) : Bool := s.all fun c => fineZ x (c.toNat : Int)
def plainL (x : St) (s : List UInt8) : Bool := !(x.op == 0) && fineL x s

theorem fine_app (x : St) (s t : List UInt8) : fineL x (s ++ t) = (fineL x s && fineL x t) := by unfold fineL; rw [List.all_append]
theorem plain_app (x : St) (s t : List UInt8) : plainL x (s ++ t) = (plainL x s && plainL x t) := by
  unfold plainL
  rw [fine_app]
  cases (x.op == 0) <;> simp
theorem getD_at (s : List UInt8) (k : Nat) (hk : k < s.length) : s.getD k 0 = s[k] := by
  rw [List.getD_eq_getElem?_getD, List.getElem?_eq_getElem hk]; rfl
theorem fine_succ (x : St) (s : List UInt8) (k : Nat) (hk : k < s.length) : fineL x (s.take (k + 1)) = (fineL x (s.take k) && fineZ x ((s.getD k 0).toNat : Int)) := by
  unfold fineL
  rw [getD_at s k hk, List.take_succ_eq_append_getElem hk, List.all_append]
  simp
theorem fine_stop (x : St) (s : List UInt8) (k : Nat) (hk : k < s.length) (h : fineZ x ((s.getD k 0).toNat : Int) = false) : fineL x s = false := by
  unfold fineL
  rw [List.all_eq_false]
  rw [getD_at s k hk] at h
  exact ⟨s[k], List.getElem_mem hk, by simpa using h⟩

theorem u8_all (p : UInt8 → Bool) (h : (List.range 256).all (fun i => p (UInt8.ofNat i)) = true) (c : UInt8) : p c = true := by
  have := List.all_eq_true.1 h c.toNat (List.mem_range.2 (UInt8.toNat_lt c))
  rwa [UInt8.ofNat_toNat] at this

theorem up1_up1 (f : Bool) (c : UInt8) : up1 f (up1 f c) = up1 f c := by
  have := u8_all (fun c => decide (up1 f (up1 f c) = up1 f c)) (by cases f <;> decide +kernel) c
  simpa using this
theorem up1_no (c : UInt8) : up1 false c = c := rfl
theorem up1_small (c : UInt8) (h : smallZ (c.toNat : Int) = true) : up1 true c ≠ c := by
  have := u8_all (fun c => !smallZ (c.toNat : Int) || !decide (up1 true c = c)) (by decide +kernel) c
  simpa [h] using this
theorem up1_other (f : Bool) (c : UInt8) (h : smallZ (c.toNat : Int) = false) : up1 f c = c := by
  unfold up1; rw [h]; simp
theorem kind_up1 (f : Bool) (n : Int) (c : UInt8) : kindZ n ((up1 f c).toNat : Int) = kindZ n (c.toNat : Int) := by
  have := u8_all (fun c => decide (allZ ((up1 f c).toNat : Int) = allZ (c.toNat : Int) ∧ (allZ (c.toNat : Int) = 0 → up1 f c = c))) (by cases f <;> decide +kernel) c
  simp only [decide_eq_true_eq] at this
  unfold kindZ
  rw [this.1]
  by_cases h : allZ (c.toNat : Int) = 0
  · rw [if_pos h, if_pos h, this.2 h]
  · rw [if_neg h, if_neg h]
theorem upL_length (f : Bool) (s : List UInt8) : (upL f s).length = s.length := List.length_map _
theorem upL_no (s : List UInt8) : upL false s = s := by unfold upL; rw [show (up1 false) = id from funext fun c => rfl, List.map_id]
theorem upL_upL (f : Bool) (s : List UInt8) : upL f (upL f s) = upL f s := by
  unfold upL
  rw [List.map_map]
  exact List.map_congr_left fun c _ => up1_up1 f c

end Go.Proofs.YthofogokpolhdaaGreatDoor.Style
