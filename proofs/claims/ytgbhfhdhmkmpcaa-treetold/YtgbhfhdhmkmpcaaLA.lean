/-
  Leaves, and what is told of steps, as plain functions. No program in this text.
-/
import Derived.Test.YtgbhfhdhmkmpcaaUA
namespace Go.Proofs.Ytgbhfhdhmkmpcaa.Trees
set_option linter.unusedVariables false
set_option linter.unusedSimpArgs false

/-- How many steps do so. -/
def cnt (p : Int → Bool) (L : List Stp) : Nat := L.countP fun x => p x.op
def isLeaf (o : Int) : Bool := decide (o = 1 ∨ o = 2 ∨ o = 7)
def isTwo (o : Int) : Bool := decide (o = 3 ∨ o = 4)
def isAlone (o : Int) : Bool := decide (o = 7)
theorem cnt_app2 (p : Int → Bool) (a b : List Stp) : cnt p (a ++ b) = cnt p a + cnt p b := List.countP_append
theorem cnt_single (p : Int → Bool) (x : Stp) : cnt p [x] = if p x.op = true then 1 else 0 := by
  unfold cnt; simp [List.countP_cons]
theorem cnt_cons (p : Int → Bool) (x : Stp) (r : List Stp) : cnt p (x :: r) = (if p x.op = true then 1 else 0) + cnt p r := by
  unfold cnt; rw [List.countP_cons]; omega
theorem cntp_le (p : Int → Bool) (L : List Stp) : cnt p L ≤ L.length := List.countP_le_length
theorem cnt_take (p : Int → Bool) (L : List Stp) {i : Nat} (hi : i < L.length) : cnt p (L.take (i + 1)) = cnt p (L.take i) + if p (L.getD i default).op = true then 1 else 0 := by
  have h : L.getD i default = L[i] := by rw [List.getD_eq_getElem?_getD, List.getElem?_eq_getElem hi]; rfl
  rw [List.take_succ_eq_append_getElem hi, cnt_app2, cnt_single, h]
/-- A tree has one leaf more than steps that take two. -/
theorem leaves_twos (ok : Int → Int → Bool) : ∀ t : Tr, t.good ok → cnt isLeaf t.flat = cnt isTwo t.flat + 1
  | .leaf x, h => by
    have h1 := may_op h.1
    have h2 := h.2
    simp only [Tr.flat, cnt_single]
    unfold takesZ at h2
    unfold isLeaf isTwo
    have : x.op = 1 ∨ x.op = 2 ∨ x.op = 7 := by
      repeat' split at h2
      all_goals omega
    rcases this with e | e | e <;> rw [e] <;> rfl
  | .one x a, h => by
    have ih := leaves_twos ok a h.2
    have h2 := h.1.2
    simp only [Tr.flat, cnt_app2, cnt_single, ih]
    unfold takesZ at h2
    unfold isLeaf isTwo
    have : x.op = 5 ∨ x.op = 6 := by
      repeat' split at h2
      all_goals omega
    rcases this with e | e <;> rw [e] <;> simp
  | .two x a b, h => by
    have iha := leaves_twos ok a h.2.1
    have ihb := leaves_twos ok b h.2.2
    have h2 := h.1.2
    simp only [Tr.flat, cnt_app2, cnt_single, iha, ihb]
    unfold takesZ at h2
    unfold isLeaf isTwo
    have : x.op = 3 ∨ x.op = 4 := by
      repeat' split at h2
      all_goals omega
    rcases this with e | e <;> rw [e] <;> simp <;> omega
theorem cnt_mono {p q : Int → Bool} (h : ∀ o, p o = true → q o = true) (L : List Stp) : cnt p L ≤ cnt q L :=
  List.countP_mono_left fun x _ hx => h _ hx
theorem cnt_both {p q r : Int → Bool} (hp : ∀ o, p o = true → r o = true) (hq : ∀ o, q o = true → r o = true) (hpq : ∀ o, p o = true → q o = true → False) : ∀ L : List Stp, cnt p L + cnt q L ≤ cnt r L
  | [] => Nat.le_refl _
  | x :: l => by
    have ih := cnt_both hp hq hpq l
    rw [cnt_cons, cnt_cons, cnt_cons]
    have h1 := hp x.op
    have h2 := hq x.op
    have h3 := hpq x.op
    cases e1 : p x.op <;> cases e2 : q x.op <;> cases e3 : r x.op <;> simp_all <;> omega

/-- Steps that do one of these, with their places. -/
def thoseL (ops : List Int) : Nat → List Stp → List (Nat × Stp)
  | _, [] => []
  | i, x :: r => if ops.contains x.op = true then (i, x) :: thoseL ops (i + 1) r else thoseL ops (i + 1) r
theorem those_len (ops : List Int) : ∀ (L : List Stp) (i : Nat), (thoseL ops i L).length = cnt ops.contains L
  | [], _ => rfl
  | x :: r, i => by
    rw [cnt_cons]
    unfold thoseL
    split
    · rw [List.length_cons, those_len ops r]; omega
    · rw [those_len ops r]; omega
theorem those_yes {ops : List Int} {L : List Stp} {i : Nat} (hi : i < L.length) (h : ops.contains (L.getD i default).op = true) : thoseL ops i (L.drop i) = (i, L.getD i default) :: thoseL ops (i + 1) (L.drop (i + 1)) := by
  have e : L.getD i default = L[i] := by rw [List.getD_eq_getElem?_getD, List.getElem?_eq_getElem hi]; rfl
  rw [e] at h ⊢
  rw [List.drop_eq_getElem_cons hi, thoseL, if_pos h]
theorem those_no {ops : List Int} {L : List Stp} {i : Nat} (hi : i < L.length) (h : ops.contains (L.getD i default).op = false) : thoseL ops i (L.drop i) = thoseL ops (i + 1) (L.drop (i + 1)) := by
  have e : L.getD i default = L[i] := by rw [List.getD_eq_getElem?_getD, List.getElem?_eq_getElem hi]; rfl
  rw [e] at h
  rw [List.drop_eq_getElem_cons hi, thoseL, if_neg (by rw [h]; simp)]
theorem those_end (ops : List Int) (L : List Stp) : thoseL ops L.length (L.drop L.length) = [] := by rw [List.drop_length]; rfl

end Go.Proofs.Ytgbhfhdhmkmpcaa.Trees
