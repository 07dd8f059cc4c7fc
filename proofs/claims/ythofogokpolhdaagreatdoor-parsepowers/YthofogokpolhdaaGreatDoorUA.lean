/-
  Steps and trees as plain functions. No program in this text.
-/
import Derived.Test.YthofogokpolhdaaGreatDoorYM
namespace Go.Proofs.YthofogokpolhdaaGreatDoor.Trees
set_option linter.unusedVariables false
set_option linter.unusedSimpArgs false

/-- A step. -/
structure Stp where
  op : Int
  pf : Int
  atom : Int
  n : Int
  num : Int
  text : List UInt8
  deriving DecidableEq, Inhabited

def takesZ (op : Int) : Nat := if op = 3 ∨ op = 4 then 2 else if op = 5 ∨ op = 6 then 1 else 0
def fineT (t : List UInt8) : Bool := t.all fun c => decide (32 ≤ (c.toNat : Int) ∧ (c.toNat : Int) ≤ 126)
/-- A step may be; ok: which prefix and atom may stand together. -/
def mayZ (ok : Int → Int → Bool) (x : Stp) : Bool :=
  if x.op = 1 then decide (1 ≤ x.num) && decide (x.pf = -1 ∧ x.atom = 0 ∧ x.n = 0 ∧ x.text = [])
  else if x.op = 2 then (ok x.pf x.atom && decide (-99 ≤ x.n ∧ x.n ≤ 99)) && decide (x.num = 0 ∧ x.text = [])
  else if x.op = 3 ∨ x.op = 4 ∨ x.op = 5 then decide (x.pf = -1 ∧ x.atom = 0 ∧ x.n = 0 ∧ x.num = 0 ∧ x.text = [])
  else if x.op = 6 ∨ x.op = 7 then fineT x.text && decide (x.pf = -1 ∧ x.atom = 0 ∧ x.n = 0 ∧ x.num = 0)
  else false
/-- Gone through, from k trees on: how many stand there; none: a step may not be, or lacks trees. -/
def cntZ (ok : Int → Int → Bool) : List Stp → Nat → Option Nat
  | [], k => some k
  | x :: r, k => if mayZ ok x = true ∧ takesZ x.op ≤ k then cntZ ok r (k - takesZ x.op + 1) else none
/-- P9.1. -/
def soundZ (ok : Int → Int → Bool) (L : List Stp) : Bool := decide (L.length ≤ 255) && (cntZ ok L 0 == some 1)

theorem takes_le (op : Int) : takesZ op ≤ 2 := by unfold takesZ; split <;> (try split) <;> omega
theorem may_op {ok : Int → Int → Bool} {x : Stp} (h : mayZ ok x = true) : 1 ≤ x.op ∧ x.op ≤ 7 := by
  unfold mayZ at h
  repeat' split at h
  all_goals first | omega | cases h
theorem cnt_app (ok : Int → Int → Bool) : ∀ (a b : List Stp) (k : Nat), cntZ ok (a ++ b) k = (cntZ ok a k).bind (cntZ ok b)
  | [], _, _ => rfl
  | x :: a, b, k => by
    simp only [List.cons_append, cntZ]
    split
    · exact cnt_app ok a b _
    · rfl
theorem cnt_one (ok : Int → Int → Bool) (x : Stp) (k : Nat) : cntZ ok [x] k = if mayZ ok x = true ∧ takesZ x.op ≤ k then some (k - takesZ x.op + 1) else none := by
  simp only [cntZ]

/-! ### Trees -/

inductive Tr where
  | leaf (x : Stp)
  | one (x : Stp) (a : Tr)
  | two (x : Stp) (a b : Tr)
def Tr.top : Tr → Stp
  | .leaf x => x
  | .one x _ => x
  | .two x _ _ => x
def Tr.flat : Tr → List Stp
  | .leaf x => [x]
  | .one x a => a.flat ++ [x]
  | .two x a b => a.flat ++ b.flat ++ [x]
def Tr.good (ok : Int → Int → Bool) : Tr → Prop
  | .leaf x => mayZ ok x = true ∧ takesZ x.op = 0
  | .one x a => (mayZ ok x = true ∧ takesZ x.op = 1) ∧ a.good ok
  | .two x a b => (mayZ ok x = true ∧ takesZ x.op = 2) ∧ a.good ok ∧ b.good ok
def flats (l : List Tr) : List Stp := (l.map Tr.flat).flatten
theorem flats_app (a b : List Tr) : flats (a ++ b) = flats a ++ flats b := by simp [flats]
theorem flats_one (t : Tr) : flats [t] = t.flat := by simp [flats]
theorem flat_pos : ∀ t : Tr, 1 ≤ t.flat.length
  | .leaf x => by simp [Tr.flat]
  | .one x a => by simp [Tr.flat]
  | .two x a b => by simp [Tr.flat]; omega
/-- A tree is one tree more. -/
theorem cnt_flat (ok : Int → Int → Bool) : ∀ (t : Tr) (k : Nat), t.good ok → cntZ ok t.flat k = some (k + 1)
  | .leaf x, k, h => by
    obtain ⟨h1, h2⟩ := h
    show cntZ ok [x] k = _
    rw [cnt_one, if_pos ⟨h1, by omega⟩, h2]; rfl
  | .one x a, k, h => by
    obtain ⟨⟨h1, h2⟩, h3⟩ := h
    show cntZ ok (a.flat ++ [x]) k = _
    rw [cnt_app, cnt_flat ok a k h3]
    show cntZ ok [x] (k + 1) = _
    rw [cnt_one, if_pos ⟨h1, by omega⟩, h2]; rfl
  | .two x a b, k, h => by
    obtain ⟨⟨h1, h2⟩, h3, h4⟩ := h
    show cntZ ok (a.flat ++ b.flat ++ [x]) k = _
    rw [cnt_app, cnt_app, cnt_flat ok a k h3]
    show (cntZ ok b.flat (k + 1)).bind _ = _
    rw [cnt_flat ok b (k + 1) h4]
    show cntZ ok [x] (k + 1 + 1) = _
    rw [cnt_one, if_pos ⟨h1, by omega⟩, h2]; rfl
theorem cnt_flats (ok : Int → Int → Bool) : ∀ (l : List Tr) (k : Nat), (∀ t ∈ l, t.good ok) → cntZ ok (flats l) k = some (k + l.length)
  | [], k, _ => rfl
  | t :: l, k, h => by
    show cntZ ok (t.flat ++ flats l) k = _
    rw [cnt_app, cnt_flat ok t k (h t (by simp))]
    show cntZ ok (flats l) (k + 1) = _
    rw [cnt_flats ok l (k + 1) (fun u hu => h u (by simp [hu])), List.length_cons]
    congr 1; omega
theorem last_two {α : Type} (l : List α) (h : 2 ≤ l.length) : ∃ l' a b, l = l' ++ [a, b] := by
  rcases List.eq_nil_or_concat l with rfl | ⟨l1, b, rfl⟩
  · simp at h
  · rw [List.concat_eq_append] at h ⊢
    rcases List.eq_nil_or_concat l1 with rfl | ⟨l2, a, rfl⟩
    · simp at h
    · exact ⟨l2, a, b, by simp⟩
/-- What goes through is a row of trees. -/
theorem cnt_trees (ok : Int → Int → Bool) (L : List Stp) : ∀ m, cntZ ok L 0 = some m → ∃ l : List Tr, l.length = m ∧ (∀ t ∈ l, t.good ok) ∧ flats l = L := by
  suffices H : ∀ (n : Nat) (L : List Stp), L.length = n → ∀ m, cntZ ok L 0 = some m → ∃ l : List Tr, l.length = m ∧ (∀ t ∈ l, t.good ok) ∧ flats l = L from H L.length L rfl
  intro n
  induction n with
  | zero =>
    intro L hL m h
    have : L = [] := List.length_eq_zero_iff.1 hL
    subst this
    injection h with h
    exact ⟨[], h, ⟨fun t ht => absurd ht (by simp), rfl⟩⟩
  | succ n ih =>
    intro L hL m h
    rcases List.eq_nil_or_concat L with rfl | ⟨L1, x, rfl⟩
    · cases hL
    · rw [List.concat_eq_append] at h hL ⊢
      rw [cnt_app] at h
      cases e : cntZ ok L1 0 with
      | none => rw [e] at h; cases h
      | some k =>
        rw [e] at h
        have h' : cntZ ok [x] k = some m := h
        rw [cnt_one] at h'
        obtain ⟨l, hl, hg, hf⟩ := ih L1 (by simpa using hL) k e
        split at h'
        · rename_i hc
          injection h' with h'
          have ht := takes_le x.op
          rcases (by omega : takesZ x.op = 0 ∨ takesZ x.op = 1 ∨ takesZ x.op = 2) with e0 | e1 | e2
          · refine ⟨l ++ [.leaf x], by rw [List.length_append]; simp; omega, fun t ht => ?_, by rw [flats_app, flats_one, hf]; rfl⟩
            rcases List.mem_append.1 ht with h1 | h1
            · exact hg t h1
            · simp at h1; subst h1; exact ⟨hc.1, e0⟩
          · rcases List.eq_nil_or_concat l with rfl | ⟨l', a, rfl⟩
            · simp at hl; omega
            · rw [List.concat_eq_append] at hl hg hf
              refine ⟨l' ++ [.one x a], by rw [List.length_append] at hl ⊢; simp at hl ⊢; omega, fun t ht => ?_, ?_⟩
              · rcases List.mem_append.1 ht with h1 | h1
                · exact hg t (List.mem_append.2 (.inl h1))
                · simp at h1; subst h1; exact ⟨⟨hc.1, e1⟩, hg a (by simp)⟩
              · rw [flats_app, flats_one] at hf ⊢
                rw [← hf]
                simp [Tr.flat]
          · obtain ⟨l', a, b, rfl⟩ := last_two l (by omega)
            refine ⟨l' ++ [.two x a b], by rw [List.length_append] at hl ⊢; simp at hl ⊢; omega, fun t ht => ?_, ?_⟩
            · rcases List.mem_append.1 ht with h1 | h1
              · exact hg t (List.mem_append.2 (.inl h1))
              · simp at h1; subst h1; exact ⟨⟨hc.1, e2⟩, hg a (by simp), hg b (by simp)⟩
            · rw [flats_app, flats_one] at *
              rw [← hf]
              simp [Tr.flat, flats]
        · cases h'
/-- Steps are a tree just if one is told by them. -/
theorem sound_tree {ok : Int → Int → Bool} {L : List Stp} (h : soundZ ok L = true) : ∃ t : Tr, t.good ok ∧ t.flat = L ∧ L.length ≤ 255 := by
  unfold soundZ at h
  rw [Bool.and_eq_true, decide_eq_true_eq, beq_iff_eq] at h
  obtain ⟨l, hl, hg, hf⟩ := cnt_trees ok L 1 h.2
  obtain ⟨t, rfl⟩ := List.length_eq_one_iff.1 hl
  exact ⟨t, hg t (by simp), by rw [← hf, flats_one], h.1⟩
theorem tree_sound {ok : Int → Int → Bool} {t : Tr} (h : t.good ok) (hl : t.flat.length ≤ 255) : soundZ ok t.flat = true := by
  unfold soundZ
  rw [Bool.and_eq_true, decide_eq_true_eq, beq_iff_eq]
  exact ⟨hl, cnt_flat ok t 0 h⟩

/-! ### Where the last tree begins -/

/-- Back from the end, with so many trees lacking: how many steps are gone over. -/
def backZ : List Stp → Nat → Nat
  | _, 0 => 0
  | [], _ + 1 => 0
  | x :: r, k + 1 => backZ r (k + takesZ x.op) + 1
theorem back_flat (ok : Int → Int → Bool) : ∀ (t : Tr) (R : List Stp) (k : Nat), t.good ok → backZ (t.flat.reverse ++ R) (k + 1) = backZ R k + t.flat.length
  | .leaf x, R, k, h => by
    show backZ ([x].reverse ++ R) (k + 1) = _ + [x].length
    simp only [List.reverse_cons, List.reverse_nil, List.nil_append, List.cons_append, backZ, h.2]; rfl
  | .one x a, R, k, h => by
    have := back_flat ok a R k h.2
    simp only [Tr.flat, List.reverse_append, List.reverse_cons, List.reverse_nil, List.nil_append, List.cons_append, backZ, h.1.2, this, List.length_append, List.length_cons, List.length_nil]
    omega
  | .two x a b, R, k, h => by
    have hb := back_flat ok b (a.flat.reverse ++ R) (k + 1) h.2.2
    have ha := back_flat ok a R k h.2.1
    simp only [Tr.flat, List.reverse_append, List.reverse_cons, List.reverse_nil, List.nil_append, List.cons_append, List.append_assoc, backZ, h.1.2, List.length_append, List.length_cons, List.length_nil]
    rw [show k + 2 = k + 1 + 1 from rfl, hb, ha]
    omega
/-- Where the last of trees begins. -/
def cutZ (L : List Stp) : Nat := L.length - backZ L.reverse 1
theorem cut_two {ok : Int → Int → Bool} (A : List Stp) {b : Tr} (hb : b.good ok) : cutZ (A ++ b.flat) = A.length := by
  unfold cutZ
  rw [List.reverse_append, back_flat ok b A.reverse 0 hb, List.length_append]
  cases A.reverse <;> simp [backZ]

/-! ### Parts -/

def partsZ (ok : Int → Int → Bool) (L : List Stp) : List Stp × List Stp :=
  if soundZ ok L = true then
    (if takesZ (L.getLastD default).op = 2 then (L.dropLast.take (cutZ L.dropLast), L.dropLast.drop (cutZ L.dropLast))
     else if takesZ (L.getLastD default).op = 1 then ([], L.dropLast) else ([], []))
  else ([], [])
theorem getLast_app (A : List Stp) (x : Stp) : (A ++ [x]).getLastD default = x := by rw [List.getLastD_eq_getLast?]; simp
theorem parts_two {ok : Int → Int → Bool} {x : Stp} {a b : Tr} (h : (Tr.two x a b).good ok) (hl : (Tr.two x a b).flat.length ≤ 255) : partsZ ok (Tr.two x a b).flat = (a.flat, b.flat) := by
  unfold partsZ
  rw [if_pos (tree_sound h hl)]
  simp only [Tr.flat, getLast_app, h.1.2, if_true, List.dropLast_concat]
  rw [cut_two a.flat h.2.2]; simp
theorem parts_one {ok : Int → Int → Bool} {x : Stp} {a : Tr} (h : (Tr.one x a).good ok) (hl : (Tr.one x a).flat.length ≤ 255) : partsZ ok (Tr.one x a).flat = ([], a.flat) := by
  unfold partsZ
  rw [if_pos (tree_sound h hl)]
  simp only [Tr.flat, getLast_app, h.1.2, List.dropLast_concat]; rfl
theorem parts_leaf {ok : Int → Int → Bool} {x : Stp} (h : (Tr.leaf x).good ok) : partsZ ok (Tr.leaf x).flat = ([], []) := by
  unfold partsZ
  rw [if_pos (tree_sound h (by simp [Tr.flat]))]
  simp [Tr.flat, h.2]

/-! ### Brackets -/

/-- Brackets stand around what has that last step, as the right or only side of another one. -/
def brkZ (over op : Int) : Bool := decide (op = 3 ∨ op = 4 ∨ op = 5) || (decide (over = 6) && decide (op = 6 ∨ op = 7))
def inZ (over op : Int) : Nat := if brkZ over op = true then 1 else 0
def Tr.nest : Tr → Nat
  | .leaf _ => 0
  | .one x a => a.nest + inZ x.op a.top.op
  | .two x a b => max a.nest (b.nest + inZ x.op b.top.op)
theorem flat_last : ∀ t : Tr, t.flat.getLastD default = t.top
  | .leaf x => rfl
  | .one x a => getLast_app _ _
  | .two x a b => getLast_app _ _
/-- The shapes of trees, gone through: what is last is first. -/
def shapesZ : List Stp → List (Int × Nat) → List (Int × Nat)
  | [], S => S
  | x :: r, S => shapesZ r (match takesZ x.op, S with
    | 2, b :: a :: S' => (x.op, max a.2 (b.2 + inZ x.op b.1)) :: S'
    | 1, a :: S' => (x.op, a.2 + inZ x.op a.1) :: S'
    | _, S' => (x.op, 0) :: S')
theorem shapes_app : ∀ (a b : List Stp) (S : List (Int × Nat)), shapesZ (a ++ b) S = shapesZ b (shapesZ a S)
  | [], _, _ => rfl
  | x :: a, b, S => by simp only [List.cons_append, shapesZ]; exact shapes_app a b _
theorem shapes_flat (ok : Int → Int → Bool) : ∀ (t : Tr) (S : List (Int × Nat)), t.good ok → shapesZ t.flat S = (t.top.op, t.nest) :: S
  | .leaf x, S, h => by
    simp only [Tr.flat, shapesZ, Tr.nest]
    rw [h.2]; rfl
  | .one x a, S, h => by
    simp only [Tr.flat, shapes_app, shapes_flat ok a S h.2, shapesZ, Tr.nest]
    rw [h.1.2]; rfl
  | .two x a b, S, h => by
    simp only [Tr.flat, shapes_app, shapes_flat ok a S h.2.1, shapes_flat ok b _ h.2.2, shapesZ, Tr.nest]
    rw [h.1.2]; rfl
/-- P9.2. -/
def nestZ (ok : Int → Int → Bool) (L : List Stp) : Int := if soundZ ok L = true then (((shapesZ L []).headD (0, 0)).2 : Int) else -1
theorem nest_tree {ok : Int → Int → Bool} {t : Tr} (h : t.good ok) (hl : t.flat.length ≤ 255) : nestZ ok t.flat = (t.nest : Int) := by
  unfold nestZ
  rw [if_pos (tree_sound h hl), shapes_flat ok t [] h]; rfl

end Go.Proofs.YthofogokpolhdaaGreatDoor.Trees
