/-
  Steps and trees as plain functions. No program in this text. Tokens as plain functions. No program in this text. Reading tokens, as plain functions: what may stand at a place, and what is done with it. No program in this text.
-/
import Derived.Test.YthofogokpolhdaaGreatDoorYM
import Derived.Test.YthofogokpolhdaaGreatDoorTM
namespace Go.Proofs.YthofogokpolhdaaGreatDoor.Trees
set_option linter.unusedVariables false
set_option linter.unusedSimpArgs false

/-- A step. -/
structure Stp where
  op : Int
  pf : Int
  atom : Int
  n : Int
  num : Int
  text : List UInt8
  deriving DecidableEq, Inhabited

def takesZ (op : Int) : Nat := if op = 3 ∨ op = 4 then 2 else if op = 5 ∨ op = 6 then 1 else 0
def fineT (t : List UInt8) : Bool := t.all fun c => decide (32 ≤ (c.toNat : Int) ∧ (c.toNat : Int) ≤ 126)
/-- A step may be; ok: which prefix and atom may stand together. -/
def mayZ (ok : Int → Int → Bool) (x : Stp) : Bool :=
  if x.op = 1 then decide (1 ≤ x.num) && decide (x.pf = -1 ∧ x.atom = 0 ∧ x.n = 0 ∧ x.text = [])
  else if x.op = 2 then (ok x.pf x.atom && decide (-99 ≤ x.n ∧ x.n ≤ 99)) && decide (x.num = 0 ∧ x.text = [])
  else if x.op = 3 ∨ x.op = 4 ∨ x.op = 5 then decide (x.pf = -1 ∧ x.atom = 0 ∧ x.n = 0 ∧ x.num = 0 ∧ x.text = [])
  else if x.op = 6 ∨ x.op = 7 then fineT x.text && decide (x.pf = -1 ∧ x.atom = 0 ∧ x.n = 0 ∧ x.num = 0)
  else false
/-- Gone through, from k trees on: how many stand there; none: a step may not be, or lacks trees. -/
def cntZ (ok : Int → Int → Bool) : List Stp → Nat → Option Nat
  | [], k => some k
  | x :: r, k => if mayZ ok x = true ∧ takesZ x.op ≤ k then cntZ ok r (k - takesZ x.op + 1) else none
/-- P9.1. -/
def soundZ (ok : Int → Int → Bool) (L : List Stp) : Bool := decide (L.length ≤ 255) && (cntZ ok L 0 == some 1)

theorem takes_le (op : Int) : takesZ op ≤ 2 := by unfold takesZ; split <;> (try split) <;> omega
theorem may_op {ok : Int → Int → Bool} {x : Stp} (h : mayZ ok x = true) : 1 ≤ x.op ∧ x.op ≤ 7 := by
  unfold mayZ at h
  repeat' split at h
  all_goals first | omega | cases h
theorem cnt_app (ok : Int → Int → Bool) : ∀ (a b : List Stp) (k : Nat), cntZ ok (a ++ b) k = (cntZ ok a k).bind (cntZ ok b)
  | [], _, _ => rfl
  | x :: a, b, k => by
    simp only [List.cons_append, cntZ]
    split
    · exact cnt_app ok a b _
    · rfl
theorem cnt_one (ok : Int → Int → Bool) (x : Stp) (k : Nat) : cntZ ok [x] k = if mayZ ok x = true ∧ takesZ x.op ≤ k then some (k - takesZ x.op + 1) else none := by
  simp only [cntZ]

/-! ### Trees -/

inductive Tr where
  | leaf (x : Stp)
  | one (x : Stp) (a : Tr)
  | two (x : Stp) (a b : Tr)
def Tr.top : Tr → Stp
  | .leaf x => x
  | .one x _ => x
  | .two x _ _ => x
def Tr.flat : Tr → List Stp
  | .leaf x => [x]
  | .one x a => a.flat ++ [x]
  | .two x a b => a.flat ++ b.flat ++ [x]
def Tr.good (ok : Int → Int → Bool) : Tr → Prop
  | .leaf x => mayZ ok x = true ∧ takesZ x.op = 0
  | .one x a => (mayZ ok x = true ∧ takesZ x.op = 1) ∧ a.good ok
  | .two x a b => (mayZ ok x = true ∧ takesZ x.op = 2) ∧ a.good ok ∧ b.good ok
def flats (l : List Tr) : List Stp := (l.map Tr.flat).flatten
theorem flats_app (a b : List Tr) : flats (a ++ b) = flats a ++ flats b := by simp [flats]
theorem flats_one (t : Tr) : flats [t] = t.flat := by simp [flats]
theorem flat_pos : ∀ t : Tr, 1 ≤ t.flat.length
  | .leaf x => by simp [Tr.flat]
  | .one x a => by simp [Tr.flat]
  | .two x a b => by simp [Tr.flat]; omega
/-- A tree is one tree more. -/
theorem cnt_flat (ok : Int → Int → Bool) : ∀ (t : Tr) (k : Nat), t.good ok → cntZ ok t.flat k = some (k + 1)
  | .leaf x, k, h => by
    obtain ⟨h1, h2⟩ := h
    show cntZ ok [x] k = _
    rw [cnt_one, if_pos ⟨h1, by omega⟩, h2]; rfl
  | .one x a, k, h => by
    obtain ⟨⟨h1, h2⟩, h3⟩ := h
    show cntZ ok (a.flat ++ [x]) k = _
    rw [cnt_app, cnt_flat ok a k h3]
    show cntZ ok [x] (k + 1) = _
    rw [cnt_one, if_pos ⟨h1, by omega⟩, h2]; rfl
  | .two x a b, k, h => by
    obtain ⟨⟨h1, h2⟩, h3, h4⟩ := h
    show cntZ ok (a.flat ++ b.flat ++ [x]) k = _
    rw [cnt_app, cnt_app, cnt_flat ok a k h3]
    show (cntZ ok b.flat (k + 1)).bind _ = _
    rw [cnt_flat ok b (k + 1) h4]
    show cntZ ok [x] (k + 1 + 1) = _
    rw [cnt_one, if_pos ⟨h1, by omega⟩, h2]; rfl
theorem cnt_flats (ok : Int → Int → Bool) : ∀ (l : List Tr) (k : Nat), (∀ t ∈ l, t.good ok) → cntZ ok (flats l) k = some (k + l.length)
  | [], k, _ => rfl
  | t :: l, k, h => by
    show cntZ ok (t.flat ++ flats l) k = _
    rw [cnt_app, cnt_flat ok t k (h t (by simp))]
    show cntZ ok (flats l) (k + 1) = _
    rw [cnt_flats ok l (k + 1) (fun u hu => h u (by simp [hu])), List.length_cons]
    congr 1; omega
theorem last_two {α : Type} (l : List α) (h : 2 ≤ l.length) : ∃ l' a b, l = l' ++ [a, b] := by
  rcases List.eq_nil_or_concat l with rfl | ⟨l1, b, rfl⟩
  · simp at h
  · rw [List.concat_eq_append] at h ⊢
    rcases List.eq_nil_or_concat l1 with rfl | ⟨l2, a, rfl⟩
    · simp at h
    · exact ⟨l2, a, b, by simp⟩
/-- What goes through is a row of trees. -/
theorem cnt_trees (ok : Int → Int → Bool) (L : List Stp) : ∀ m, cntZ ok L 0 = some m → ∃ l : List Tr, l.length = m ∧ (∀ t ∈ l, t.good ok) ∧ flats l = L := by
  suffices H : ∀ (n : Nat) (L : List Stp), L.length = n → ∀ m, cntZ ok L 0 = some m → ∃ l : List Tr, l.length = m ∧ (∀ t ∈ l, t.good ok) ∧ flats l = L from H L.length L rfl
  intro n
  induction n with
  | zero =>
    intro L hL m h
    have : L = [] := List.length_eq_zero_iff.1 hL
    subst this
    injection h with h
    exact ⟨[], h, ⟨fun t ht => absurd ht (by simp), rfl⟩⟩
  | succ n ih =>
    intro L hL m h
    rcases List.eq_nil_or_concat L with rfl | ⟨L1, x, rfl⟩
    · cases hL
    · rw [List.concat_eq_append] at h hL ⊢
      rw [cnt_app] at h
      cases e : cntZ ok L1 0 with
      | none => rw [e] at h; cases h
      | some k =>
        rw [e] at h
        have h' : cntZ ok [x] k = some m := h
        rw [cnt_one] at h'
        obtain ⟨l, hl, hg, hf⟩ := ih L1 (by simpa using hL) k e
        split at h'
        · rename_i hc
          injection h' with h'
          have ht := takes_le x.op
          rcases (by omega : takesZ x.op = 0 ∨ takesZ x.op = 1 ∨ takesZ x.op = 2) with e0 | e1 | e2
          · refine ⟨l ++ [.leaf x], by rw [List.length_append]; simp; omega, fun t ht => ?_, by rw [flats_app, flats_one, hf]; rfl⟩
            rcases List.mem_append.1 ht with h1 | h1
            · exact hg t h1
            · simp at h1; subst h1; exact ⟨hc.1, e0⟩
          · rcases List.eq_nil_or_concat l with rfl | ⟨l', a, rfl⟩
            · simp at hl; omega
            · rw [List.concat_eq_append] at hl hg hf
              refine ⟨l' ++ [.one x a], by rw [List.length_append] at hl ⊢; simp at hl ⊢; omega, fun t ht => ?_, ?_⟩
              · rcases List.mem_append.1 ht with h1 | h1
                · exact hg t (List.mem_append.2 (.inl h1))
                · simp at h1; subst h1; exact ⟨⟨hc.1, e1⟩, hg a (by simp)⟩
              · rw [flats_app, flats_one] at hf ⊢
                rw [← hf]
                simp [Tr.flat]
          · obtain ⟨l', a, b, rfl⟩ := last_two l (by omega)
            refine ⟨l' ++ [.two x a b], by rw [List.length_append] at hl ⊢; simp at hl ⊢; omega, fun t ht => ?_, ?_⟩
            · rcases List.mem_append.1 ht with h1 | h1
              · exact hg t (List.mem_append.2 (.inl h1))
              · simp at h1; subst h1; exact ⟨⟨hc.1, e2⟩, hg a (by simp), hg b (by simp)⟩
            · rw [flats_app, flats_one] at *
              rw [← hf]
              simp [Tr.flat, flats]
        · cases h'
/-- Steps are a tree just if one is told by them. -/
theorem sound_tree {ok : Int → Int → Bool} {L : List Stp} (h : soundZ ok L = true) : ∃ t : Tr, t.good ok ∧ t.flat = L ∧ L.length ≤ 255 := by
  unfold soundZ at h
  rw [Bool.and_eq_true, decide_eq_true_eq, beq_iff_eq] at h
  obtain ⟨l, hl, hg, hf⟩ := cnt_trees ok L 1 h.2
  obtain ⟨t, rfl⟩ := List.length_eq_one_iff.1 hl
  exact ⟨t, hg t (by simp), by rw [← hf, flats_one], h.1⟩
theorem tree_sound {ok : Int → Int → Bool} {t : Tr} (h : t.good ok) (hl : t.flat.length ≤ 255) : soundZ ok t.flat = true := by
  unfold soundZ
  rw [Bool.and_eq_true, decide_eq_true_eq, beq_iff_eq]
  exact ⟨hl, cnt_flat ok t 0 h⟩

/-! ### Where the last tree begins -/

/-- Back from the end, with so many trees lacking: how many steps are gone over. -/
def backZ : List Stp → Nat → Nat
  | _, 0 => 0
  | [], _ + 1 => 0
  | x :: r, k + 1 => backZ r (k + takesZ x.op) + 1
theorem back_flat (ok : Int → Int → Bool) : ∀ (t : Tr) (R : List Stp) (k : Nat), t.good ok → backZ (t.flat.reverse ++ R) (k + 1) = backZ R k + t.flat.length
  | .leaf x, R, k, h => by
    show backZ ([x].reverse ++ R) (k + 1) = _ + [x].length
    simp only [List.reverse_cons, List.reverse_nil, List.nil_append, List.cons_append, backZ, h.2]; rfl
  | .one x a, R, k, h => by
    have := back_flat ok a R k h.2
    simp only [Tr.flat, List.reverse_append, List.reverse_cons, List.reverse_nil, List.nil_append, List.cons_append, backZ, h.1.2, this, List.length_append, List.length_cons, List.length_nil]
    omega
  | .two x a b, R, k, h => by
    have hb := back_flat ok b (a.flat.reverse ++ R) (k + 1) h.2.2
    have ha := back_flat ok a R k h.2.1
    simp only [Tr.flat, List.reverse_append, List.reverse_cons, List.reverse_nil, List.nil_append, List.cons_append, List.append_assoc, backZ, h.1.2, List.length_append, List.length_cons, List.length_nil]
    rw [show k + 2 = k + 1 + 1 from rfl, hb, ha]
    omega
/-- Where the last of trees begins. -/
def cutZ (L : List Stp) : Nat := L.length - backZ L.reverse 1
theorem cut_two {ok : Int → Int → Bool} (A : List Stp) {b : Tr} (hb : b.good ok) : cutZ (A ++ b.flat) = A.length := by
  unfold cutZ
  rw [List.reverse_append, back_flat ok b A.reverse 0 hb, List.length_append]
  cases A.reverse <;> simp [backZ]

/-! ### Parts -/

def partsZ (ok : Int → Int → Bool) (L : List Stp) : List Stp × List Stp :=
  if soundZ ok L = true then
    (if takesZ (L.getLastD default).op = 2 then (L.dropLast.take (cutZ L.dropLast), L.dropLast.drop (cutZ L.dropLast))
     else if takesZ (L.getLastD default).op = 1 then ([], L.dropLast) else ([], []))
  else ([], [])
theorem getLast_app (A : List Stp) (x : Stp) : (A ++ [x]).getLastD default = x := by rw [List.getLastD_eq_getLast?]; simp
theorem parts_two {ok : Int → Int → Bool} {x : Stp} {a b : Tr} (h : (Tr.two x a b).good ok) (hl : (Tr.two x a b).flat.length ≤ 255) : partsZ ok (Tr.two x a b).flat = (a.flat, b.flat) := by
  unfold partsZ
  rw [if_pos (tree_sound h hl)]
  simp only [Tr.flat, getLast_app, h.1.2, if_true, List.dropLast_concat]
  rw [cut_two a.flat h.2.2]; simp
theorem parts_one {ok : Int → Int → Bool} {x : Stp} {a : Tr} (h : (Tr.one x a).good ok) (hl : (Tr.one x a).flat.length ≤ 255) : partsZ ok (Tr.one x a).flat = ([], a.flat) := by
  unfold partsZ
  rw [if_pos (tree_sound h hl)]
  simp only [Tr.flat, getLast_app, h.1.2, List.dropLast_concat]; rfl
theorem parts_leaf {ok : Int → Int → Bool} {x : Stp} (h : (Tr.leaf x).good ok) : partsZ ok (Tr.leaf x).flat = ([], []) := by
  unfold partsZ
  rw [if_pos (tree_sound h (by simp [Tr.flat]))]
  simp [Tr.flat, h.2]

/-! ### Brackets -/

/-- Brackets stand around what has that last step, as the right or only side of another one. -/
def brkZ (over op : Int) : Bool := decide (op = 3 ∨ op = 4 ∨ op = 5) || (decide (over = 6) && decide (op = 6 ∨ op = 7))
def inZ (over op : Int) : Nat := if brkZ over op = true then 1 else 0
def Tr.nest : Tr → Nat
  | .leaf _ => 0
  | .one x a => a.nest + inZ x.op a.top.op
  | .two x a b => max a.nest (b.nest + inZ x.op b.top.op)
theorem flat_last : ∀ t : Tr, t.flat.getLastD default = t.top
  | .leaf x => rfl
  | .one x a => getLast_app _ _
  | .two x a b => getLast_app _ _
/-- The shapes of trees, gone through: what is last is first. -/
def shapesZ : List Stp → List (Int × Nat) → List (Int × Nat)
  | [], S => S
  | x :: r, S => shapesZ r (match takesZ x.op, S with
    | 2, b :: a :: S' => (x.op, max a.2 (b.2 + inZ x.op b.1)) :: S'
    | 1, a :: S' => (x.op, a.2 + inZ x.op a.1) :: S'
    | _, S' => (x.op, 0) :: S')
theorem shapes_app : ∀ (a b : List Stp) (S : List (Int × Nat)), shapesZ (a ++ b) S = shapesZ b (shapesZ a S)
  | [], _, _ => rfl
  | x :: a, b, S => by simp only [List.cons_append, shapesZ]; exact shapes_app a b _
theorem shapes_flat (ok : Int → Int → Bool) : ∀ (t : Tr) (S : List (Int × Nat)), t.good ok → shapesZ t.flat S = (t.top.op, t.nest) :: S
  | .leaf x, S, h => by
    simp only [Tr.flat, shapesZ, Tr.nest]
    rw [h.2]; rfl
  | .one x a, S, h => by
    simp only [Tr.flat, shapes_app, shapes_flat ok a S h.2, shapesZ, Tr.nest]
    rw [h.1.2]; rfl
  | .two x a b, S, h => by
    simp only [Tr.flat, shapes_app, shapes_flat ok a S h.2.1, shapes_flat ok b _ h.2.2, shapesZ, Tr.nest]
    rw [h.1.2]; rfl
/-- P9.2. -/
def nestZ (ok : Int → Int → Bool) (L : List Stp) : Int := if soundZ ok L = true then (((shapesZ L []).headD (0, 0)).2 : Int) else -1
theorem nest_tree {ok : Int → Int → Bool} {t : Tr} (h : t.good ok) (hl : t.flat.length ≤ 255) : nestZ ok t.flat = (t.nest : Int) := by
  unfold nestZ
  rw [if_pos (tree_sound h hl), shapes_flat ok t [] h]; rfl

end Go.Proofs.YthofogokpolhdaaGreatDoor.Trees

namespace Go.Proofs.YthofogokpolhdaaGreatDoor.Toks
open Go.Proofs.YthofogokpolhdaaGreatDoor.Style
open Go.Proofs.YthofogokpolhdaaGreatDoor.Texts (val isDig)
set_option linter.unusedVariables false
set_option linter.unusedSimpArgs false

/-- A token. -/
structure Tok where
  kind : Int
  pos : Nat
  text : List UInt8
  num : Int
  deriving DecidableEq, Inhabited
/-- A token without its place, and how many bytes it has. -/
structure Got where
  kind : Int
  text : List UInt8
  num : Int
  len : Nat

def kd (n : Int) (c : UInt8) : Int := kindZ n (c.toNat : Int)
def runL (p : UInt8 → Bool) (r : List UInt8) : Nat := (r.takeWhile p).length
def isK (n k : Int) (c : UInt8) : Bool := kd n c == k
def noC (n : Int) (c : UInt8) : Bool := !(kd n c == 10)
def goL (n k : Int) (r : List UInt8) : Nat := runL (isK n k) r
def offL (n : Int) (r : List UInt8) : Nat := runL (noC n) r

/-- P8.1: the token at a text's beginning. -/
def nextT (n : Int) : List UInt8 → Option Got
  | [] => none
  | c :: r =>
    if kd n c = 0 ∨ kd n c = 10 then none
    else if kd n c = 1 then some ⟨1, upL (stZ n).fold ((c :: r).take (goL n 1 (c :: r))), 0, goL n 1 (c :: r)⟩
    else if kd n c = 2 then (if val 0 ((c :: r).take (goL n 2 (c :: r))) ≤ 9223372036854775807 then some ⟨2, (c :: r).take (goL n 2 (c :: r)), (val 0 ((c :: r).take (goL n 2 (c :: r))) : Int), goL n 2 (c :: r)⟩ else none)
    else if kd n c = 9 then (if offL n r < r.length ∧ plainL (stZ n) (r.take (offL n r)) = true then some ⟨9, r.take (offL n r), 0, offL n r + 2⟩ else none)
    else some ⟨kd n c, [c], 0, 1⟩

/-! ### Runs -/

theorem run_le (p : UInt8 → Bool) : ∀ r, runL p r ≤ r.length := fun r => (List.takeWhile_prefix p).length_le
theorem run_yes {p : UInt8 → Bool} {c : UInt8} (r : List UInt8) (h : p c = true) : runL p (c :: r) = runL p r + 1 := by simp [runL, List.takeWhile_cons, h]
theorem run_no {p : UInt8 → Bool} {c : UInt8} (r : List UInt8) (h : p c = false) : runL p (c :: r) = 0 := by simp [runL, List.takeWhile_cons, h]
theorem run_take (p : UInt8 → Bool) : ∀ r : List UInt8, r.take (runL p r) = r.takeWhile p
  | [] => rfl
  | c :: r => by
    cases h : p c with
    | true => rw [run_yes r h, List.take_succ_cons, run_take p r]; simp [List.takeWhile_cons, h]
    | false => rw [run_no r h]; simp [List.takeWhile_cons, h]
theorem run_all (p : UInt8 → Bool) (r : List UInt8) : ∀ c ∈ r.take (runL p r), p c = true := by
  rw [run_take]
  intro c hc
  exact List.all_eq_true.1 List.all_takeWhile c hc
/-- What stands behind a run is of another kind. -/
theorem run_stop (p : UInt8 → Bool) : ∀ (r : List UInt8) (c : UInt8) (r' : List UInt8), r.drop (runL p r) = c :: r' → p c = false
  | [], c, r', h => by cases h
  | a :: r, c, r', h => by
    cases ha : p a with
    | true =>
      rw [run_yes r ha, List.drop_succ_cons] at h
      exact run_stop p r c r' h
    | false =>
      rw [run_no r ha] at h
      injection h with h1 h2
      rw [← h1]; exact ha
/-- A run of bytes that all are of the kind, and no more behind. -/
theorem run_app (p : UInt8 → Bool) : ∀ (a J : List UInt8), (∀ c ∈ a, p c = true) → (∀ c J', J = c :: J' → p c = false) → runL p (a ++ J) = a.length
  | [], J, _, h => by
    cases J with
    | nil => rfl
    | cons c J' => exact run_no J' (h c J' rfl)
  | c :: a, J, hc, h => by
    rw [List.cons_append, run_yes _ (hc c (by simp)), run_app p a J (fun x hx => hc x (by simp [hx])) h]; rfl
/-- With more behind: the run ends where it ended. -/
theorem run_more (p : UInt8 → Bool) (t : List UInt8) : ∀ r : List UInt8, (runL p r < r.length ∨ ∀ c t', t = c :: t' → p c = false) → runL p (r ++ t) = runL p r
  | [], h => by
    rcases h with h | h
    · exact absurd h (by simp)
    · exact run_app p [] t (fun c hc => by cases hc) h
  | c :: r, h => by
    rw [List.cons_append]
    cases hc : p c with
    | true =>
      rw [run_yes _ hc, run_yes _ hc, run_more p t r]
      rcases h with h | h
      · left; rw [run_yes _ hc] at h; simp only [List.length_cons] at h; omega
      · exact .inr h
    | false => rw [run_no _ hc, run_no _ hc]
theorem run_succ (p : UInt8 → Bool) (r : List UInt8) (k : Nat) (h : k ≤ runL p r) (hk : k < r.length) : (p (r.getD k 0) = true ↔ k < runL p r) := by
  constructor
  · intro hp
    rcases Nat.lt_or_ge k (runL p r) with h1 | h1
    · exact h1
    · have he : k = runL p r := by omega
      have hd : r.drop (runL p r) = r.getD k 0 :: r.drop (runL p r + 1) := by
        rw [← he, getD_at r k hk]
        exact (List.drop_eq_getElem_cons hk)
      have := run_stop p r _ _ hd
      rw [this] at hp; cases hp
  · intro h1
    have := run_all p r (r.getD k 0) (by
      rw [getD_at r k hk, List.mem_take_iff_getElem]
      exact ⟨k, by omega, rfl⟩)
    exact this

/-! ### Kinds -/

theorem all_vals (c : Int) : allZ c = 0 ∨ allZ c = 1 ∨ allZ c = 2 ∨ allZ c = 3 ∨ allZ c = 7 ∨ allZ c = 8 := by
  unfold allZ; repeat' split
  all_goals omega
theorem own_vals (s : St) (c : Int) : ownZ s c = 0 ∨ ownZ s c = 4 ∨ ownZ s c = 5 ∨ ownZ s c = 6 ∨ ownZ s c = 9 ∨ ownZ s c = 10 := by
  unfold ownZ; repeat' split
  all_goals omega
theorem kd_vals (n : Int) (c : UInt8) : 0 ≤ kd n c ∧ kd n c ≤ 10 := by
  unfold kd kindZ
  have h1 := all_vals (c.toNat : Int)
  have h2 := own_vals (stZ n) (c.toNat : Int)
  split
  · split <;> omega
  · omega
theorem kd_isN {n : Int} {c : UInt8} (h : kd n c ≠ 0) : isN n = true := by
  unfold kd kindZ at h
  cases e : isN n with
  | true => rfl
  | false => rw [e] at h; exact absurd rfl h
/-- Open, and Close. -/
theorem kd_op {n : Int} {c : UInt8} (h : kd n c = 9) : (c.toNat : Int) = (stZ n).op ∧ (stZ n).op ≠ 0 := by
  have hn := kd_isN (n := n) (c := c) (by omega)
  unfold kd kindZ at h
  rw [hn] at h
  have h1 := all_vals (c.toNat : Int)
  simp only [if_true] at h
  split at h
  · unfold ownZ at h
    repeat' split at h
    all_goals first | omega | skip
  · omega
theorem kd_cl {n : Int} {c : UInt8} (h : kd n c = 10) : (c.toNat : Int) = (stZ n).cl := by
  have hn := kd_isN (n := n) (c := c) (by omega)
  unfold kd kindZ at h
  rw [hn] at h
  have h1 := all_vals (c.toNat : Int)
  simp only [if_true] at h
  split at h
  · unfold ownZ at h
    repeat' split at h
    all_goals first | omega | skip
  · omega
theorem st_notes {n : Int} (h : (stZ n).op ≠ 0) : ((n = 1 ∨ n = 2) ∧ (stZ n).op = 123 ∧ (stZ n).cl = 125) ∨ (n = 3 ∧ (stZ n).op = 60 ∧ (stZ n).cl = 62) := by
  rcases st_cases n with (rfl | rfl | rfl | rfl | rfl) | ⟨_, e, _⟩
  · exact .inl ⟨by omega, rfl, rfl⟩
  · exact .inl ⟨by omega, rfl, rfl⟩
  · exact .inr ⟨rfl, rfl, rfl⟩
  · exact absurd rfl h
  · exact absurd rfl h
  · rw [e] at h; exact absurd rfl h
/-- Where notes are, the byte Close alone is of its kind. -/
theorem cl_kd {n : Int} (h : (stZ n).op ≠ 0) (c : UInt8) : (kd n c = 10 ↔ (c.toNat : Int) = (stZ n).cl) := by
  refine ⟨kd_cl, fun hc => ?_⟩
  have h1 : c = UInt8.ofNat c.toNat := (UInt8.ofNat_toNat).symm
  rcases st_notes h with ⟨hn, h2, h3⟩ | ⟨rfl, h2, h3⟩
  · rw [h3] at hc
    have : c.toNat = 125 := by omega
    rw [h1, this]
    rcases hn with rfl | rfl <;> rfl
  · rw [h3] at hc
    have : c.toNat = 62 := by omega
    rw [h1, this]
    rfl
theorem kd_up1 (f : Bool) (n : Int) (c : UInt8) : kd n (up1 f c) = kd n c := kind_up1 f n c
theorem dig_of {n : Int} {c : UInt8} (h : kd n c = 2) : isDig c := by
  have hn := kd_isN (n := n) (c := c) (by omega)
  unfold kd kindZ at h
  rw [hn] at h
  simp only [if_true] at h
  have h1 := own_vals (stZ n) (c.toNat : Int)
  split at h
  · omega
  · unfold allZ at h
    unfold isDig
    repeat' split at h
    all_goals omega

/-! ### One token -/

theorem next_cases {n : Int} {c : UInt8} {r : List UInt8} {g : Got} (h : nextT n (c :: r) = some g) :
    (kd n c = 1 ∧ g = ⟨1, upL (stZ n).fold ((c :: r).take (goL n 1 (c :: r))), 0, goL n 1 (c :: r)⟩)
    ∨ (kd n c = 2 ∧ val 0 ((c :: r).take (goL n 2 (c :: r))) ≤ 9223372036854775807 ∧ g = ⟨2, (c :: r).take (goL n 2 (c :: r)), (val 0 ((c :: r).take (goL n 2 (c :: r))) : Int), goL n 2 (c :: r)⟩)
    ∨ (kd n c = 9 ∧ (offL n r < r.length ∧ plainL (stZ n) (r.take (offL n r)) = true) ∧ g = ⟨9, r.take (offL n r), 0, offL n r + 2⟩)
    ∨ ((kd n c ≠ 0 ∧ kd n c ≠ 10 ∧ kd n c ≠ 1 ∧ kd n c ≠ 2 ∧ kd n c ≠ 9) ∧ g = ⟨kd n c, [c], 0, 1⟩) := by
  simp only [nextT] at h
  split at h
  · cases h
  · split at h
    · injection h with h; exact .inl ⟨by assumption, h.symm⟩
    · split at h
      · split at h
        · injection h with h; exact .inr (.inl ⟨by assumption, by assumption, h.symm⟩)
        · cases h
      · split at h
        · split at h
          · injection h with h; exact .inr (.inr (.inl ⟨by assumption, by assumption, h.symm⟩))
          · cases h
        · injection h with h; exact .inr (.inr (.inr ⟨by omega, h.symm⟩))
theorem next_cons {n : Int} {r : List UInt8} {g : Got} (h : nextT n r = some g) : ∃ c r', r = c :: r' := by
  cases r with
  | nil => cases h
  | cons c r => exact ⟨c, r, rfl⟩
theorem isK_yes {n k : Int} {c : UInt8} (h : kd n c = k) : isK n k c = true := by unfold isK; rw [h]; simp
theorem isK_of {n k : Int} {c : UInt8} (h : isK n k c = true) : kd n c = k := by unfold isK at h; simpa using h
theorem isK_no {n k : Int} {c : UInt8} (h : isK n k c = false) : kd n c ≠ k := by unfold isK at h; simpa using h
theorem isK_ne {n k : Int} {c : UInt8} (h : kd n c ≠ k) : isK n k c = false := by unfold isK; simpa using h
theorem next_len {n : Int} {r : List UInt8} {g : Got} (h : nextT n r = some g) : 1 ≤ g.len ∧ g.len ≤ r.length := by
  obtain ⟨c, r, rfl⟩ := next_cons h
  rcases next_cases h with ⟨hk, rfl⟩ | ⟨hk, _, rfl⟩ | ⟨hk, ⟨h1, _⟩, rfl⟩ | ⟨_, rfl⟩
  · exact ⟨by show 1 ≤ runL _ _; rw [run_yes r (isK_yes hk)]; omega, run_le _ _⟩
  · exact ⟨by show 1 ≤ runL _ _; rw [run_yes r (isK_yes hk)]; omega, run_le _ _⟩
  · simp only [List.length_cons]; omega
  · simp only [List.length_cons]; omega
theorem next_kind {n : Int} {c : UInt8} {r : List UInt8} {g : Got} (h : nextT n (c :: r) = some g) : g.kind = kd n c := by
  rcases next_cases h with ⟨hk, rfl⟩ | ⟨hk, _, rfl⟩ | ⟨hk, _, rfl⟩ | ⟨_, rfl⟩
  · exact hk.symm
  · exact hk.symm
  · exact hk.symm
  · rfl
theorem next_bounds {n : Int} {r : List UInt8} {g : Got} (h : nextT n r = some g) : (1 ≤ g.kind ∧ g.kind ≤ 9) ∧ (0 ≤ g.num ∧ g.num ≤ 9223372036854775807) ∧ (g.kind ≠ 2 → g.num = 0) := by
  obtain ⟨c, r, rfl⟩ := next_cons h
  have hv := kd_vals n c
  rcases next_cases h with ⟨hk, rfl⟩ | ⟨hk, hb, rfl⟩ | ⟨hk, _, rfl⟩ | ⟨_, rfl⟩
  · simp
  · refine ⟨by simp, ⟨?_, ?_⟩, ?_⟩
    · show (0 : Int) ≤ (val 0 _ : Nat); omega
    · show ((val 0 _ : Nat) : Int) ≤ _; omega
    · intro h; exact absurd rfl h
  · simp
  · refine ⟨?_, by simp, by simp⟩
    show 1 ≤ kd n c ∧ kd n c ≤ 9
    omega
/-- How long its text says that it is. -/
theorem next_more {n : Int} {r : List UInt8} {g : Got} (h : nextT n r = some g) : g.text.length + (if g.kind = 9 then 2 else 0) = g.len := by
  obtain ⟨c, r, rfl⟩ := next_cons h
  rcases next_cases h with ⟨hk, rfl⟩ | ⟨hk, _, rfl⟩ | ⟨hk, ⟨h1, _⟩, rfl⟩ | ⟨⟨_, _, _, _, h9⟩, rfl⟩
  · simp only [upL_length, List.length_take]
    have := run_le (isK n 1) (c :: r)
    show min (runL _ _) _ + _ = runL _ _
    rw [if_neg (by omega)]; omega
  · simp only [List.length_take]
    have := run_le (isK n 2) (c :: r)
    show min (runL _ _) _ + _ = runL _ _
    rw [if_neg (by omega)]; omega
  · simp only [List.length_take, if_true]
    omega
  · show 1 + (if kd n c = 9 then 2 else 0) = 1
    rw [if_neg h9]
/-- Behind a symbol, or a number, stands nothing of its kind. -/
theorem next_stop {n : Int} {r : List UInt8} {g : Got} (h : nextT n r = some g) (hk : g.kind ≤ 2) (c : UInt8) (r' : List UInt8) (hd : r.drop g.len = c :: r') : kd n c ≠ g.kind := by
  have hb := (next_bounds h).1
  obtain ⟨c0, r, rfl⟩ := next_cons h
  rcases next_cases h with ⟨_, rfl⟩ | ⟨_, _, rfl⟩ | ⟨_, _, rfl⟩ | ⟨h5, rfl⟩
  · exact isK_no (run_stop _ _ _ _ hd)
  · exact isK_no (run_stop _ _ _ _ hd)
  · simp at hk
  · simp only at hk hb; omega

/-! ### All tokens -/

def lexF (n : Int) : Nat → Nat → List UInt8 → List (Tok × Nat)
  | 0, _, _ => []
  | f + 1, p, r => match nextT n r with
    | none => []
    | some g => (⟨g.kind, p, g.text, g.num⟩, p + g.len) :: lexF n f (p + g.len) (r.drop g.len)
theorem lexF_nil (n : Int) (f p : Nat) : lexF n f p [] = [] := by cases f <;> rfl
theorem lexF_more (n : Int) : ∀ (f f' p : Nat) (r : List UInt8), r.length ≤ f → r.length ≤ f' → lexF n f p r = lexF n f' p r
  | 0, f', p, r, h, _ => by
    have : r = [] := List.length_eq_zero_iff.1 (by omega)
    rw [this, lexF_nil, lexF_nil]
  | f + 1, 0, p, r, _, h => by
    have : r = [] := List.length_eq_zero_iff.1 (by omega)
    rw [this, lexF_nil, lexF_nil]
  | f + 1, f' + 1, p, r, h, h' => by
    unfold lexF
    cases e : nextT n r with
    | none => rfl
    | some g =>
      have := next_len e
      simp only
      rw [lexF_more n f f' _ _ (by rw [List.length_drop]; omega) (by rw [List.length_drop]; omega)]
/-- The tokens from a place on, each with where it ends. -/
def lexL (n : Int) (p : Nat) (r : List UInt8) : List (Tok × Nat) := lexF n r.length p r
theorem lexL_none {n : Int} {p : Nat} {r : List UInt8} (h : nextT n r = none) : lexL n p r = [] := by
  unfold lexL
  cases r with
  | nil => rfl
  | cons c r => show lexF n (r.length + 1) p (c :: r) = []; unfold lexF; rw [h]
theorem lexF_some {n : Int} {f p : Nat} {r : List UInt8} {g : Got} (h : nextT n r = some g) : lexF n (f + 1) p r = (⟨g.kind, p, g.text, g.num⟩, p + g.len) :: lexF n f (p + g.len) (r.drop g.len) := by simp only [lexF, h]
theorem lexL_some {n : Int} {p : Nat} {r : List UInt8} {g : Got} (h : nextT n r = some g) : lexL n p r = (⟨g.kind, p, g.text, g.num⟩, p + g.len) :: lexL n (p + g.len) (r.drop g.len) := by
  have hl := next_len h
  obtain ⟨c, r', rfl⟩ := next_cons h
  have e : lexL n p (c :: r') = lexF n (r'.length + 1) p (c :: r') := rfl
  rw [e, lexF_some h, lexF_more n r'.length (((c :: r').drop g.len).length) _ _ (by rw [List.length_drop]; simp only [List.length_cons] at hl ⊢; omega) (Nat.le_refl _)]
  rfl
def endL (p : Nat) (L : List (Tok × Nat)) : Nat := (L.getLast?.map Prod.snd).getD p
theorem endL_cons (p : Nat) (x : Tok × Nat) (L : List (Tok × Nat)) : endL p (x :: L) = endL x.2 L := by
  unfold endL
  cases L with
  | nil => rfl
  | cons y L => rw [List.getLast?_cons_cons]; cases h : (y :: L).getLast? with
    | none => simp at h
    | some z => rfl
theorem endL_app (p : Nat) (L : List (Tok × Nat)) (x : Tok × Nat) : endL p (L ++ [x]) = x.2 := by
  unfold endL; simp
/-- How far tokens have been told. -/
structure At (n : Int) (s : List UInt8) (pre : List (Tok × Nat)) (p : Nat) : Prop where
  eq : lexL n 0 s = pre ++ lexL n p (s.drop p)
  le : p ≤ s.length
  fin : endL 0 pre = p
  many : pre.length ≤ p
theorem At.start (n : Int) (s : List UInt8) : At n s [] 0 := ⟨by rw [List.drop_zero]; rfl, by omega, rfl, by simp⟩
theorem At.step {n : Int} {s : List UInt8} {pre : List (Tok × Nat)} {p : Nat} {g : Got} (h : At n s pre p) (hg : nextT n (s.drop p) = some g) : At n s (pre ++ [(⟨g.kind, p, g.text, g.num⟩, p + g.len)]) (p + g.len) := by
  have hl := next_len hg
  rw [List.length_drop] at hl
  refine ⟨?_, by have := h.le; omega, endL_app _ _ _, by rw [List.length_append]; have := h.many; simp; omega⟩
  rw [h.eq, lexL_some hg, List.append_assoc, List.drop_drop]; rfl
theorem At.stop {n : Int} {s : List UInt8} {pre : List (Tok × Nat)} {p : Nat} (h : At n s pre p) (hg : nextT n (s.drop p) = none) : lexL n 0 s = pre := by
  rw [h.eq, lexL_none hg, List.append_nil]
theorem At.done {n : Int} {s : List UInt8} {pre : List (Tok × Nat)} (h : At n s pre s.length) : lexL n 0 s = pre := by
  refine h.stop ?_
  rw [List.drop_length]; rfl
/-- What comes next. -/
theorem At.next {n : Int} {s : List UInt8} {pre post : List (Tok × Nat)} {p : Nat} {x : Tok × Nat} (h : At n s pre p) (e : lexL n 0 s = pre ++ x :: post) : ∃ g, nextT n (s.drop p) = some g ∧ x = (⟨g.kind, p, g.text, g.num⟩, p + g.len) := by
  have e1 := h.eq.symm.trans e
  have e2 := List.append_cancel_left e1
  cases hg : nextT n (s.drop p) with
  | none => rw [lexL_none hg] at e2; cases e2
  | some g =>
    rw [lexL_some hg] at e2
    injection e2 with e2 _
    exact ⟨g, rfl, e2.symm⟩
theorem lexL_length (n : Int) : ∀ (k p : Nat) (r : List UInt8), r.length ≤ k → (lexL n p r).length ≤ r.length
  | 0, p, r, h => by
    have : r = [] := List.length_eq_zero_iff.1 (by omega)
    rw [this]; exact Nat.le_refl _
  | k + 1, p, r, h => by
    cases e : nextT n r with
    | none => rw [lexL_none e]; simp
    | some g =>
      have hl := next_len e
      rw [lexL_some e, List.length_cons]
      have := lexL_length n k (p + g.len) (r.drop g.len) (by rw [List.length_drop]; omega)
      rw [List.length_drop] at this
      omega
theorem lex_len (n : Int) (s : List UInt8) : (lexL n 0 s).length ≤ s.length := lexL_length n s.length 0 s (Nat.le_refl _)
/-- Every beginning of what is told has its place. -/
theorem At.of {n : Int} {s : List UInt8} : ∀ (k : Nat), k ≤ (lexL n 0 s).length → ∃ p, At n s ((lexL n 0 s).take k) p
  | 0, _ => ⟨0, by rw [List.take_zero]; exact At.start n s⟩
  | k + 1, hk => by
    obtain ⟨p, hp⟩ := At.of (n := n) (s := s) k (by omega)
    have hx : lexL n 0 s = (lexL n 0 s).take k ++ (lexL n 0 s)[k] :: (lexL n 0 s).drop (k + 1) := by
      rw [← List.drop_eq_getElem_cons (by omega), List.take_append_drop]
    obtain ⟨g, hg, he⟩ := hp.next hx
    refine ⟨p + g.len, ?_⟩
    rw [List.take_succ_eq_append_getElem (by omega), he]
    exact hp.step hg
theorem lex_end (n : Int) (s : List UInt8) : endL 0 (lexL n 0 s) ≤ s.length := by
  obtain ⟨p, hp⟩ := At.of (n := n) (s := s) (lexL n 0 s).length (Nat.le_refl _)
  rw [List.take_length] at hp
  rw [hp.fin]; exact hp.le

end Go.Proofs.YthofogokpolhdaaGreatDoor.Toks

namespace Go.Proofs.YthofogokpolhdaaGreatDoor.Parses
open Go.Proofs.YthofogokpolhdaaGreatDoor.Trees (Stp)
open Go.Proofs.YthofogokpolhdaaGreatDoor.Toks (Tok)
set_option linter.unusedVariables false
set_option linter.unusedSimpArgs false

/-- How far the reading is: what may stand there (0 behind open, 1 behind an operator, 2 and 3 behind a symbol, 4 behind Pow, 5 behind a sign, 6 behind a base, 7 behind a note), what waits (the last one for the innermost main), whether a number is one below 0, the steps. -/
structure Rd where
  may : Nat
  waits : List Int
  below : Bool
  tree : List Stp
inductive Got where
  | go (s : Rd)
  | no
  | deep

/-- Does a token of that kind stand there? -/
def isK (L : List Tok) (i : Nat) (k : Int) : Bool := decide (i < L.length) && decide ((L.getD i default).kind = k)
def opStep (op : Int) : Stp := ⟨op, -1, 0, 0, 0, []⟩
def putS (s : Rd) (x : Stp) : Rd := { s with tree := s.tree ++ [x] }
def closeS (s : Rd) : Rd := if s.waits.getLastD 0 = 0 then s else putS s (opStep (s.waits.getLastD 0))
def waitS (s : Rd) (op : Int) : Rd := { s with waits := s.waits.dropLast ++ [op], may := 1 }
def openS (s : Rd) : Rd := { s with waits := s.waits ++ [0], may := 0 }
def mayS (s : Rd) (k : Nat) : Rd := { s with may := k }
/-- The last step's power. -/
def powS (s : Rd) (k : Int) : Rd := { s with tree := s.tree.dropLast ++ [{ s.tree.getLastD default with n := k }] }

def inverseG (L : List Tok) (i : Nat) (s : Rd) : Got := if isK L i 5 = true then .go (waitS s 5) else .no
def symbolG (pow : Bool) (L : List Tok) (i : Nat) (s : Rd) : Got :=
  if isK L i 1 = true then .go { putS s ⟨2, -1, (i : Int), 1, 0, []⟩ with below := false, may := if pow = true then 2 else 3 } else .no
def numberG (L : List Tok) (i : Nat) (s : Rd) : Got :=
  if isK L i 2 = true ∧ 1 ≤ (L.getD i default).num then .go (mayS (putS s ⟨1, -1, 0, 0, (L.getD i default).num, []⟩) 6) else .no
def leftG (L : List Tok) (i : Nat) (s : Rd) : Got := if isK L i 7 = true then (if s.waits.length = 33 then .deep else .go (openS s)) else .no
def notedG (L : List Tok) (i : Nat) (s : Rd) (op : Int) : Got := if isK L i 9 = true then .go (mayS (putS s ⟨op, -1, 0, 0, 0, (L.getD i default).text⟩) 7) else .no
def signG (L : List Tok) (i : Nat) (s : Rd) : Got := if isK L i 3 = true then .go { s with below := decide ((L.getD i default).text = [45]), may := 5 } else .no
def powerG (L : List Tok) (i : Nat) (s : Rd) : Got :=
  if isK L i 2 = true ∧ 0 ≤ (L.getD i default).num ∧ (L.getD i default).num ≤ 99 then .go (mayS (powS s (if s.below = true then 0 - (L.getD i default).num else (L.getD i default).num)) 6) else .no
def operatorG (L : List Tok) (i : Nat) (s : Rd) : Got :=
  if isK L i 4 = true then .go (waitS (closeS s) 3) else if isK L i 5 = true then .go (waitS (closeS s) 4) else .no
def rightG (L : List Tok) (i : Nat) (s : Rd) : Got :=
  if isK L i 8 = true ∧ s.waits.length ≠ 1 then .go (mayS { closeS s with waits := s.waits.dropLast } 6) else .no
def endG (L : List Tok) (i : Nat) (s : Rd) : Got := if i < L.length ∨ 1 < s.waits.length then .no else .go (closeS s)
def raiseG (L : List Tok) (i : Nat) (s : Rd) : Got := if isK L i 6 = true then .go (mayS s 4) else .no

/-- Those that are asked, by numbers. -/
def askG (pow : Bool) (L : List Tok) (i : Nat) (s : Rd) : Nat → Got
  | 0 => inverseG L i s
  | 1 => symbolG pow L i s
  | 2 => numberG L i s
  | 3 => leftG L i s
  | 4 => notedG L i s 7
  | 5 => signG L i s
  | 6 => powerG L i s
  | 7 => notedG L i s 6
  | 8 => operatorG L i s
  | 9 => rightG L i s
  | 10 => endG L i s
  | _ => raiseG L i s
/-- Who is asked where. -/
def rowOf : Nat → List Nat
  | 0 => [0, 1, 2, 3, 4]
  | 1 => [1, 2, 3, 4]
  | 2 => [11, 7, 8, 9, 10]
  | 3 => [5, 6, 7, 8, 9, 10]
  | 4 => [5, 6]
  | 5 => [6]
  | 6 => [7, 8, 9, 10]
  | 8 => []
  | _ => [8, 9, 10]
/-- The first one that takes what stands there. -/
def firstG (pow : Bool) (L : List Tok) (i : Nat) (s : Rd) : List Nat → Got
  | [] => .no
  | k :: r => match askG pow L i s k with
    | .no => firstG pow L i s r
    | g => g
/-- How the reading ends: the steps; or an error, at a token. -/
inductive Red where
  | done (s : Rd)
  | bad (err : Int) (at_ : Nat)
def readG (pow : Bool) (L : List Tok) : Nat → Nat → Rd → Red
  | _, 0, s => .done s
  | i, m + 1, s => match firstG pow L i s (rowOf s.may) with
    | .go s' => readG pow L (i + 1) m s'
    | .no => .bad 14 i
    | .deep => .bad 13 i
def placeG (L : List Tok) (size : Int) (i : Nat) : Int := if i < L.length then ((L.getD i default).pos : Int) else size
/-- As it is made: nothing may stand there yet. -/
def zeroR : Rd := ⟨8, [], false, []⟩
def startR : Rd := openS zeroR
/-- All tokens, and the end behind them. -/
def readAll (pow : Bool) (L : List Tok) : Red := readG pow L 0 (L.length + 1) startR

end Go.Proofs.YthofogokpolhdaaGreatDoor.Parses

